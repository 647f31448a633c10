import PyProof.Rows.All
import Wide.All
import OpenK.AllK
import Wide.FinOn
import Lean
import PyProof.EqAt
import PyProof.EqKinds
import PyProof.TupleCall
import PyProof.NeKinds
import PyProof.ListRange
import KE.KDictSum
import Wide.Seal
import PyProof.EnumIter
import PyProof.EnumFor
import PyProof.EnumMake
import PyProof.EnumStmt
import PyProof.ConsumeWalk
import KE.KPairComp
import PyProof.DictItemsLoops
import KE.KEqDict
import PyProof.AttrMissSeq
import PyProof.CollectWalk
import OpenK.KTop
import PyProof.TupleOps
import PyProof.ListMulRoad
import PyProof.FactsAll.tuple_2
import PyProof.StrBlock2
import PyProof.Rows.SortWalk
import KE.KFind
import PyProof.StationsW
import PyProof.Rows.OwnQ
import OpenK.KOwn
import KE.KTryMore
import PyProof.NsDelKeeps
import PyProof.ExcArgsOwn
import PyProof.ExcAttrAll.ValueError
import PyProof.InstStoreFacts
import PyProof.ExcBaseAll.ValueError
import PyProof.Rows.FStr
import OpenK.KCls
import PyProof.ZipIter
import PyProof.TupleIter
import PyProof.WalksMore
import KE.KTurns
import PyProof.FactsAll.subtypes_4
import PyProof.ListNew
import PySem.Challenge.RW_widenrows_k71_taken_out_by_a_paper
set_option Elab.async false
set_option linter.all false
set_option maxRecDepth 100000
open List renaming getElem?_eq_getElem → ac, getElem?_map → ag, getElem?_eq_some_iff → al, mem_of_getElem? → am, size_toArray → ar, length_append → av, getElem?_append_left → ax, getElem?_append_right → bc, mem_singleton → bd, getElem_mem → bi, getElem?_set → bn, length_cons → ci, map_cons → cp
open PySem renaming wpAny_bind → de, wpAny_pure → dL, mainGlobals → eh, FuncData → el, sizeLine → em, wpAny_mono → en, wpAny_call_entry → ff
open PySem.Heap renaming get?_push_of_some → fg, get?_push_size → fm, lt_size → fw
open PySem.F renaming plainAttrs_list → ge, slot_list_append → gf, type_list_append → gl
open PySem.W renaming Frag → gt, findIn → jp
open Nat renaming le_refl → ki, ne_of_lt → kt, lt_of_le_of_lt → kU, le_trans → li
open Bool renaming false_ne_true → lm
open Int renaming toNat_natCast → lv
local macro_rules | `(tactic| walk_at "sc1") => `(tactic| exact ⟨rfl,rfl,rfl,by decide +kernel,rfl,by decide +kernel,by decide +kernel⟩)
local macro_rules | `(tactic| walk_at "sc2") => `(tactic| exact ⟨rfl,by decide +kernel,by decide +kernel,by decide +kernel,by decide +kernel,by decide +kernel⟩)
local macro_rules | `(tactic| walk_at "ln") => `(tactic| (intro vs H Q E h; first | (cases h; subst_vars; rfl) | (repeat (first | (obtain ⟨e, _⟩ := h; subst e; rfl) | (obtain ⟨_, h⟩ := h)))))
namespace L2
open PySem PySem.Spec PyProof.Rows
abbrev Key:=Sum Int Str
def rL:Key->Value->Bool
 | .inl k,v=>Value.isInt k v
 | .inr x,v=>Value.isStrOf x v
def Tt(w:World):Key->Int
 | .inl k=>hashInt k
 | .inr x=>hashStr w x
theorem cP:∀{k:Key} {v:Value},rL k v=true->(∃i t,k=Sum.inl i/\v=Value.int i t)\/(∃x t,k=Sum.inr x/\v=Value.str x t)
 | .inl i,v,h=>by
  obtain⟨t,e⟩:=Value.isInt_shape (k:=i) (v:=v) h;exact .inl ⟨i,t,rfl,e⟩
 | .inr x,v,h=>by obtain⟨t,e⟩:=Value.isStrOf_shape (x:=x) (v:=v) h;exact .inr ⟨x,t,rfl,e⟩
theorem Am(i:Int)(t:Tok):rL (.inl i) (.int i t)=true:=by simp[rL,Value.isInt]
theorem Ao(x:Str)(t:Tok):rL (.inr x) (.str x t)=true:=by simp[rL,Value.isStrOf]
theorem JB(a b:Int):decide ((Sum.inl a:Key)=Sum.inl b)=(a==b):=by
 by_cases e:a=b
 ·subst e;simp
 ·have h:¬(Sum.inl a:Key)=Sum.inl b:=fun q=>e (Sum.inl.inj q);rw[decide_eq_false h];exact(beq_eq_false_iff_ne.mpr e).symm
theorem JC(a b:Str):decide ((Sum.inr a:Key)=Sum.inr b)=decide (a=b):=by
 by_cases e:a=b
 ·subst e;simp
 ·have h:¬(Sum.inr a:Key)=Sum.inr b:=fun q=>e (Sum.inr.inj q);rw[decide_eq_false h,decide_eq_false e]
theorem JD(a:Int)(b:Str):decide ((Sum.inl a:Key)=Sum.inr b)=false:=decide_eq_false (fun q=>nomatch q)
theorem JE(a:Str)(b:Int):decide ((Sum.inr a:Key)=Sum.inl b)=false:=decide_eq_false (fun q=>nomatch q)
def cQ(prog:Program)(w:World):PySem.KeyKind prog w Key where
 is:=rL
 hash:=Tt w
 inj:=fun v a b ha hb=>by
  rcases cP ha with ⟨i,t,rfl,rfl⟩ | ⟨x,t,rfl,rfl⟩
  ·rcases cP hb with ⟨j,u,rfl,e⟩ | ⟨y,u,rfl,e⟩
   ·injection e with e1 _;rw[e1]
   ·exact nomatch e
  ·rcases cP hb with ⟨j,u,rfl,e⟩ | ⟨y,u,rfl,e⟩
   ·exact nomatch e
   ·injection e with e1 _;rw[e1]
 byValue:=fun k v h=>by rcases cP h with ⟨i,t,rfl,rfl⟩ | ⟨x,t,rfl,rfl⟩<;>rfl
 pyHash:=fun hv h=>by
  rcases cP hv with ⟨i,t,rfl,rfl⟩ | ⟨x,t,rfl,rfl⟩
  ·exact wpAny_pyHash_int h
  ·exact wpAny_pyHash_str h
 eqBool:=fun hu hv h=>by
  rcases cP hu with ⟨i,t,rfl,rfl⟩ | ⟨x,t,rfl,rfl⟩
  ·rcases cP hv with ⟨j,u,rfl,rfl⟩ | ⟨y,u,rfl,rfl⟩
   ·rw[JB]at h;exact wpAny_eqBool_int h
   ·rw[JD]at h;exact SeqAt.EqAt.int_str i t y u _ _ _ _ h
  ·rcases cP hv with ⟨j,u,rfl,rfl⟩ | ⟨y,u,rfl,rfl⟩
   ·rw[JE]at h;exact SeqAt.EqAt.str_int x t j u _ _ _ _ h
   ·rw[JC]at h;exact wpAny_eqBool_str h
 «strs»:=fun k x t v h=>by
  rcases cP h with ⟨i,u,rfl,e⟩ | ⟨y,u,rfl,e⟩
  ·exact nomatch e
  ·injection e with e1 _
   subst e1;cases v<;>rfl
theorem uP(prog:Program)(w:World)(i:Int)(t:Tok):(cQ prog w).is (.inl i) (.int i t)=true:=Am i t
theorem uQ(prog:Program)(w:World)(x:Str)(t:Tok):(cQ prog w).is (.inr x) (.str x t)=true:=Ao x t
inductive V where
 | non | bl (b:Bool) | int (i:Int) | str (x:Str) | B2 (b:Array UInt8) | flt (b:UInt64) | ref (a:Addr) | ty (n:String)
 deriving DecidableEq
def RelV:V->Value->Prop
 | .non,u=>u=Value.none
 | .bl b,u=>u=Value.bool b
 | .int i,u=>∃t,u=Value.int i t
 | .str x,u=>∃t,u=Value.str x t
 | .B2 b,u=>∃t,u=Value.bytes b t
 | .flt b,u=>∃t,u=Value.float b t
 | .ref a,u=>u=Value.ref a
 | .ty n,u=>u=Value.type n
abbrev Vals:List V->List Value->Prop:=Paired RelV
theorem Vals.length{xs:List V}{us:List Value}(r:Vals xs us):xs.length=us.length:=Paired.length r
theorem Vals.get:∀{xs:List V} {us:List Value} {i:Nat} {x:V},Vals xs us->xs[i]? =some x->∃u,us[i]? =some u/\RelV x u
 | _,_,_,_,.nil,e=>by simp at e
 | _,_,0,_,.cons r _,e=>by simp at e;subst e;exact⟨_,rfl,r⟩
 | _,_,i+1,x,.cons _ t,e=>by obtain⟨u,h1,h2⟩:=Vals.get (i:=i) (x:=x) t (by simpa using e);exact⟨u,by simpa using h1,h2⟩
theorem Vals.set{x:V}{u:Value}(r:RelV x u):∀{xs:List V} {us:List Value} (i:Nat),Vals xs us->Vals (xs.set i x) (us.set i u)
 | _,_,_,.nil=>.nil
 | _,_,0,.cons _ t=>.cons r t
 | _,_,i+1,.cons q t=>.cons q (Vals.set r i t)
theorem Vals.append:∀{xs ys:List V} {us ws:List Value},Vals xs us->Vals ys ws->Vals (xs++ys) (us++ws)
 | _,_,_,_,.nil,s=>s
 | _,_,_,_,.cons r t,s=>.cons r (Vals.append t s)
theorem Vals.take:∀{xs:List V} {us:List Value} (n:Nat),Vals xs us->Vals (xs.take n) (us.take n)
 | _,_,0,_=>.nil
 | _,_,_+1,.nil=>.nil
 | _,_,n+1,.cons r t=>.cons r (Vals.take n t)
theorem Vals.drop:∀{xs:List V} {us:List Value} (n:Nat),Vals xs us->Vals (xs.drop n) (us.drop n)
 | _,_,0,r=>r
 | _,_,_+1,.nil=>.nil
 | _,_,n+1,.cons _ t=>Vals.drop n t
def gH:Option V->Option Value->Prop
 | some v,some u=>RelV v u
 | none,none=>True
 | _,_=>False
def KV{κ:Type}:List (κ×V)->List (κ×Value)->Prop:=Paired fun(p:κ×V) (q:κ×Value)=>p.1=q.1/\RelV p.2 q.2
def kV:Key->V
 | .inl i=>.int i
 | .inr x=>.str x
inductive HO where
 | lst (xs:List V)
 | tup (xs:List V)
 | dK (kvs:List (Key×V)) | dT (kvs:List (List Key×V))
 | set (S:Int->Bool) (n:Nat)
 | ins (C dx:Addr) (fs:List (Str×V))
 | own (x:Addr)
 | xd (fs:List (Str×V))
 | met (f x:Addr)
 | rng (lo hi:Int)
 | jg (o:Obj) (u:HO)
 | Ij (ps:Array Value)
 | ext (φ:Heap->Prop)
abbrev Hp:=Addr->Option HO
def upd(H:Hp)(a:Addr)(o:HO):Hp:=fun b=>if b=a then some o else H b
theorem ai{H:Hp}{a:Addr}{o:HO}:upd H a o a=some o:=by unfold upd;rw[if_pos rfl]
theorem az{H:Hp}{a b:Addr}{o:HO}(h:b≠a):upd H a o b=H b:=by unfold upd;rw[if_neg h]
theorem jh{H:Hp}{a:Addr}{o u:HO}:upd (upd H a o) a u=upd H a u:=by funext b;unfold upd;split<;>rfl
theorem jy{H:Hp}{a b:Addr}{o u:HO}(h:H a=some o)(h':H b=some u)(d:o≠u):a≠b:=by intro e;subst e;rw[h]at h';exact d (Option.some.inj h')
theorem bt{H:Hp}{a b:Addr}{o:HO}(h:H a=some o)(h':H b=none):a≠b:=by intro e;subst e;rw[h]at h';cases h'
section
variable (P:Program)(w:World)
def bJ(H:Hp)(h:Heap)(a:Addr):HO->Prop
 | .lst xs=>xs.length<=em/\∃(its:List Value) (n:Nat),Vals xs its/\h.get? a=some {cls:=.type "list",data:=.seq its.toArray n}
 | .tup xs=>xs.length<=em/\∃its:List Value,Vals xs its/\IsTup h a its.toArray
 | .dK kvs=>kvs.length<=em/\(a==sysModules)=false/\∃vs,KV kvs vs/\h.DictOf (cQ P w) a vs
 | .dT kvs=>kvs.length<=em/\(a==sysModules)=false/\∃xs:List (List Key×Addr×Value),
   Paired (fun(p:List Key×V) (q:List Key×Addr×Value)=>p.1=q.1/\H q.2.1=some (.tup (p.1.map kV))/\RelV p.2 q.2.2) kvs xs/\
   ∃o es ep,h.get? a=some o/\o.ExactDict/\o.data=.dict es ep/\es.toList=xs.map (entryOfKey (tupleKind (cQ P w)))/\(xs.map (·.1)).Nodup
 | .set S n=>h.SetOf (intKind P w) a S n
 | .ins C dx fs=>H dx=some (.own a)/\fs.length<=1000/\dx≠a/\h.get? a=some (PySem.W.instObj C dx)/\
   ∃mA,h.Ns1 dx mA/\(∀f,gH (fs.lookup f) (mA f))/\PySem.Within mA (fs.map (·.1))
 | .own _=>∃o,h.get? a=some o
 | .xd fs=>∃mA,h.Ns1 a mA/\∀f,gH (fs.lookup f) (mA f)
 | .rng lo hi=>∃t u v,h.get? a=some {cls:=.type "range",data:=.fields #[.int lo t,.int hi u,.int 1 v]}
 | .jg o u=>h.get? a=some o/\bJ H h a u
 | .Ij ps=>h.get? a=some {cls:=.none,data:=.fields ps}
 | .met f x=>h.get? a=some (PySem.W.methodObj (.ref f) (.ref x))
 | .ext φ=>φ h/\(∃o,h.get? a=some o)/\∀h1 h2:Heap,φ h1->(∀o,h1.get? a=some o->h2.get? a=some o)->φ h2
def ji(H:Hp)(h:Heap):Prop:=∀a o,H a=some o->bJ P w H h a o
end
section
variable {P:Program}{w:World}{H H':Hp}{h h':Heap}{a:Addr}{o:HO}
theorem bJ.lt(x:bJ P w H h a o):a<h.objs.size:=by
 cases o with
 | lst xs=>obtain⟨_,_,_,_,e⟩:=x;exact fw e
 | tup xs=>obtain⟨_,_,_,p⟩:=x;exact p.lt
 | dK kvs=>obtain⟨_,_,_,_,o,_,_,e,_⟩:=x;exact fw e
 | dT kvs=>obtain⟨_,_,_,_,o,_,_,e,_⟩:=x;exact fw e
 | set S n=>obtain⟨o,_,_,_,e,_⟩:=x;exact fw e
 | ins C dx fs=>obtain⟨_,_,_,e,_⟩:=x;exact fw e
 | own y=>obtain⟨_,e⟩:=x;exact fw e
 | xd fs=>obtain⟨_,⟨_,_,_,e,_⟩,_⟩:=x;exact fw e
 | rng lo hi=>obtain⟨_,_,_,e⟩:=x;exact fw e
 | jg ob u=>obtain⟨e,_⟩:=x;exact fw e
 | Ij ps=>exact fw (show h.get? a=some _ from x)
 | met f y=>exact fw (show h.get? a=some _ from x)
 | ext φ=>obtain⟨_,⟨_,e⟩,_⟩:=x;exact fw e
theorem Paired.JF{α β:Type}{F G:α->β->Prop}:∀{l₁:List α} {l₂:List β},Paired F l₁ l₂->(∀a b,F a b->G a b)->Paired G l₁ l₂
 | _,_,.nil,_=>.nil
 | _,_,.cons r t,f=>.cons (f _ _ r) (Paired.JF t f)
theorem bJ.stay(x:bJ P w H h a o)(k:∀b u,(b=a\/H b=some (.own a))->h.get? b=some u->h'.get? b=some u)
  (ho:∀b,H b=some (.own a)->H' b=some (.own a)) (ht:∀b xs,H b=some (.tup xs)->H' b=some (.tup xs)):bJ P w H' h' a o:=by
 induction o with
 | lst xs=>obtain⟨z,its,n,r,e⟩:=x;exact⟨z,its,n,r,k _ _ (.inl rfl) e⟩
 | tup xs=>obtain⟨z,its,r,ob,e,c⟩:=x;exact⟨z,its,r,ob,k _ _ (.inl rfl) e,c⟩
 | dK kvs=>obtain⟨z,y,vs,r,ob,es,ep,e,c⟩:=x;exact⟨z,y,vs,r,ob,es,ep,k _ _ (.inl rfl) e,c⟩
 | dT kvs=>
  obtain⟨z,y,xs,r,ob,es,ep,e,c⟩:=x;exact⟨z,y,xs,Paired.JF r fun p q z=>⟨z.1,ht _ _ z.2.1,z.2.2⟩,ob,es,ep,k _ _ (.inl rfl) e,c⟩
 | set S n=>obtain⟨ob,es,ep,t,e,c⟩:=x;exact⟨ob,es,ep,t,k _ _ (.inl rfl) e,c⟩
 | ins C dx fs=>
  obtain⟨d,z,ne,e,mA,⟨od,es,ep,e2,c⟩,r⟩:=x;exact⟨ho _ d,z,ne,k _ _ (.inl rfl) e,mA,⟨od,es,ep,k _ _ (.inr d) e2,c⟩,r⟩
 | own y=>obtain⟨ob,e⟩:=x;exact⟨ob,k _ _ (.inl rfl) e⟩
 | xd fs=>obtain⟨mA,⟨od,es,ep,e,c⟩,r⟩:=x;exact⟨mA,⟨od,es,ep,k _ _ (.inl rfl) e,c⟩,r⟩
 | rng lo hi=>obtain⟨t,u,v,e⟩:=x;exact⟨t,u,v,k _ _ (.inl rfl) e⟩
 | jg ob u ih=>obtain⟨e,q⟩:=x;exact⟨k _ _ (.inl rfl) e,ih q⟩
 | Ij ps=>
  have e:h.get? a=some {cls:=.none,data:=.fields ps}:=x;show h'.get? a=some {cls:=.none,data:=.fields ps};exact k a _ (.inl rfl) e
 | met f y=>
  have e:h.get? a=some (PySem.W.methodObj (.ref f) (.ref y)):=x;show h'.get? a=some (PySem.W.methodObj (.ref f) (.ref y));exact k a _ (.inl rfl) e
 | ext φ=>obtain⟨p,⟨o,e⟩,st⟩:=x;exact⟨st _ _ p fun o q=>k _ _ (.inl rfl) q,⟨o,k _ _ (.inl rfl) e⟩,st⟩
theorem ji.lt(x:ji P w H h)(e:H a=some o):a<h.objs.size:=(x a o e).lt
theorem ji.fresh(x:ji P w H h)(e:h.objs.size<=a):H a=none:=by
 cases q:H a with
 | none=>rfl
 | some u=>exact absurd (Nat.lt_of_lt_of_le (x.lt q) e) (Nat.lt_irrefl _)
theorem ji.kept(x:ji P w H h)(k:∀b u,h.get? b=some u->h'.get? b=some u):ji P w H h':=fun a o e=>
 (x a o e).stay (fun b u _ q=>k b u q) (fun _ q=>q) fun _ _ q=>q
theorem ji.laid(x:ji P w H h)(k:∀b u,h.get? b=some u->h'.get? b=some u)(hp:h.objs.size<=a)(new:bJ P w (upd H a o) h' a o):ji P w (upd H a o) h':=fun b u e=>by
 have hn:=x.fresh hp;by_cases hb:b=a
 ·subst hb;rw[ai]at e;cases e;exact new
 ·rw[az hb]at e;exact(x b u e).stay (fun c v _ q=>k c v q) (fun c q=>by rw[az (bt q hn)];exact q) fun c xs q=>by rw[az (bt q hn)];exact q
def Rd(H:Hp)(a:Addr)(u:HO):Prop:=H a=some u\/∃o,H a=some (.jg o u)
theorem Rd.of{H:Hp}{a:Addr}{u:HO}(h:H a=some u):Rd H a u:=.inl h
theorem Rd.ok{P:Program}{w:World}{H:Hp}{h:Heap}{a:Addr}{u:HO}(r:Rd H a u)(x:ji P w H h):bJ P w H h a u:=by
 rcases r with r | ⟨o,r⟩
 ·exact x a u r
 ·obtain⟨_,q⟩:=x a _ r;exact q
def NY:Option HO->Prop
 | some (.lst _)=>True
 | some (.dK _)=>True
 | some (.dT _)=>True
 | some (.set _ _)=>True
 | some (.ins _ _ _)=>True
 | some (.ext _)=>True
 | _=>False
variable {x e:Addr}{o':HO}
theorem ji.write(ok:ji P w H h)(mu:NY (H x))(he:e=x\/H e=some (.own x))(k:∀b u,b≠e->h.get? b=some u->h'.get? b=some u)(heo:∃u,h'.get? e=some u)
  (new:bJ P w (upd H x o') h' x o'):ji P w (upd H x o') h':=fun b u q=>by
 have NZ:∀c y,H c=some (.own y)->c≠x:=fun c y r z=>by subst z;rw[r]at mu;exact mu
 have Tv:∀c xs,H c=some (.tup xs)->c≠x:=fun c xs r z=>by subst z;rw[r]at mu;exact mu
 by_cases hb:b=x
 ·subst hb;rw[ai]at q;cases q;exact new
 ·rw[az hb]at q;by_cases hbe:b=e
  ·have q':H b=some (.own x):=by
    rcases he with z | z
    ·exact absurd (hbe.trans z) hb
    ·rw[hbe];exact z
   rw[q]at q';cases q';obtain⟨v,hv⟩:=heo;exact⟨v,by rw[hbe];exact hv⟩
  ·refine(ok b u q).stay (fun c v hc r=>k c v ?_ r) (fun c r=>by rw[az (NZ c b r)];exact r) fun c xs r=>by rw[az (Tv c xs r)];exact r
   rcases hc with rfl | hc
   ·exact hbe
   ·rintro rfl;rcases he with z | z
    ·exact NZ c b hc z
    ·rw[hc]at z;cases z;exact hb rfl
structure Un(fs ex:List Addr)(H H':Hp)(h h':Heap):Prop where
 keep:∀b o,h.get? b=some o->H b=none->b∉fs->b∉ex->h'.get? b=some o
 slot:∀b o,h.get? b=some o->H b=none->b∈fs->b∉ex->∃sl,h'.get? b=some {o with slots:=sl}
 free:∀b o,h.get? b=some o->H b=none->b∉ex->H' b=none
 there:∀b o,h.get? b=some o->b∉ex->∃o',h'.get? b=some o'
 tups:∀b xs,H b=some (.tup xs)->H' b=some (.tup xs)
 mV:∀b o u,H b=some (.jg o u)->H' b=some (.jg o u)
 qI:∀b ps,H b=some (.Ij ps)->∃more,H' b=some (.Ij (ps++more))
variable {fs fs' ex ex':List Addr}{H1 H2:Hp}{h1 h2:Heap}
theorem Un.any(u:Un fs ex H H1 h h1){b:Addr}{ob:Obj}(q:h.get? b=some ob)(n:H b=none)(hx:b∉ex):∃sl,h1.get? b=some {ob with slots:=sl}:=by
 by_cases hb:b∈fs
 ·exact u.slot b ob q n hb hx
 ·exact⟨ob.slots,u.keep b ob q n hb hx⟩
theorem Un.kept(k:∀b u,h.get? b=some u->h'.get? b=some u):Un fs ex H H h h' :=
 ⟨fun b ob q _ _ _=>k b ob q,fun b ob q _ _ _=>⟨ob.slots,k b ob q⟩,fun _ _ _ n _=>n,fun b ob q _=>⟨ob,k b ob q⟩,fun _ _ q=>q,fun _ _ _ q=>q,fun _ ps q=>⟨#[],by rw[q];simp⟩⟩
theorem Un.refl:Un fs ex H H h h:=Un.kept fun _ _ q=>q
theorem Un.laid(k:∀b u,h.get? b=some u->h'.get? b=some u)(hp:h.objs.size<=a)(hn:H a=none):Un fs ex H (upd H a o) h h' where
 keep:=fun b u q _ _ _=>k b u q
 slot:=fun b u q _ _ _=>⟨u.slots,k b u q⟩
 free:=fun b u q n _=>by rw[az (kt (Nat.lt_of_lt_of_le (fw q) hp))];exact n
 there:=fun b u q _=>⟨u,k b u q⟩
 tups:=fun b xs q=>by rw[az (bt q hn)];exact q
 mV:=fun b u xs q=>by rw[az (bt q hn)];exact q
 qI:=fun b ps q=>⟨#[],by rw[az (bt q hn),q];simp⟩
theorem Un.write(mu:NY (H x))(he:e=x\/H e=some (.own x))(k:∀b u,b≠e->h.get? b=some u->h'.get? b=some u)(heo:∃u,h'.get? e=some u):Un fs ex H (upd H x o) h h':=by
 have hx:∀b,H b=none->b≠x:=fun b n z=>by subst z;rw[n]at mu;exact mu
 have hb:∀b,H b=none->b≠e:=fun b n z=>by
  subst z;rcases he with r | r
  ·exact hx b n r
  ·rw[n]at r;cases r
 have hm:∀b u,H b=some u->¬NY (some u)->b≠x:=fun b u q nm z=>by subst z;rw[q]at mu;exact nm mu
 refine⟨fun b u q n _ _=>k b u (hb b n) q,fun b u q n _ _=>⟨u.slots,k b u (hb b n) q⟩,fun b u q n _=>by rw[az (hx b n)];exact n,fun b u q _=>?_,
  fun b xs q=>by rw[az (hm b _ q fun z=>z)];exact q,fun b u xs q=>by rw[az (hm b _ q fun z=>z)];exact q,fun b ps q=>⟨#[],by rw[az (hm b _ q fun z=>z),q];simp⟩⟩
 by_cases hbe:b=e
 ·subst hbe;exact heo
 ·exact⟨u,k b u hbe q⟩
end
def RU(h:Heap)(H:Hp):List Addr:=(List.range h.objs.size).filter fun a=>(H a).isSome
def sv(h:Heap)(H:Hp):Heap:=PySem.W.hideAll h (RU h H)
theorem Ap(h:Heap)(H:Hp):(sv h H).objs.size=h.objs.size:=PySem.W.hideAll_size _ _
theorem Cg{h:Heap}{H:Hp}{b:Addr}{o:Obj}(e:h.get? b=some o)(n:H b=none):(sv h H).get? b=some o :=
 PySem.W.hideAll_get _ e fun hm=>by have q:(H b).isSome=true:=(List.mem_filter.mp hm).2;rw[n]at q;simp at q
theorem FG{h:Heap}{H:Hp}{b:Addr}{o:Obj}(e:(sv h H).get? b=some o):h.get? b=some o/\H b=none:=by
 have e':h.get? b=some o:=PySem.W.of_hideAll (RU h H) e;refine⟨e',?_⟩;cases q:H b with
 | none=>rfl
 | some x=>
  have hm:b∈RU h H:=List.mem_filter.mpr ⟨List.mem_range.mpr (fw e'),by simp[q]⟩;have z:(sv h H).get? b=none:=PySem.W.hideAll_none (RU h H) hm;rw[z]at e;cases e
structure Mod(K:gt)(mg:Str->Option Value)(base:Heap):Prop where
 Nn:K.In base
 glob:base.Ns eh mg
 blt:∃mb,base.Ns builtinsNs mb/\∀x:Str,x≠ "__name__"->mb x=bootBuiltins x
 nolimit:base.NoLimit
structure Cx where
 prog:Program
 w:World
 K:gt
 mg:Str->Option Value
 base:Heap
 A:Around
 N:List Str
 s₀:Shared
 H₀:Hp
 env:Env
 outer:List Env
 stack:List Env
 ex:List Addr
 fn:Str->Bool
 calm:Bool
 pn:List (Addr×Obj)
 xe:Value->Shared->Prop
def frs(l:List Env):List Addr:=l.filterMap (·.frame)
abbrev Cx.fs(X:Cx):List Addr:=frs X.outer
def Tw(sc:Scope)(x:Str):Prop:=sc.names.lookup x=some .local\/sc.names.lookup x=some .cell\/sc.names.lookup x=some .free
def Loc(sc:Scope)(x:Str):Prop:=sc.names.lookup x=some .local\/sc.names.lookup x=some .cell
def Look(env:Env)(h:Heap)(m:Str->Option Value)(x:Str)(u:Value):Prop :=
 (env.kindOf x=some .local/\m x=some u)\/((env.kindOf x=some .cell\/env.kindOf x=some .free)/\∃c,env.cells.lookup x=some c/\h.IsCell c (some u))
structure Cx.Ok(X:Cx):Prop where
 mod:Mod X.K X.mg X.base
 kind:X.env.scope.kind=.function
 glob:X.env.globals=eh
 blt:X.env.builtins=builtinsNs
 above:X.s₀.heap.objs.size<=X.env.locals
 inj:∀x y c,X.env.cells.lookup x=some c->X.env.cells.lookup y=some c->x=y
 has:∀x,(X.env.kindOf x=some .cell\/X.env.kindOf x=some .free)->∃c,X.env.cells.lookup x=some c
 cab:∀x c,X.fn x=true->X.env.cells.lookup x=some c->X.s₀.heap.objs.size<=c
 hd:X.calm=true->X.A.handled=none
 frames:X.A.frames=some X.stack
 stk:X.stack=X.outer\/(X.stack=X.env::X.outer/\X.env.frame=some X.env.locals)
 Tx:∀b∈X.ex,b≠X.env.locals/\∀x c,X.env.cells.lookup x=some c->c≠b
 bs:∀b o,X.base.get? b=some o->X.s₀.heap.get? b=some o/\X.H₀ b=none
 FH:X.base.objs.size<=X.s₀.heap.objs.size
 Ci:∀b o,X.base.get? b=some o->b∉X.ex
 Cj:∀b∈X.ex,b∉X.fs
 jW:X.s₀.heap.FunFrames X.base X.outer
 JG:∀b∈X.fs,X.H₀ b=none
structure Inv(X:Cx)(kb:List (Addr×Obj))(σ:List (Option V))(H:Hp)(s:Shared):Prop where
 ok:X.Ok
 os:s.os=X.s₀.os
 bare:AllBare s.gens
 base:Un X.fs X.ex X.H₀ H X.s₀.heap s.heap
 loc:∃m,s.heap.Ns X.env.locals m/\∀(i:Nat) (x:Str) (v:V),X.N[i]? =some x->σ[i]? =some (some v)->Tw X.env.scope x->∃u,RelV v u/\Look X.env s.heap m x u
 cell:∀x c,X.env.cells.lookup x=some c->∃v,s.heap.IsCell c v
 free:H X.env.locals=none
 iJ:∀x c,X.env.cells.lookup x=some c->H c=none
 pin:∀p∈X.pn++kb,s.heap.get? p.1=some p.2/\H p.1=none/\p.1≠X.env.locals/\p.1∉X.fs/\∀v,p.2.data≠.cell v
 hok:ji X.prog X.w H s.heap
 len:σ.length=X.N.length
section
variable {X:Cx}{kb:List (Addr×Obj)}{σ:List (Option V)}{H H':Hp}{s:Shared}{h':Heap}
theorem Cx.Ok.Tz(ok:X.Ok){b:Addr}{o:Obj}(e:X.base.get? b=some o):b∉X.fs:=fun hb=>by have:=(ok.jW.mem hb).1;rw[e]at this;cases this
theorem Inv.bs(I:Inv X kb σ H s):∀b o,X.base.get? b=some o->s.heap.get? b=some o/\H b=none:=fun b o e=>
 ⟨I.base.keep b o (I.ok.bs b o e).1 (I.ok.bs b o e).2 (I.ok.Tz e) (I.ok.Ci b o e),I.base.free b o (I.ok.bs b o e).1 (I.ok.bs b o e).2 (I.ok.Ci b o e)⟩
theorem Inv.bk(I:Inv X kb σ H s):∀b o,X.base.get? b=some o->s.heap.get? b=some o:=fun b o e=>(I.bs b o e).1
theorem Inv.mod(I:Inv X kb σ H s):Mod X.K X.mg X.base:=I.ok.mod
theorem Inv.jX(I:Inv X kb σ H s):X.K.In s.heap:=I.ok.mod.Nn.keeps I.bk
theorem Inv.lt(I:Inv X kb σ H s):X.env.locals<s.heap.objs.size:=let ⟨_,hn,_⟩:=I.loc;hn.lt
theorem Inv.sz(I:Inv X kb σ H s):X.s₀.heap.objs.size<=s.heap.objs.size:=li I.ok.above (Nat.le_of_lt I.lt)
theorem Inv.TF(I:Inv X kb σ H s){a:Addr}(h:s.heap.objs.size<=a):a∉X.fs:=fun hb=>by obtain⟨_,o,ho,_⟩:=I.ok.jW.mem hb;exact absurd (Nat.lt_of_lt_of_le (fw ho) (li I.sz h)) (Nat.lt_irrefl _)
theorem Inv.JH(I:Inv X kb σ H s):∀x c,X.env.cells.lookup x=some c->c≠X.env.locals:=fun x c e z=>by obtain⟨v,o,ho,hd⟩:=I.cell x c e;obtain⟨m,⟨o',es,ep,ho',hd',_⟩,_⟩:=I.loc;rw[z,ho']at ho;cases ho;rw[hd']at hd;cases hd
theorem Inv.jW(I:Inv X kb σ H s):s.heap.FunFrames X.base X.outer:=by
 have all:∀(l:List Env),(∀b∈frs l,b∈X.fs)->X.s₀.heap.FunFrames X.base l->s.heap.FunFrames X.base l:=by
  intro l
  induction l with
  | nil=>intro _ _;trivial
  | cons env r ih=>
   intro hs hl;obtain⟨hk,⟨L,o,hf,hn,ho,hd⟩,hr⟩:=hl;have hL:L∈X.fs:=hs L (by unfold frs;rw[List.filterMap_cons,hf];exact List.mem_cons_self);obtain⟨sl,e⟩:=I.base.slot L o ho (I.ok.JG L hL) hL fun z=>I.ok.Cj L z hL;exact⟨hk,⟨L,_,hf,hn,e,hd⟩,ih (fun b hb=>hs b (by unfold frs;rw[List.filterMap_cons,hf];exact List.mem_cons_of_mem _ hb)) hr⟩
 exact all X.outer (fun _ hb=>hb) I.ok.jW
theorem Inv.stack(I:Inv X kb σ H s):s.heap.FunFrames X.base X.stack:=by
 rcases I.ok.stk with e | ⟨e,hf⟩
 ·rw[e];exact I.jW
 ·rw[e];obtain⟨m,hn,_⟩:=I.loc;refine .cons (by rw[I.ok.kind];decide) hf hn ?_ I.jW;exact Heap.get?_none_of_le (li I.ok.FH I.ok.above)
theorem Inv.sx(I:Inv X kb σ H s):∀b∈frs X.stack,b∈X.env.locals::X.fs:=fun b hb=>by
 rcases I.ok.stk with e | ⟨e,hf⟩
 ·rw[e]at hb;exact List.mem_cons_of_mem _ hb
 ·rw[e]at hb;unfold frs at hb;rw[List.filterMap_cons,hf]at hb;exact hb
theorem Inv.sy(I:Inv X kb σ H s):∀b∈frs X.stack,H b=none:=fun b hb=>by
 rcases List.mem_cons.mp (I.sx b hb)with e | hb
 ·rw[e];exact I.free
 ·obtain⟨_,o,ho,_⟩:=I.ok.jW.mem hb;exact I.base.free b o ho (I.ok.JG b hb) fun z=>I.ok.Cj b z hb
theorem Inv.step{g':Array GenState}{t':Nat}{d':Drawn}{ch:List Addr}(I:Inv X kb σ H s)
  (hch:∀b∈ch,(b∈X.ex\/X.s₀.heap.objs.size<=b)/\b≠X.env.locals/\(∀x c,X.env.cells.lookup x=some c->c≠b)/\∀p∈X.pn++kb,p.1≠b)
  (keep:∀b o,b≠X.env.locals->b∉X.fs->b∉ch->s.heap.get? b=some o->H b=none->h'.get? b=some o)
  (slot:∀b o,b≠X.env.locals->b∈X.fs->b∉ch->s.heap.get? b=some o->H b=none->∃sl,h'.get? b=some {o with slots:=sl}) (free:∀b o,b∉ch->s.heap.get? b=some o->H b=none->H' b=none)
  (there:∀b o,b∉ch->s.heap.get? b=some o->∃o',h'.get? b=some o')
  (tups:∀b xs,H b=some (.tup xs)->H' b=some (.tup xs)) (mV:∀b o u,H b=some (.jg o u)->H' b=some (.jg o u)) (qI:∀b ps,H b=some (.Ij ps)->∃more,H' b=some (.Ij (ps++more)))
  (ns:∀m,s.heap.Ns X.env.locals m->h'.Ns X.env.locals m) (hok:ji X.prog X.w H' h') (hg:AllBare g'):
  Inv X kb σ H' {s with heap:=h',gens:=g',drawn:=d',toks:=t'}:=by
 have YD:∀b o,X.s₀.heap.get? b=some o->b≠X.env.locals:=fun b o e=>kt (Nat.lt_of_lt_of_le (fw e) I.ok.above);have RV:∀b o,X.s₀.heap.get? b=some o->b∉X.ex->b∉ch:=fun b o e hx hb=>by
  rcases(hch b hb).1 with z | z
  ·exact hx z
  ·exact absurd (Nat.lt_of_lt_of_le (fw e) z) (Nat.lt_irrefl _)
 have cellK:∀x c,X.env.cells.lookup x=some c->∀v,s.heap.IsCell c v->h'.IsCell c v:=fun x c e v ⟨o,ho,hd⟩=>by
  have N0:c∉ch:=fun z=>(hch c z).2.2.1 x c e rfl;by_cases hc:c∈X.fs
  ·obtain⟨sl,q⟩:=slot c o (I.JH x c e) hc N0 ho (I.iJ x c e);exact⟨_,q,hd⟩
  ·exact⟨o,keep c o (I.JH x c e) hc N0 ho (I.iJ x c e),hd⟩
 refine⟨I.ok,I.os,hg,⟨fun b o e n hb hx=>?_,fun b o e n hb hx=>?_,fun b o e n hx=>?_,fun b o e hx=>?_,fun b xs e=>tups b xs (I.base.tups b xs e),fun b o xs e=>mV b o xs (I.base.mV b o xs e),fun b ps e=>?_⟩,?_,fun x c e=>?_,?_,fun x c e=>?_,fun p hp=>?_,hok,I.len⟩
 ·exact keep b o (YD b o e) hb (RV b o e hx) (I.base.keep b o e n hb hx) (I.base.free b o e n hx)
 ·obtain⟨sl,e1⟩:=I.base.slot b o e n hb hx;obtain⟨sl',e2⟩:=slot b _ (YD b o e) hb (RV b o e hx) e1 (I.base.free b o e n hx);exact⟨sl',e2⟩
 ·obtain⟨o',e1⟩:=I.base.there b o e hx;exact free b o' (RV b o e hx) e1 (I.base.free b o e n hx)
 ·obtain⟨o',e1⟩:=I.base.there b o e hx;exact there b o' (RV b o e hx) e1
 ·obtain⟨m1,e1⟩:=I.base.qI b ps e;obtain⟨m2,e2⟩:=qI b _ e1;exact⟨m1++m2,by rw[e2,Array.append_assoc]⟩
 ·obtain⟨m,hn,hl⟩:=I.loc;refine⟨m,ns m hn,fun i x v e1 e2 e3=>?_⟩;obtain⟨u,r,l⟩:=hl i x v e1 e2 e3;refine⟨u,r,?_⟩;rcases l with l | ⟨k,c,e,z⟩
  ·exact .inl l
  ·exact .inr ⟨k,c,e,cellK x c e _ z⟩
 ·obtain⟨v,z⟩:=I.cell x c e;exact⟨v,cellK x c e v z⟩
 ·obtain⟨m,⟨o,_,_,ho,_⟩,_⟩:=I.loc;exact free _ o (fun z=>(hch _ z).2.1 rfl) ho I.free
 ·obtain⟨v,o,ho,hd⟩:=I.cell x c e;exact free c o (fun z=>(hch c z).2.2.1 x c e rfl) ho (I.iJ x c e)
 ·obtain⟨e,n,ne,nf,d⟩:=I.pin p hp;have N0:p.1∉ch:=fun z=>(hch p.1 z).2.2.2 p hp rfl;exact⟨keep p.1 p.2 ne nf N0 e n,free p.1 p.2 N0 e n,ne,nf,d⟩
theorem Inv.un{t':Nat}(I:Inv X kb σ H s)(u:Un X.fs [] H H' s.heap h')(hok:ji X.prog X.w H' h'):Inv X kb σ H' {s with heap:=h',toks:=t'}:=by
 obtain⟨m,⟨o,es,ep,ho,r⟩,_⟩:=id I.loc;obtain⟨sl,hL⟩:=u.any ho I.free (by simp)
 exact I.step (g':=s.gens) (d':=s.drawn) (ch:=[]) (fun _ z=>nomatch z) (fun b o _ hb _ e n=>u.keep b o e n hb (by simp)) (fun b o _ hb _ e n=>u.slot b o e n hb (by simp)) (fun b o _ e n=>u.free b o e n (by simp)) (fun b o _ e=>u.there b o e (by simp)) u.tups u.mV u.qI (fun m' hm=>by
  obtain⟨o',es',ep',ho',r'⟩:=hm;rw[ho]at ho';cases ho'
  exact⟨_,es',ep',hL,r'⟩) hok I.bare
theorem Inv.call{g':Array GenState}{t':Nat}{d':Drawn}{ch:List Addr}(I:Inv X kb σ H s)(u:Un (frs X.stack) ch H H' s.heap h')(hok:ji X.prog X.w H' h')(hg:AllBare g')
  (hch:∀b∈ch,(b∈X.ex\/X.s₀.heap.objs.size<=b)/\b≠X.env.locals/\(∀x c,X.env.cells.lookup x=some c->c≠b)/\∀p∈X.pn++kb,p.1≠b):
  Inv X kb σ H' {s with heap:=h',gens:=g',drawn:=d',toks:=t'}:=by
 obtain⟨m,⟨o,es,ep,ho,r⟩,_⟩:=id I.loc;obtain⟨sl,hL⟩:=u.any ho I.free fun z=>(hch _ z).2.1 rfl
 exact I.step (ch:=ch) hch (fun b o hL hb hc e n=>u.keep b o e n (fun z=>(List.mem_cons.mp (I.sx b z)).elim hL hb) hc) (fun b o _ _ hc e n=>u.any e n hc) (fun b o hc e n=>u.free b o e n hc) (fun b o hc e=>u.there b o e hc) u.tups u.mV u.qI (fun m' hm=>by
  obtain⟨o',es',ep',ho',r'⟩:=hm;rw[ho]at ho';cases ho'
  exact⟨_,es',ep',hL,r'⟩) hok hg
theorem Inv.turned{t':Nat}{it:Addr}(I:Inv X kb σ H s)(k:∀b o,b≠it->s.heap.get? b=some o->h'.get? b=some o)(hn:H it=none)(hL:it≠X.env.locals)
  (h1:it∈X.ex\/X.s₀.heap.objs.size<=it) (h2:∀x c,X.env.cells.lookup x=some c->c≠it) (h3:∀p∈X.pn++kb,p.1≠it):Inv X kb σ H {s with heap:=h',toks:=t'}:=by
 have Ik:∀b u,H b=some u->b≠it:=fun b u e z=>by rw[z,hn]at e;cases e
 refine I.step (g':=s.gens) (d':=s.drawn) (ch:=[it]) (fun b hb=>?_) (fun b o _ _ hc e _=>k b o (fun z=>hc (by simp[z])) e) (fun b o _ _ hc e _=>⟨o.slots,k b o (fun z=>hc (by simp[z])) e⟩) (fun _ _ _ _ n=>n)
  (fun b o hc e=>⟨o,k b o (fun z=>hc (by simp[z])) e⟩) (fun _ _ e=>e) (fun _ _ _ e=>e) (fun b ps e=>⟨#[],by rw[e];simp⟩) (fun m hm=>?_) (fun b u e=>?_) I.bare
 ·have e:b=it:=by simpa using hb
  subst e;exact⟨h1,hL,h2,h3⟩
 ·obtain⟨o,es,ep,ho,r⟩:=hm;exact⟨o,es,ep,k _ o (Ne.symm hL) ho,r⟩
 ·refine(I.hok b u e).stay (fun c v hc q=>k c v ?_ q) (fun _ q=>q) fun _ _ q=>q;rcases hc with z | z
  ·rw[z];exact Ik b u e
  ·exact Ik c _ z
theorem Inv.tok(I:Inv X kb σ H s)(t:Nat):Inv X kb σ H {s with toks:=t}:=I.un (h':=s.heap) (t':=t) Un.refl I.hok
theorem Inv.kept{t':Nat}(I:Inv X kb σ H s)(k:∀b u,s.heap.get? b=some u->h'.get? b=some u):Inv X kb σ H {s with heap:=h',toks:=t'}:=I.un (Un.kept k) (I.hok.kept k)
theorem Inv.laid{a:Addr}{o:HO}{t':Nat}(I:Inv X kb σ H s)(k:∀b u,s.heap.get? b=some u->h'.get? b=some u)(hp:s.heap.objs.size<=a)(new:bJ X.prog X.w (upd H a o) h' a o):
  Inv X kb σ (upd H a o) {s with heap:=h',toks:=t'}:=I.un (Un.laid k hp (I.hok.fresh hp)) (I.hok.laid k hp new)
theorem Inv.write{x e:Addr}{o:HO}{t':Nat}(I:Inv X kb σ H s)(mu:NY (H x))(he:e=x\/H e=some (.own x))(k:∀b u,b≠e->s.heap.get? b=some u->h'.get? b=some u)(heo:∃u,h'.get? e=some u)
  (new:bJ X.prog X.w (upd H x o) h' x o):Inv X kb σ (upd H x o) {s with heap:=h',toks:=t'}:=I.un (Un.write mu he k heo) (I.hok.write mu he k heo new)
theorem Inv.yN{Il:List (Addr×Obj)}(I:Inv X kb σ H s)(h:∀p∈Il,s.heap.get? p.1=some p.2/\H p.1=none/\p.1≠X.env.locals/\p.1∉X.fs/\∀v,p.2.data≠.cell v):Inv X Il σ H s :=
 ⟨I.ok,I.os,I.bare,I.base,I.loc,I.cell,I.free,I.iJ,fun p hp=>(List.mem_append.mp hp).elim (fun z=>I.pin p (List.mem_append_left _ z)) (h p),I.hok,I.len⟩
theorem uR{N:List Str}(hN:N.Nodup){i j:Nat}{x:Str}(a:N[i]? =some x)(b:N[j]? =some x):i=j:=by obtain⟨h1,e1⟩:=al.mp a;obtain⟨h2,e2⟩:=al.mp b;exact(List.getElem_inj hN).mp (e1.trans e2.symm)
theorem rM{M:Model}{A:Around}{E:Value->Shared->Prop}{i:Nat}{x:Str}{v:V}{u:Value}{Q:Unit->Shared->Prop}(I:Inv X kb σ H s)(hN:X.N.Nodup)(hi:X.N[i]? =some x)(hx:Loc X.env.scope x)(r:RelV v u)
  (h:∀s',Inv X kb (σ.set i (some v)) H s'->(∃a,Heap.SameBut a s.heap s'.heap/\(a=X.env.locals\/X.env.cells.lookup x=some a))->Q () s') (hf:X.fn x=true\/X.env.scope.names.lookup x=some .local:=by first | exact .inl rfl | exact .inr rfl | assumption):wpAny M A (storeName X.env x u) Q E s:=by
 obtain⟨m,hn,hl⟩:=id I.loc;have hcls:(X.env.scope.kind== .class||(X.env.scope.kind== .module&&X.env.locals !=X.env.globals))=false:=by rw[I.ok.kind];rfl
 have hiσ:i<σ.length:=by rw[I.len];exact(al.mp hi).1
 have JH:=I.JH;have tracked:∀{a:Addr} {h':Heap},(∃o,s.heap.get? a=some o/\H a=none)->Heap.SameBut a s.heap h'->ji X.prog X.w H h':=fun {a h'} ha hs b ob e=>by
  obtain⟨_,_,hfree⟩:=ha;refine(I.hok b ob e).stay (fun c w' hc q=>(hs.2 c ?_).trans q) (fun _ q=>q) fun _ _ q=>q;rintro rfl;rcases hc with rfl | hc
  ·rw[hfree]at e;cases e
  ·rw[hfree]at hc;cases hc
 rcases hx with hk | hk
 ·refine wpAny_storeName_local hk hn (fun h' hn' hs=>?_) hcls;obtain⟨oL,_,_,hoL,_⟩:=id hn;refine h _ ⟨I.ok,I.os,I.bare,⟨fun b o e n hb hx=>?_,fun b o e n hb hx=>?_,I.base.free,fun b o e hx=>?_,I.base.tups,I.base.mV,I.base.qI⟩,⟨_,hn',fun j y v' e1 e2 e3=>?_⟩,fun y c e=>?_,I.free,I.iJ,fun p hp=>?_,tracked ⟨oL,hoL,I.free⟩ hs,by simpa using I.len⟩ ⟨_,hs,.inl rfl⟩
  ·exact(hs.2 b (kt (Nat.lt_of_lt_of_le (fw e) I.ok.above))).trans (I.base.keep b o e n hb hx)
  ·obtain⟨sl,e1⟩:=I.base.slot b o e n hb hx;exact⟨sl,(hs.2 b (kt (Nat.lt_of_lt_of_le (fw e) I.ok.above))).trans e1⟩
  ·obtain⟨o',e1⟩:=I.base.there b o e hx;exact⟨o',(hs.2 b (kt (Nat.lt_of_lt_of_le (fw e) I.ok.above))).trans e1⟩
  ·by_cases hj:j=i
   ·subst hj;rw[hi]at e1;cases e1;rw[List.getElem?_set_self hiσ]at e2;cases e2;exact⟨u,r,.inl ⟨hk,by simp⟩⟩
   ·rw[List.getElem?_set_ne (Ne.symm hj)]at e2;obtain⟨u',r',q⟩:=hl j y v' e1 e2 e3;refine⟨u',r',?_⟩;rcases q with ⟨k,e⟩ | ⟨k,c,e,z⟩
    ·refine .inl ⟨k,?_⟩;have:y≠x:=fun e=>hj (uR hN e1 (e▸hi));simp[this,e]
    ·exact .inr ⟨k,c,e,z.sameBut hs (JH y c e)⟩
  ·obtain⟨w',z⟩:=I.cell y c e;exact⟨w',z.sameBut hs (JH y c e)⟩
  ·obtain⟨e,n,ne,nf,d⟩:=I.pin p hp;exact⟨(hs.2 p.1 ne).trans e,n,ne,nf,d⟩
 ·have hfn:X.fn x=true:=by
   rcases hf with z | z
   ·exact z
   ·rw[z]at hk;cases hk
  obtain⟨c,hc⟩:=I.ok.has x (.inl hk);obtain⟨w',z⟩:=I.cell x c hc;refine wpAny_storeName_cell I.ok.kind hk hc z (fun h' hc' hs=>?_);obtain⟨oc,hoc,TH⟩:=id z;refine h {s with heap:=h'} ⟨I.ok,I.os,I.bare,⟨fun b o e n hb hx=>?_,fun b o e n hb hx=>?_,I.base.free,fun b o e hx=>?_,I.base.tups,I.base.mV,I.base.qI⟩,⟨m,hn.sameBut hs (Ne.symm (JH x c hc)),fun j y v' e1 e2 e3=>?_⟩,fun y c' e=>?_,I.free,I.iJ,fun p hp=>?_,tracked ⟨oc,hoc,I.iJ x c hc⟩ hs,by simpa using I.len⟩ ⟨c,hs,.inr hc⟩
  ·exact(hs.2 b (kt (Nat.lt_of_lt_of_le (fw e) (I.ok.cab x c hfn hc)))).trans (I.base.keep b o e n hb hx)
  ·obtain⟨sl,e1⟩:=I.base.slot b o e n hb hx;exact⟨sl,(hs.2 b (kt (Nat.lt_of_lt_of_le (fw e) (I.ok.cab x c hfn hc)))).trans e1⟩
  ·obtain⟨o',e1⟩:=I.base.there b o e hx;exact⟨o',(hs.2 b (kt (Nat.lt_of_lt_of_le (fw e) (I.ok.cab x c hfn hc)))).trans e1⟩
  ·by_cases hj:j=i
   ·subst hj;rw[hi]at e1;cases e1;rw[List.getElem?_set_self hiσ]at e2;cases e2;exact⟨u,r,.inr ⟨.inl hk,c,hc,hc'⟩⟩
   ·rw[List.getElem?_set_ne (Ne.symm hj)]at e2;obtain⟨u',r',q⟩:=hl j y v' e1 e2 e3;refine⟨u',r',?_⟩;rcases q with q | ⟨k,c',e,z'⟩
    ·exact .inl q
    ·refine .inr ⟨k,c',e,z'.sameBut hs ?_⟩;rintro rfl;exact hj (uR hN e1 (I.ok.inj _ _ _ e hc▸hi))
  ·by_cases hcc:c'=c
   ·subst hcc;exact⟨_,hc'⟩
   ·obtain⟨w2,z2⟩:=I.cell y c' e;exact⟨w2,z2.sameBut hs hcc⟩
  ·obtain⟨e,n,ne,nf,d⟩:=I.pin p hp;refine⟨(hs.2 p.1 ?_).trans e,n,ne,nf,d⟩;intro q;rw[q,hoc]at e;have q':oc=p.2:=Option.some.inj e;exact d w' (by rw[<-q'];exact TH)
theorem uS{M:Model}{A:Around}{E:Value->Shared->Prop}{i:Nat}{x:Str}{v:V}{u:Value}{Q:Unit->Shared->Prop}(I:Inv X kb σ H s)(hN:X.N.Nodup)(hi:X.N[i]? =some x)(hx:Loc X.env.scope x)(r:RelV v u)
  (h:∀s',Inv X kb (σ.set i (some v)) H s'->Q () s') (hf:X.fn x=true\/X.env.scope.names.lookup x=some .local:=by first | exact .inl rfl | exact .inr rfl | assumption):wpAny M A (storeName X.env x u) Q E s :=
 rM I hN hi hx r (fun s' I' _=>h s' I') hf
theorem Inv.call'{s':Shared}{ch:List Addr}(I:Inv X kb σ H s)(ho:s'.os=s.os)(u:Un (frs X.stack) ch H H' s.heap s'.heap)(hok:ji X.prog X.w H' s'.heap)(hg:AllBare s'.gens)
  (hch:∀b∈ch,(b∈X.ex\/X.s₀.heap.objs.size<=b)/\b≠X.env.locals/\(∀x c,X.env.cells.lookup x=some c->c≠b)/\∀p∈X.pn++kb,p.1≠b):Inv X kb σ H' s':=by
 obtain⟨h',g',d',t',o'⟩:=s';have e:o'=s.os:=ho;subst e;exact I.call (g':=g') (t':=t') (d':=d') u hok hg hch
end
abbrev XK:=Value->Option Addr->Hp->Prop
abbrev St:=List (Option V)
abbrev VK:=V->Hp->Prop
abbrev TE:=St->Hp->VK->Prop
abbrev TT:=St->Hp->(Bool->Hp->Prop)->Prop
abbrev TA:=St->Hp->(List V->Hp->Prop)->Prop
structure Ends where
 nx:St->Hp->Prop
 rt:VK
 bk:St->Hp->Prop:=fun _ _=>False
 ct:St->Hp->Prop:=fun _ _=>False
abbrev TS:=Ends->St->Hp->Prop
def EP(X:Cx)(kb:List (Addr×Obj))(σ:St)(Q:VK)(u:Value)(s':Shared):Prop:=∃v H',Inv X kb σ H' s'/\RelV v u/\Q v H'
def TP(X:Cx)(kb:List (Addr×Obj))(σ:St)(Q:Bool->Hp->Prop)(b:Bool)(s':Shared):Prop:=∃H',Inv X kb σ H' s'/\Q b H'
def AP(X:Cx)(kb:List (Addr×Obj))(σ:St)(Q:List V->Hp->Prop)(us:List Value)(s':Shared):Prop:=∃vs H',Inv X kb σ H' s'/\Vals vs us/\Q vs H'
def SP(X:Cx)(kb:List (Addr×Obj))(D:Ends)(f:Flow)(s':Shared):Prop :=
 match f with
 | .next=>∃σ' H',Inv X kb σ' H' s'/\D.nx σ' H'
 | .brk=>∃σ' H',Inv X kb σ' H' s'/\D.bk σ' H'
 | .cont=>∃σ' H',Inv X kb σ' H' s'/\D.ct σ' H'
 | .ret u=>∃v σ' H',Inv X kb σ' H' s'/\RelV v u/\D.rt v H'
def PE(X:Cx)(e:Expr)(t:TE):Prop :=
 ∀(kb:List (Addr×Obj)) (s:Shared) (σ:St) (H:Hp) (Q:VK),Inv X kb σ H s->t σ H Q->wpAny (model X.prog X.w) X.A (eval e X.env) (EP X kb σ Q) X.xe s
def PT(X:Cx)(e:Expr)(t:TT):Prop :=
 ∀(kb:List (Addr×Obj)) (s:Shared) (σ:St) (H:Hp) (Q:Bool->Hp->Prop),Inv X kb σ H s->t σ H Q->wpAny (model X.prog X.w) X.A (isTrue e X.env (eval e X.env)) (TP X kb σ Q) X.xe s
def PW(X:Cx)(e:Expr)(t:TT):Prop :=
 ∀(whole:Sem Value) (kb:List (Addr×Obj)) (s:Shared) (σ:St) (H:Hp) (Q:Bool->Hp->Prop),Inv X kb σ H s->t σ H Q->wpAny (model X.prog X.w) X.A (isTrue e X.env whole) (TP X kb σ Q) X.xe s
theorem PW.pt{X:Cx}{e:Expr}{t:TT}(h:PW X e t):PT X e t:=h _
def PA(X:Cx)(es:List Expr)(t:TA):Prop :=
 ∀(pos:Pos) (kb:List (Addr×Obj)) (s:Shared) (σ:St) (H:Hp) (Q:List V->Hp->Prop),Inv X kb σ H s->t σ H Q->wpAny (model X.prog X.w) X.A (spliced (backTo pos (starEach es X.env))) (AP X kb σ Q) X.xe s
def PS(X:Cx)(st:Stmt)(t:TS):Prop :=
 ∀(kb:List (Addr×Obj)) (s:Shared) (σ:St) (H:Hp) (D:Ends),Inv X kb σ H s->t D σ H->wpAny (model X.prog X.w) X.A (exec st X.env) (SP X kb D) X.xe s
def qJ(X:Cx)(st:List Stmt)(t:TS):Prop :=
 ∀(kb:List (Addr×Obj)) (s:Shared) (σ:St) (H:Hp) (D:Ends),Inv X kb σ H s->t D σ H->wpAny (model X.prog X.w) X.A (execs st X.env) (SP X kb D) X.xe s
theorem cz{α:Type}{t:Sem α}{Q Q':α->Shared->Prop}{M:Model}{A:Around}{E:Value->Shared->Prop}{s:Shared}(h:wpAny M A t Q E s)(hQ:∀a s,Q a s->Q' a s):wpAny M A t Q' E s:=en h hQ fun _ _ x=>x
section
variable {X:Cx}
inductive Aq(i:Nat)(σ:St)(H:Hp)(Q:VK):Prop
 | mk (v) (_:σ[i]? =some (some v)) (_:Q v H)
def tC(v:V):TE:=fun _ H Q=>Q v H
theorem JI{i:Nat}{x:Str}{pos:Pos}(hN:X.N[i]? =some x)(hv:Tw X.env.scope x)(hd:(x==("__debug__": Str))=false:=by decide)(hcd:(x==("__classdict__": Str))=false:=by decide):PE X (.Name x pos) (Aq i):=by
 intro kb s σ H Q I h;obtain⟨v,e,h⟩:=h;obtain⟨m,hn,hl⟩:=I.loc;obtain⟨u,r,l⟩:=hl i x v hN e hv;have fin:EP X kb σ Q u s:=⟨v,H,I,r,h⟩;rcases l with ⟨hk,hm⟩ | ⟨hk,c,hc,hcell⟩
 ·exact wpAny_Name (wpAny_loadName_local I.ok.kind hk hn hm fin) hd
 ·rcases hk with hk | hk
  ·exact wpAny_Name (wpAny_loadName_cell I.ok.kind hk hc hcell fin) hd
  ·exact wpAny_Name (wpAny_loadName_free I.ok.kind hk hc hcell fin hcd) hd
theorem aj{i j pos}:PE X (.Constant (.int i) j pos) (tC (.int i)):=fun _ _ _ H _ I h=>wpAny_Constant_int ⟨.int i,H,I.tok _,⟨_,rfl⟩,h⟩
theorem dI{b j pos}:PE X (.Constant (.bool b) j pos) (tC (.bl b)):=fun _ _ _ H _ I h=>Constant_bool ⟨.bl b,H,I,rfl,h⟩
theorem dM{j pos}:PE X (.Constant .none j pos) (tC .non):=fun _ _ _ H _ I h=>Constant_none ⟨.non,H,I,rfl,h⟩
theorem ay{x j pos}:PE X (.Constant (.str x) j pos) (tC (.str x)):=fun _ _ _ H _ I h=>Calls.Constant_str ⟨.str x,H,I.tok _,⟨_,rfl⟩,h⟩
def Gl(X:Cx)(x:Str):Prop:=X.env.kindOf x=some .globalImplicit
theorem jY{E:Value->Shared->Prop}{kb:List (Addr×Obj)}{s:Shared}{σ:St}{H:Hp}{x:Str}{u:Value}{pos:Pos}{Q:Value->Shared->Prop}(I:Inv X kb σ H s)(hg:Gl X x)(hm:X.mg x=some u)(h:Q u s)
  (hd:(x==("__debug__": Str))=false:=by decide):wpAny (model X.prog X.w) X.A (eval (.Name x pos) X.env) Q E s :=
 Calls.Name_function_global I.ok.kind hg (Calls.loadGlobal_global (by rw[I.ok.glob];exact I.mod.glob.keeps I.bk) hm h) hd
theorem ib{E:Value->Shared->Prop}{kb:List (Addr×Obj)}{s:Shared}{σ:St}{H:Hp}{x:Str}{u:Value}{pos:Pos}{Q:Value->Shared->Prop}(I:Inv X kb σ H s)(hg:Gl X x)(hm:X.mg x=none)(hv:bootBuiltins x=some u)(h:Q u s)
  (hn:x≠ "__name__":=by decide) (hd:(x==("__debug__": Str))=false:=by decide):wpAny (model X.prog X.w) X.A (eval (.Name x pos) X.env) Q E s:=by
 obtain⟨mb,h1,h2⟩:=I.mod.blt;exact Calls.Name_function_global I.ok.kind hg (Calls.loadGlobal_builtin (by rw[I.ok.glob];exact I.mod.glob.keeps I.bk) hm (by rw[I.ok.blt];exact h1.keeps I.bk) ((h2 x hn).trans hv) h) hd
theorem c7{x:Str}{v:V}{u:Value}{pos:Pos}(hg:Gl X x)(hm:X.mg x=some u)(r:RelV v u)(hd:(x==("__debug__": Str))=false:=by decide):PE X (.Name x pos) (tC v):=
 fun _ _ _ H _ I h=>jY I hg hm ⟨v,H,I,r,h⟩ hd
theorem eB{x:Str}{v:V}{u:Value}{pos:Pos}(hg:Gl X x)(hm:X.mg x=none)(hv:bootBuiltins x=some u)(r:RelV v u)(hn:x≠ "__name__":=by decide)(hd:(x==("__debug__": Str))=false:=by decide):PE X (.Name x pos) (tC v):=
 fun _ _ _ H _ I h=>ib I hg hm hv ⟨v,H,I,r,h⟩ hn hd
variable {a b:Expr}{ta tb:TE}{pos:Pos}
def PC(X:Cx)(op:CmpOp)(a b:Expr)(t:TE):Prop :=
 ∀(kb:List (Addr×Obj)) (s:Shared) (σ:St) (H:Hp) (Q:VK),Inv X kb σ H s->t σ H Q->
  wpAny (model X.prog X.w) X.A (eval a X.env) (fun v s₁=>wpAny (model X.prog X.w) X.A (eval b X.env) (fun u s₂=>wpAny (model X.prog X.w) X.A (compareOp op v u) (EP X kb σ Q) X.xe s₂) X.xe s₁) X.xe s
def tB(t:TE):TT:=fun σ H Q=>t σ H fun x H1=>∃c,x=.bl c/\Q c H1
theorem Ck{op:CmpOp}{t:TE}(h:PC X op a b t)(h1:behindInMarks op b=false:=by first | exact Cm _ (by decide) (by decide) | rfl):PE X (.Compare a [op] [b] pos) t:=fun kb s σ H Q I hw=>wpAny_Compare1 (h kb s σ H Q I hw) h1
theorem wz{op:CmpOp}{t:TE}(h:PC X op a b t)(h1:behindInMarks op b=false:=by first | exact Cm _ (by decide) (by decide) | rfl):PT X (.Compare a [op] [b] pos) (tB t):=by intro kb s σ H Q I hw;refine wpAny_isTrue_Compare1 (cz (h kb s σ H _ I hw) fun v s1 h1=>cz h1 fun u s2 h2=>cz h2 fun c s3 ⟨x,H1,I1,r1,q1⟩=>?_) h1;obtain⟨d,rfl,q⟩:=q1;cases r1;exact wpAny_truthy_bool ⟨H1,I1,q⟩
theorem cq{e:Expr}{t:TE}(h:PE X e t)(he:∀whole,isTrue e X.env whole=(do let v <-whole;standAt e.pos;holding [v] (truthy v)):=by intro _;rfl):PT X e (tB t):=by intro kb s σ H Q I hw;refine isTrue_plain (cz (h kb s σ H _ I hw) fun v s1 ⟨x,H1,I1,r1,q1⟩=>?_) (he _);obtain⟨d,rfl,q⟩:=q1;cases r1;exact wpAny_truthy_bool ⟨H1,I1,q⟩
variable {tA RW:TT}{rest:List Expr}
def TJ(t u:TT):TT:=fun σ H Q=>t σ H fun c H1=>if c=true then u σ H1 Q else Q false H1
def tOr(t u:TT):TT:=fun σ H Q=>t σ H fun c H1=>if c=true then Q true H1 else u σ H1 Q
def TK(t:TT):TT:=fun σ H Q=>t σ H fun c H1=>Q (!c) H1
theorem oy(ha:PT X a tA):PW X (.BoolOp .And [a] pos) tA:=by
 intro wh kb s σ H Q I h;refine isTrue_and (cz (ha kb s σ H Q I h) fun c s1 e=>?_);cases c with
 | true=>exact isTrue_and_nil e
 | false=>exact e
theorem eZ(ha:PT X a tA):PW X (.BoolOp .Or [a] pos) tA:=by
 intro wh kb s σ H Q I h;refine isTrue_or (cz (ha kb s σ H Q I h) fun c s1 e=>?_);cases c with
 | false=>exact isTrue_or_nil e
 | true=>exact e
theorem sA(ha:PT X a tA)(hb:PW X (.BoolOp .And (b::rest) pos) RW):PW X (.BoolOp .And (a::b::rest) pos) (TJ tA RW):=by
 intro wh kb s σ H Q I h;refine isTrue_and (cz (ha kb s σ H _ I h) fun c s1 ⟨H1,I1,q1⟩=>?_);cases c with
 | true=>exact hb wh kb s1 σ H1 Q I1 q1
 | false=>exact⟨H1,I1,q1⟩
theorem iK(ha:PT X a tA)(hb:PW X (.BoolOp .Or (b::rest) pos) RW):PW X (.BoolOp .Or (a::b::rest) pos) (tOr tA RW):=by
 intro wh kb s σ H Q I h;refine isTrue_or (cz (ha kb s σ H _ I h) fun c s1 ⟨H1,I1,q1⟩=>?_);cases c with
 | true=>exact⟨H1,I1,q1⟩
 | false=>exact hb wh kb s1 σ H1 Q I1 q1
theorem dm(ha:PT X a tA):PT X (.UnaryOp .Not a pos) (TK tA):=by intro kb s σ H Q I h;exact isTrue_not (ha kb s σ H (fun c H1=>Q (!c) H1) I h)
def N2(ta tb:TE):TE:=fun σ H Q=>ta σ H fun x H1=>∃c,x=.bl c/\if c=true then tb σ H1 Q else Q (.bl false) H1
def TL(ta tb:TE):TE:=fun σ H Q=>ta σ H fun x H1=>∃c,x=.bl c/\if c=true then Q (.bl true) H1 else tb σ H1 Q
def N3(ta:TE):TE:=fun σ H Q=>ta σ H fun x H1=>∃c,x=.bl c/\Q (.bl (!c)) H1
theorem iS{op}{t:TE}(h:PE X a t):PE X (.BoolOp op [a] pos) t:=fun kb s σ H Q I hw=>BoolOp_one (h kb s σ H Q I hw)
theorem oN(ha:PE X a ta)(hb:PE X (.BoolOp .And (b::rest) pos) tb):PE X (.BoolOp .And (a::b::rest) pos) (N2 ta tb):=by
 intro kb s σ H Q I h;refine BoolOp_and (cz (ha kb s σ H _ I h) fun v s1 ⟨x,H1,I1,r1,q1⟩=>?_);obtain⟨c,rfl,q1⟩:=q1;cases r1;refine wpAny_truthy_bool ?_;cases c with
 | true=>exact hb kb s1 σ H1 Q I1 q1
 | false=>exact⟨.bl false,H1,I1,rfl,q1⟩
theorem Cp(ha:PE X a ta)(hb:PE X (.BoolOp .Or (b::rest) pos) tb):PE X (.BoolOp .Or (a::b::rest) pos) (TL ta tb):=by
 intro kb s σ H Q I h;refine BoolOp_or (cz (ha kb s σ H _ I h) fun v s1 ⟨x,H1,I1,r1,q1⟩=>?_);obtain⟨c,rfl,q1⟩:=q1;cases r1;refine wpAny_truthy_bool ?_;cases c with
 | false=>exact hb kb s1 σ H1 Q I1 q1
 | true=>exact⟨.bl true,H1,I1,rfl,q1⟩
theorem Cq(ha:PE X a ta):PE X (.UnaryOp .Not a pos) (N3 ta):=by intro kb s σ H Q I h;refine UnaryOp_ (cz (ha kb s σ H _ I h) fun v s1 ⟨x,H1,I1,r1,q1⟩=>?_);obtain⟨c,rfl,q1⟩:=q1;cases r1;exact not_of (wpAny_truthy_bool ⟨.bl (!c),H1,I1,rfl,q1⟩)
def tIf(t:TT)(ta tb:TE):TE:=fun σ H Q=>t σ H fun c H1=>if c=true then ta σ H1 Q else tb σ H1 Q
theorem iT{c:Expr}(hc:PT X c tA)(ha:PE X a ta)(hb:PE X b tb):PE X (.IfExp c a b pos) (tIf tA ta tb):=by
 intro kb s σ H Q I h;refine wpAny_IfExp (cz (hc kb s σ H _ I h) fun d s1 ⟨H1,I1,q1⟩=>?_);cases d with
 | true=>exact ha kb s1 σ H1 Q I1 q1
 | false=>exact hb kb s1 σ H1 Q I1 q1
end
def aR(K:gt)(H:Hp)(a:Addr)(xs:List V):Prop :=
 Rd H a (.lst xs)\/
  ∃(o:Obj) (its:Array Value) (n:Nat),K.lookup a=some o/\o.cls=.type "list"/\o.dict=none/\o.data=.seq its n/\its.size<=em/\Vals xs its.toList
def bp(K:gt)(H:Hp)(a:Addr)(xs:List V):Prop :=
 Rd H a (.tup xs)\/
  ∃(o:Obj) (its:Array Value) (n:Nat),K.lookup a=some o/\o.cls=.type "tuple"/\o.data=.seq its n/\its.size<=em/\Vals xs its.toList
def TN:Value->Option V
 | .none=>some .non
 | .bool b=>some (.bl b)
 | .int i _=>some (.int i)
 | .str x _=>some (.str x)
 | .bytes b _=>some (.B2 b)
 | .float b _=>some (.flt b)
 | .ref a=>some (.ref a)
 | .type n=>some (.ty n)
 | _=>none
theorem RelV.abs{x:V}{u:Value}(r:RelV x u):TN u=some x:=by
 cases x with
 | non=>cases r;rfl
 | bl _=>cases r;rfl
 | int _=>obtain⟨t,rfl⟩:=r;rfl
 | str _=>obtain⟨t,rfl⟩:=r;rfl
 | B2 _=>obtain⟨t,rfl⟩:=r;rfl
 | flt _=>obtain⟨t,rfl⟩:=r;rfl
 | ref _=>cases r;rfl
 | ty _=>cases r;rfl
theorem RelV.inj{x y:V}{u:Value}(r:RelV x u)(q:RelV y u):x=y:=Option.some.inj (r.abs.symm.trans q.abs)
theorem Vals.inj:∀{xs ys:List V} {us:List Value},Vals xs us->Vals ys us->xs=ys
 | _,_,_,.nil,.nil=>rfl
 | _,_,_,.cons r t,.cons r' t'=>by rw[r.inj r',Vals.inj t t']
section
variable {X:Cx}{kb:List (Addr×Obj)}{σ:St}{H:Hp}{s:Shared}{a:Addr}{xs ys:List V}
theorem aR.of{K:gt}(h:H a=some (.lst xs)):aR K H a xs:=.inl (.inl h)
theorem bp.of{K:gt}(h:H a=some (.tup xs)):bp K H a xs:=.inl (.inl h)
theorem Inv.list(I:Inv X kb σ H s)(h:aR X.K H a xs):∃its:List Value,Vals xs its/\PlainL s.heap a its.toArray/\xs.length<=em:=by
 rcases h with h | ⟨o,its,n,hk,hc,hd,hs,hz,r⟩
 ·obtain⟨z,its,n,r,e⟩:=h.ok I.hok;exact⟨its,r,⟨_,n,e,rfl,rfl,rfl⟩,z⟩
 ·refine⟨its.toList,r,⟨o,n,I.jX a o hk,hc,hd,by simpa using hs⟩,?_⟩;have e:=r.length;simp only[Array.length_toList]at e;omega
theorem Inv.tuple(I:Inv X kb σ H s)(h:bp X.K H a xs):∃its:List Value,Vals xs its/\IsTup s.heap a its.toArray/\xs.length<=em:=by
 rcases h with h | ⟨o,its,n,hk,hc,hs,hz,r⟩
 ·obtain⟨z,its,r,p⟩:=h.ok I.hok;exact⟨its,r,p,z⟩
 ·refine⟨its.toList,r,⟨o,I.jX a o hk,hc,n,by simpa using hs⟩,?_⟩;have e:=r.length;simp only[Array.length_toList]at e;omega
theorem Inv.iU(I:Inv X kb σ H s)(h:aR X.K H a xs)(h':aR X.K H a ys):xs=ys:=by
 obtain⟨its,r,⟨o,n,e,_,_,d⟩,_⟩:=I.list h;obtain⟨its',r',⟨o',n',e',_,_,d'⟩,_⟩:=I.list h';rw[e]at e';cases e';rw[d]at d';injection d' with d1 _
 have:its=its':=by simpa using congrArg Array.toList d1
 subst this;exact r.inj r'
theorem Inv.jj(I:Inv X kb σ H s)(h:bp X.K H a xs)(h':bp X.K H a ys):xs=ys:=by
 obtain⟨its,r,⟨o,e,_,n,d⟩,_⟩:=I.tuple h;obtain⟨its',r',⟨o',e',_,n',d'⟩,_⟩:=I.tuple h';rw[e]at e';cases e';rw[d]at d';injection d' with d1 _
 have:its=its':=by simpa using congrArg Array.toList d1
 subst this;exact r.inj r'
abbrev Cx.wish(X:Cx)(E:Value->Shared->Prop):Cx:={X with xe:=E}
abbrev Cx.wo(X:Cx):Cx:=X.wish fun _ _=>False
theorem Cx.Ok.wish{X:Cx}(ok:X.Ok)(E:Value->Shared->Prop):(X.wish E).Ok :=
 ⟨ok.mod,ok.kind,ok.glob,ok.blt,ok.above,ok.inj,ok.has,ok.cab,ok.hd,ok.frames,ok.stk,ok.Tx,ok.bs,ok.FH,ok.Ci,ok.Cj,ok.jW,ok.JG⟩
theorem Cx.Ok.ic{X:Cx}{E:Value->Shared->Prop}(ok:(X.wish E).Ok):X.Ok :=
 ⟨ok.mod,ok.kind,ok.glob,ok.blt,ok.above,ok.inj,ok.has,ok.cab,ok.hd,ok.frames,ok.stk,ok.Tx,ok.bs,ok.FH,ok.Ci,ok.Cj,ok.jW,ok.JG⟩
variable {E:Value->Shared->Prop}
theorem Inv.wish(I:Inv X kb σ H s)(E:Value->Shared->Prop):Inv (X.wish E) kb σ H s:=⟨I.ok.wish E,I.os,I.bare,I.base,I.loc,I.cell,I.free,I.iJ,I.pin,I.hok,I.len⟩
theorem Inv.ic(I:Inv (X.wish E) kb σ H s):Inv X kb σ H s:=⟨I.ok.ic,I.os,I.bare,I.base,I.loc,I.cell,I.free,I.iJ,I.pin,I.hok,I.len⟩
theorem SP.ic{D:Ends}{f:Flow}{s':Shared}(h:SP (X.wish E) kb D f s'):SP X kb D f s':=by
 cases f with
 | next=>obtain⟨σ',H',I,q⟩:=h;exact⟨σ',H',I.ic,q⟩
 | brk=>obtain⟨σ',H',I,q⟩:=h;exact⟨σ',H',I.ic,q⟩
 | cont=>obtain⟨σ',H',I,q⟩:=h;exact⟨σ',H',I.ic,q⟩
 | ret u=>obtain⟨v,σ',H',I,r,q⟩:=h;exact⟨v,σ',H',I.ic,r,q⟩
theorem qJ.wo{st:List Stmt}{t:TS}(h:qJ X.wo st t):qJ X st t:=fun kb s σ H D I hw=>
 en (h kb s σ H D (I.wish _) hw) (fun _ _ q=>q.ic) fun _ _ z=>False.elim z
variable {st:Stmt}{rest:List Stmt}{t u:TS}{e:Expr}{te:TE}{pos:Pos}
def N4:TS:=fun D σ H=>D.nx σ H
def uT(t u:TS):TS:=fun D σ H=>t {D with nx:=u D} σ H
theorem aF:qJ X [] N4:=fun _ _ σ H _ I h=>wpAny_execs_nil ⟨σ,H,I,h⟩
theorem aL(h1:PS X st t)(h2:qJ X rest u):qJ X (st::rest) (uT t u):=by
 intro kb s σ H D I h;refine wpAny_execs_cons (cz (h1 kb s σ H {D with nx:=u D} I h) fun f s1 q=>?_);cases f with
 | next=>
  obtain⟨σ',H',I',q⟩:=q;exact h2 kb s1 σ' H' D I' q
 | ret v=>exact q
 | brk=>exact q
 | cont=>exact q
theorem aJ(h1:PS X st t):qJ X [st] t:=by
 intro kb s σ H D I h;refine wpAny_execs_cons (cz (h1 kb s σ H D I h) fun f s1 q=>?_);cases f with
 | next=>exact wpAny_execs_nil q
 | ret v=>exact q
 | brk=>exact q
 | cont=>exact q
theorem Inv.quiet{kb:List (Addr×Obj)}{σ:St}{H:Hp}{s:Shared}(I:Inv X kb σ H s):interactive X.env=false:=by simp[interactive,I.ok.kind]
def N5(te:TE):TS:=fun D σ H=>te σ H fun _ H1=>D.nx σ H1
theorem dy(he:PE X e te)(hs:swapsWith e none pos.line X.env=pure false:=by rfl):PS X (.Expr e pos) (N5 te):=by intro kb s σ H D I h;exact wpAny_Expr_any (cz (he kb s σ H _ I h) fun v s1 ⟨x,H1,I1,r1,q1⟩=>⟨σ,H1,I1,q1⟩) I.quiet hs
def TQ(te:TE):TS:=fun D σ H=>te σ H D.rt
theorem aC(he:PE X e te):PS X (.Return (some e) pos) (TQ te):=by intro kb s σ H D I h;exact wpAny_Return_some (cz (he kb s σ H _ I h) fun v s1 ⟨x,H1,I1,r1,q1⟩=>⟨x,σ,H1,I1,r1,q1⟩)
def N6(c:TT)(t u:TS):TS:=fun D σ H=>c σ H fun b H1=>if b=true then t D σ H1 else u D σ H1
theorem cS{c:Expr}{a b:List Stmt}{tc:TT}(hc:PT X c tc)(ha:qJ X a t)(hb:qJ X b u):PS X (.If c a b pos) (N6 tc t u):=by
 intro kb s σ H D I h;refine wpAny_If (cz (hc kb s σ H _ I h) fun d s1 ⟨H1,I1,q1⟩=>?_);cases d with
 | true=>exact ha kb s1 σ H1 D I1 q1
 | false=>exact hb kb s1 σ H1 D I1 q1
def Cr:TS:=fun _ _ _=>False
theorem Cu:PS X st Cr:=fun _ _ _ _ _ _ h=>h.elim
theorem jk{sts:List Stmt}:qJ X sts Cr:=fun _ _ _ _ _ _ h=>h.elim
end
abbrev TG:=V->St->Hp->(St->Hp->Prop)->Prop
abbrev JJ:=List V->St->Hp->(St->Hp->Prop)->Prop
def PG(X:Cx)(target:Expr)(t:TG):Prop :=
 ∀(kb:List (Addr×Obj)) (s:Shared) (σ:St) (H:Hp) (v:V) (u:Value) (Q:St->Hp->Prop),Inv X kb σ H s->RelV v u->t v σ H Q->
  wpAny (model X.prog X.w) X.A (assign target X.env u) (fun _ s'=>∃σ' H',Inv X kb σ' H' s'/\Q σ' H') X.xe s
def RX(X:Cx)(ts:List Expr)(t:JJ):Prop :=
 ∀(kb:List (Addr×Obj)) (s:Shared) (σ:St) (H:Hp) (vs:List V) (us:List Value) (Q:St->Hp->Prop),Inv X kb σ H s->Vals vs us->t vs σ H Q->
  wpAny (model X.prog X.w) X.A (assignInOrder ((assignEach ts X.env).map (·.2)) us) (fun _ s'=>∃σ' H',Inv X kb σ' H' s'/\Q σ' H') X.xe s
abbrev JK:=V->V->V->Hp->(Hp->Prop)->Prop
def N7(X:Cx)(t:JK):Prop :=
 ∀(kb:List (Addr×Obj)) (s:Shared) (σ:St) (H:Hp) (o i v:V) (ov iv u:Value) (Q:Hp->Prop),Inv X kb σ H s->RelV o ov->RelV i iv->RelV v u->t o i v H Q->
  wpAny (model X.prog X.w) X.A (setItem ov iv u) (fun _ s'=>∃H',Inv X kb σ H' s'/\Q H') X.xe s
section
variable {X:Cx}{pos:Pos}
def iL(i:Nat):TG:=fun v σ H Q=>Q (σ.set i (some v)) H
theorem bg{i:Nat}{x:Str}(hN:X.N.Nodup)(hi:X.N[i]? =some x)(hx:Loc X.env.scope x)(hf:X.fn x=true\/X.env.scope.names.lookup x=some .local:=by first | exact .inl rfl | exact .inr rfl | assumption):PG X (.Name x pos) (iL i):=by intro kb s σ H v u Q I r h;exact wpAny_assign_Name (uS I hN hi hx r (fun s' I'=>⟨_,H,I',h⟩) hf)
def N8:JJ:=fun vs σ H Q=>vs=[]/\Q σ H
def Cv(t:TG)(u:JJ):JJ:=fun vs σ H Q=>∃v r,vs=v::r/\t v σ H fun σ' H'=>u r σ' H' Q
theorem sC:RX X [] N8:=by intro kb s σ H vs us Q I r h;obtain⟨e,h⟩:=h;subst e;cases r;exact assignInOrder_nil ⟨σ,H,I,h⟩
theorem gJ{e:Expr}{es:List Expr}{t:TG}{u:JJ}(h1:PG X e t)(h2:RX X es u)
  (hs:(assignEach (e::es) X.env).map (·.2)=assign e X.env::(assignEach es X.env).map (·.2):=by rfl):RX X (e::es) (Cv t u):=by
 intro kb s σ H vs us Q I r h;obtain⟨v,vr,e1,h⟩:=h;subst e1;cases r with
 | cons r rr=>
  rw[hs];refine assignInOrder_cons (cz (h1 kb s σ H _ _ _ I r h) fun _ s1 ⟨σ1,H1,I1,q1⟩=>?_);exact h2 kb s1 σ1 H1 _ _ Q I1 rr q1
def N9(K:gt)(n:Nat)(t:JJ):TG:=fun v σ H Q=>∃a xs,v=.ref a/\bp K H a xs/\xs.length=n/\t xs σ H Q
theorem wA{es:List Expr}{k:Nat}{t:JJ}{n:Nat}(hc:X.calm=true)(h:RX X es t)
  (hn:(assignEach es X.env).length=n:=by rfl) (hst:(assignEach es X.env).findIdx? (·.1)=none:=by rfl):PG X (.Tuple es k pos) (N9 X.K n t):=by
 intro kb s σ H v u Q I r hw;obtain⟨a,xs,e1,hq,hl,hw⟩:=hw;subst e1;cases r;obtain⟨its,rv,ht,hz⟩:=I.tuple hq;refine assign_Tuple_tuple (I.ok.hd hc) ht (by simp[hn,<-hl,rv.length]) hst fun h' hx=>?_;have I1:Inv X kb σ H {s with heap:=h'}:=I.kept (t':=s.toks) fun b o e=>hx b o (kt (fw e)) e;exact h kb _ σ H xs _ Q I1 (by simpa using rv) hw
def TU(to ti:TE)(t:JK):TG:=fun v σ H Q=>to σ H fun o H1=>ti σ H1 fun i H2=>t o i v H2 fun H3=>Q σ H3
theorem ie{o i:Expr}{to ti:TE}{t:JK}(ho:PE X o to)(hi:PE X i ti)(hs:N7 X t)
  (ha:∀v,assign (.Subscript o i pos) X.env v=(do
   let ov <-holding [v] (eval o X.env)
   let iv <-holding [v,ov] (eval i X.env)
   standAt pos
   holding [v,ov,iv] (setItem ov iv v)
   release [v,ov,iv] []):=by intro _;rfl):PG X (.Subscript o i pos) (TU to ti t):=by
 intro kb s σ H v u Q I r h;rw[ha];refine de (wpAny_holding (cz (ho kb s σ H _ I h) fun ov s1 ⟨x,H1,I1,r1,q1⟩=>?_));refine de (wpAny_holding (cz (hi kb s1 σ H1 _ I1 q1) fun iv s2 ⟨y,H2,I2,r2,q2⟩=>?_));refine de (wpAny_standAt (de (wpAny_holding (cz (hs kb s2 σ H2 x y v ov iv u _ I2 r1 r2 r q2) fun _ s3 ⟨H3,I3,q3⟩=>?_))));exact wpAny_release ⟨σ,H3,I3,q3⟩
def Cw(te:TE)(g:TG):TS:=fun D σ H=>te σ H fun x H1=>g x σ H1 D.nx
theorem e9{tg e:Expr}{te:TE}{g:TG}(he:PE X e te)(hg:PG X tg g)(hs:swapsWithSole [tg] e pos.line X.env=pure false:=by rfl)(hw:swappedStores [tg] e X.env=pure none:=by rfl)
  (h1:(assignEach [tg] X.env).map (·.2)=[assign tg X.env]:=by rfl):PS X (.Assign [tg] e pos) (Cw te g):=by
 intro kb s σ H D I h;refine wpAny_Assign_stores (cz (he kb s σ H _ I h) fun v s1 ⟨x,H1,I1,r1,q1⟩=>?_) hs hw;rw[h1];exact cz (hg kb s1 σ H1 x v _ I1 r1 q1) fun _ s2 q=>q
theorem aT{i:Nat}{x:Str}{e:Expr}{te:TE}{pos':Pos}(hN:X.N.Nodup)(hi:X.N[i]? =some x)(hx:Loc X.env.scope x)(he:PE X e te)(hs:swapsWith e (some (.Name x pos')) pos.line X.env=pure false:=by rfl)(hf:X.fn x=true\/X.env.scope.names.lookup x=some .local:=by first | exact .inl rfl | exact .inr rfl | assumption):
  PS X (.Assign [.Name x pos'] e pos) (Cw te (iL i)):=by
 intro kb s σ H D I h;refine wpAny_Assign_Name (cz (he kb s σ H _ I h) fun v s1 ⟨y,H1,I1,r1,q1⟩=>?_) hs;exact uS I1 hN hi hx r1 (fun s2 I2=>⟨_,H1,I2,q1⟩) hf
def wB(c:TT)(tb:TS):TS:=fun D σ H=>∃W:Nat->St->Hp->Prop,(∃m,W m σ H)/\∀m σ H,W m σ H->
 c σ H fun b H1=>if b=true then ∃N:St->Hp->Prop,(∀σ' H',N σ' H'->∃m',m'<m/\W m' σ' H')/\tb {D with nx:=N,ct:=N,bk:=D.nx} σ H1 else D.nx σ H1
theorem oO{c:Expr}{body:List Stmt}{tc:TT}{tb:TS}(hp:PassesOwn (model X.prog X.w) X.A X.env X.xe)(hc:PT X c tc)(hb:qJ X body tb):PS X (.While c body [] pos) (wB tc tb):=by
 intro kb s σ H D I h;obtain⟨W,⟨m0,w0⟩,turn⟩:=h;refine wpAny_While (codeAny_whileLoop (fun n s'=>∃σ' H',Inv X kb σ' H' s'/\W n σ' H') ?_ m0 ⟨σ,H,I,w0⟩);rintro n s1 ⟨σ1,H1,I1,w1⟩;refine wpAny_passesOwn hp (cz (hc kb s1 σ1 H1 _ I1 (turn n σ1 H1 w1)) fun b s2 ⟨H2,I2,q2⟩=>?_);cases b with
 | true=>
  obtain⟨N,hN,q2⟩:=q2;rw[if_pos rfl];refine wpAny_passesOwn hp (cz (hb kb s2 σ1 H2 _ I2 q2) fun f s3 q3=>?_);cases f with
  | next=>
   obtain⟨σ3,H3,I3,n3⟩:=q3;obtain⟨m',hm,w3⟩:=hN σ3 H3 n3;exact⟨m',hm,σ3,H3,I3,w3⟩
  | cont=>
   obtain⟨σ3,H3,I3,n3⟩:=q3;obtain⟨m',hm,w3⟩:=hN σ3 H3 n3;exact⟨m',hm,σ3,H3,I3,w3⟩
  | brk=>exact q3
  | ret v=>exact q3
 | false=>
  rw[if_neg lm];exact wpAny_execs_nil ⟨σ1,H2,I2,q2⟩
structure It where
 go:Nat->Hp->Prop
 B3:Nat->Hp->V->Hp->Prop
 stop:Nat->Hp->Prop
def oP(X:Cx)(kb:List (Addr×Obj))(H:Hp)(b:Addr):Prop :=
 H b=none/\b≠X.env.locals/\b∉X.fs/\(b∈X.ex\/X.s₀.heap.objs.size<=b)/\(∀x c,X.env.cells.lookup x=some c->c≠b)/\∀p∈X.pn++kb,p.1≠b
theorem Inv.wC{X:Cx}{kb:List (Addr×Obj)}{σ:St}{H H':Hp}{s:Shared}{b:Addr}(I:Inv X kb σ H s)(hb:s.heap.objs.size<=b)(hn:H' b=none):oP X kb H' b:=by
 refine⟨hn,Nat.ne_of_gt (Nat.lt_of_lt_of_le I.lt hb),I.TF hb,.inr (li I.sz hb),fun x c e z=>?_,fun p hp z=>?_⟩
 ·obtain⟨v,q⟩:=I.cell x c e;exact absurd (Nat.lt_of_lt_of_le q.lt (by rw[z];exact hb)) (Nat.lt_irrefl _)
 ·exact absurd (Nat.lt_of_lt_of_le (fw (I.pin p hp).1) (by rw[z];exact hb)) (Nat.lt_irrefl _)
structure Turn(P:Program)(w:World)(K:gt)(tg:Expr)(J:It)(fp:List Addr)(it:Addr)(tn:Nat->Heap->Prop):Prop where
 mem:it∈fp
 obj:∀i h,tn i h->∀b∈fp,∃o,h.get? b=some o/\∀v,o.data≠.cell v
 keep:∀i h h',tn i h->(∀b∈fp,∀o,h.get? b=some o->h'.get? b=some o)->tn i h'
 item:∀(X:Cx),X.prog=P->X.w=w->X.K=K->X.calm=true->∀(i:Nat) (kb:List (Addr×Obj)) (s:Shared) (σ:St) (H:Hp) (E:Value->Shared->Prop),Inv X kb σ H s->(∀b∈fp,oP X kb H b)->tn i s.heap->J.go i H->
  wpAny (model P w) X.A (pyNext (.ref it)) (fun r s1=>∃u,r=some u/\
   wpAny (model P w) X.A (letOwnedTupleGo tg (.ref it) u) (fun _ s2=>∃x H',Inv X kb σ H' s2/\RelV x u/\J.B3 i H x H'/\tn (i+1) s2.heap/\∀b∈fp,H' b=none) E s1) E s
 done:∀(X:Cx),X.prog=P->X.w=w->X.K=K->X.calm=true->∀(i:Nat) (kb:List (Addr×Obj)) (s:Shared) (σ:St) (H:Hp) (E:Value->Shared->Prop),Inv X kb σ H s->(∀b∈fp,oP X kb H b)->tn i s.heap->J.stop i H->
  wpAny (model P w) X.A (pyNext (.ref it)) (fun r s1=>r=none/\Inv X kb σ H s1) E s
 self:∀(A:Around) (i:Nat) (s:Shared) (Q:Value->Shared->Prop) (E:Value->Shared->Prop),tn i s.heap->Q (.ref it) s->wpAny (model P w) A (pyIter (.ref it)) Q E s
abbrev TI:=St->Hp->(It->Hp->Prop)->Prop
def PIE(X:Cx)(kb:List (Addr×Obj))(σ:St)(tg:Expr)(R:It->Hp->Prop)(itv:Value)(s2:Shared):Prop :=
 ∃(it:Addr) (fp:List Addr) (tn:Nat->Heap->Prop) (J:It) (H':Hp),itv=.ref it/\Inv X kb σ H' s2/\Turn X.prog X.w X.K tg J fp it tn/\tn 0 s2.heap/\(∀b∈fp,oP X kb H' b)/\R J H'
def PI(X:Cx)(tg iter:Expr)(wi:TI):Prop :=
 ∀(kb:List (Addr×Obj)) (s:Shared) (σ:St) (H:Hp) (R:It->Hp->Prop),Inv X kb σ H s->wi σ H R->
  wpAny (model X.prog X.w) X.A (eval iter X.env) (fun v s1=>wpAny (model X.prog X.w) X.A (pyIter v) (PIE X kb σ tg R) X.xe s1) X.xe s
theorem yO{M:Model}{A:Around}{E:Value->Shared->Prop}{s:Shared}{tg:Expr}{it:Addr}{u:Value}{o:Obj}{n:String}{vs:Array Value}{Q:Unit->Shared->Prop}(ho:s.heap.get? it=some o)(hc:o.cls=.type n)(hd:o.data=.fields vs)
  (hn:["enumerate","zip","dict_itemiterator","dict_reverseitemiterator","odict_iterator","itertools.zip_longest","itertools.pairwise"].contains n=false) (hQ:Q () s):wpAny M A (letOwnedTupleGo tg (.ref it) u) Q E s:=by
 unfold letOwnedTupleGo;cases tg<;>first
  | exact dL hQ
  | (cases u<;>first
    | exact dL hQ
    | (refine de (wpAny_load ho ?_)
       rw[hc,hd];show wpAny M A (if (["enumerate","zip","dict_itemiterator","dict_reverseitemiterator","odict_iterator","itertools.zip_longest","itertools.pairwise"].contains n&&vs[0]? ==some (rawInt _))=true then _ else _) Q E s;rw[if_neg (by intro h;rw[hn,Bool.false_and]at h;cases h)]
       exact dL hQ))
def Im(K:gt)(a:Addr):It :=
 ⟨fun i H=>∃xs x,aR K H a xs/\xs[i]? =some x,fun i H x H'=>H'=H/\∀xs,aR K H a xs->xs[i]? =some x,fun i H=>∃xs,aR K H a xs/\xs.length<=i⟩
def Oa(K:gt)(a:Addr):It :=
 ⟨fun i H=>∃xs x,bp K H a xs/\xs[i]? =some x,fun i H x H'=>H'=H/\∀xs,bp K H a xs->xs[i]? =some x,fun i H=>∃xs,bp K H a xs/\xs.length<=i⟩
def FI(lo:Int)(n:Nat):It:=⟨fun i _=>i<n,fun i H x H'=>H'=H/\x=.int (lo+i),fun i _=>n<=i⟩
theorem Ar{P:Program}{w:World}{K:gt}{tg:Expr}(a it:Addr):Turn P w K tg (Im K a) [it] it (fun i h=>h.IsListIter it a i) where
 mem:=by simp
 obj:=fun i h st b hb=>by
  have e:b=it:=by simpa using hb
  subst e;obtain⟨o,e,c,d⟩:=st;exact⟨o,e,fun v z=>by rw[d]at z;cases z⟩
 keep:=fun i h h' st k=>st.at fun o e=>k it (by simp) o e
 item:=by intro X hP hw hK hc i kb s σ H E I hf st hg;subst hP hw hK;obtain⟨xs,x,hq,hx⟩:=hg;obtain⟨its,rv,p,hz⟩:=I.list hq;obtain⟨u,hu,ru⟩:=rv.get hx;obtain⟨f0,f1,f2,f3,f4,f5⟩:=hf it (by simp);refine wpAny_pyNext_list_item st p.isList (x:=u) (by simpa using hu) fun h' st' sb=>?_;have I1:Inv X kb σ H {s with heap:=h'}:=I.turned (t':=s.toks) (fun b o hb e=>(sb.2 b hb).trans e) f0 f1 f3 f4 f5;obtain⟨o,e,c,d⟩:=id st';exact⟨u,rfl,yO (s:={s with heap:=h'}) e c d (by decide) ⟨x,H,I1,ru,⟨rfl,fun ys hy=>by rw[I.iU hy hq];exact hx⟩,st',fun b hb=>(hf b hb).1⟩⟩
 done:=by intro X hP hw hK hc i kb s σ H E I hf st hg;subst hP hw hK;obtain⟨xs,hq,hx⟩:=hg;obtain⟨its,rv,p,hz⟩:=I.list hq;obtain⟨f0,f1,f2,f3,f4,f5⟩:=hf it (by simp);have hl:=rv.length;exact wpAny_pyNext_list_end (I.ok.hd hc) st p.isList (by simp;omega) fun h' eb=>⟨rfl,I.turned (t':=s.toks) (fun b o hb e=>eb b o hb e) f0 f1 f3 f4 f5⟩
 self:=fun _ _ _ _ _ st h=>wpAny_pyIter_listiter st h
theorem wD{P:Program}{w:World}{K:gt}{tg:Expr}(a it:Addr):Turn P w K tg (Oa K a) [it] it (fun i h=>h.IsTupleIter it a i) where
 mem:=by simp
 obj:=fun i h st b hb=>by
  have e:b=it:=by simpa using hb
  subst e;obtain⟨o,e,c,d⟩:=st;exact⟨o,e,fun v z=>by rw[d]at z;cases z⟩
 keep:=fun i h h' st k=>st.at fun o e=>k it (by simp) o e
 item:=by intro X hP hw hK hc i kb s σ H E I hf st hg;subst hP hw hK;obtain⟨xs,x,hq,hx⟩:=hg;obtain⟨its,rv,p,hz⟩:=I.tuple hq;obtain⟨u,hu,ru⟩:=rv.get hx;obtain⟨f0,f1,f2,f3,f4,f5⟩:=hf it (by simp);refine wpAny_pyNext_tuple_item st (show s.heap.IsTuple a its.toArray from p) (x:=u) (by simpa using hu) fun h' st' sb=>?_;have I1:Inv X kb σ H {s with heap:=h'}:=I.turned (t':=s.toks) (fun b o hb e=>(sb.2 b hb).trans e) f0 f1 f3 f4 f5;obtain⟨o,e,c,d⟩:=id st';exact⟨u,rfl,yO (s:={s with heap:=h'}) e c d (by decide) ⟨x,H,I1,ru,⟨rfl,fun ys hy=>by rw[I.jj hy hq];exact hx⟩,st',fun b hb=>(hf b hb).1⟩⟩
 done:=by intro X hP hw hK hc i kb s σ H E I hf st hg;subst hP hw hK;obtain⟨xs,hq,hx⟩:=hg;obtain⟨its,rv,p,hz⟩:=I.tuple hq;obtain⟨f0,f1,f2,f3,f4,f5⟩:=hf it (by simp);have hl:=rv.length;exact wpAny_pyNext_tuple_end (I.ok.hd hc) st (show s.heap.IsTuple a its.toArray from p) (by simp;omega) fun h' eb=>⟨rfl,I.turned (t':=s.toks) (fun b o hb e=>eb b o hb e) f0 f1 f3 f4 f5⟩
 self:=fun _ _ _ _ _ st h=>wpAny_pyIter_tupleiter st h
theorem wF{P:Program}{w:World}{K:gt}{tg:Expr}(it:Addr)(lo:Int)(n:Nat):Turn P w K tg (FI lo n) [it] it (fun i h=>IsRangeIter h it (lo+(i:Nat)*1) ((n:Int)- (i:Nat)) 1) where
 mem:=by simp
 obj:=fun i h st b hb=>by
  have e:b=it:=by simpa using hb
  subst e
  exact⟨_,st,fun v z=>by
   have z':Data.fields _=Data.cell v:=z
   cases z'⟩
 keep:=fun i h h' st k=>k it (by simp) _ st
 item:=by intro X hP hw hK hc i kb s σ H E I hf st hg;subst hP hw hK;obtain⟨f0,f1,f2,f3,f4,f5⟩:=hf it (by simp);have W:=Walks.range (prog:=X.prog) (w:=X.w) (I.ok.hd hc) it lo 1 n;refine W.item i s _ _ hg st fun v h' tk hv st' kk=>?_;obtain⟨t,rfl⟩:=hv;have I1:Inv X kb σ H {s with heap:=h',toks:=tk}:=I.turned (fun b o hb e=>kk b o (by simpa using hb) e) f0 f1 f3 f4 f5;refine⟨_,rfl,yO (s:={s with heap:=h',toks:=tk}) (n :="range_iterator") st' rfl rfl (by decide) ⟨.int (lo+i),H,I1,⟨t,?_⟩,⟨rfl,rfl⟩,st',fun b hb=>(hf b hb).1⟩⟩;rw[Int.mul_one]
 done:=by intro X hP hw hK hc i kb s σ H E I hf st hg;subst hP hw hK;obtain⟨f0,f1,f2,f3,f4,f5⟩:=hf it (by simp);exact wpAny_pyNext_range_end (I.ok.hd hc) st (by have:n<=i:=hg;omega) fun h' eb=>⟨rfl,I.turned (t':=s.toks) (fun b o hb e=>eb b o hb e) f0 f1 f3 f4 f5⟩
 self:=fun _ _ _ _ _ st h=>wpAny_pyIter_rangeiter st h
variable {tg:Expr}
def Ob(K:gt)(tl:TE):TI:=fun σ H R=>tl σ H fun x H1=>∃a,x=.ref a/\(∃xs,aR K H1 a xs)/\R (Im K a) H1
def Oc(K:gt)(tl:TE):TI:=fun σ H R=>tl σ H fun x H1=>∃a,x=.ref a/\(∃xs,bp K H1 a xs)/\R (Oa K a) H1
theorem cJ{l:Expr}{tl:TE}(hl:PE X l tl):PI X tg l (Ob X.K tl):=by
 intro kb s σ H R I h;refine cz (hl kb s σ H _ I h) fun v s1 ⟨x,H1,I1,r1,q1⟩=>?_;obtain⟨a,e,⟨xs,hq⟩,q⟩:=q1;subst e;cases r1;obtain⟨its,rv,p,hz⟩:=I1.list hq;refine wpAny_pyIter_list p.isList ?_;refine⟨s1.heap.objs.size,[s1.heap.objs.size],_,_,H1,rfl,I1.kept (t':=s1.toks) fun b o e=>fg _ e,Ar a _,⟨_,fm _ rfl,rfl,rfl⟩,fun b hb=>?_,q⟩;have e:b=s1.heap.objs.size:=by simpa using hb
 subst e;exact I1.wC (ki _) (I1.hok.fresh (ki _))
theorem k8{l:Expr}{tl:TE}(hl:PE X l tl):PI X tg l (Oc X.K tl):=by
 intro kb s σ H R I h;refine cz (hl kb s σ H _ I h) fun v s1 ⟨x,H1,I1,r1,q1⟩=>?_;obtain⟨a,e,⟨xs,hq⟩,q⟩:=q1;subst e;cases r1;obtain⟨its,rv,p,hz⟩:=I1.tuple hq;refine wpAny_pyIter_tuple (show s1.heap.IsTuple a its.toArray from p) ?_;refine⟨s1.heap.objs.size,[s1.heap.objs.size],_,_,H1,rfl,I1.kept (t':=s1.toks) fun b o e=>fg _ e,wD a _,⟨_,fm _ rfl,rfl,rfl⟩,fun b hb=>?_,q⟩;have e:b=s1.heap.objs.size:=by simpa using hb
 subst e;exact I1.wC (ki _) (I1.hok.fresh (ki _))
theorem Cy{kb:List (Addr×Obj)}{σ:St}{H:Hp}{s:Shared}{R:It->Hp->Prop}{E:Value->Shared->Prop}{lo hi:Int}{t u v:Tok}{tk:Nat}(I:Inv X kb σ H s)(h1:-(2^62)<=lo)(h2:lo<2^62)(h3:-(2^62)<=hi)(h4:hi<2^62)
  (q:R (FI lo (hi-lo).toNat) H):wpAny (model X.prog X.w) X.A (pyIter (.ref s.heap.objs.size)) (PIE X kb σ tg R) E {s with heap:=s.heap.push {cls:=.type "range",data:=.fields #[.int lo t,.int hi u,.int 1 v]},toks:=tk}:=by
 refine wpAny_pyIter_range (IsRange.new ..) (small_one h1 h2 h3 h4) ?_;have I1:Inv X kb σ H {s with heap:=s.heap.push {cls:=.type "range",data:=.fields #[.int lo t,.int hi u,.int 1 v]},toks:=tk}:=I.kept fun b o e=>fg _ e
 refine⟨(s.heap.push {cls:=.type "range",data:=.fields #[.int lo t,.int hi u,.int 1 v]}).objs.size,[(s.heap.push {cls:=.type "range",data:=.fields #[.int lo t,.int hi u,.int 1 v]}).objs.size],_,_,H,rfl,
  I1.kept (t':=tk) fun b o e=>fg _ e,wF _ lo (hi-lo).toNat,?_,fun b hb=>?_,q⟩
 ·have e1:lo+((0:Nat):Int)*1=lo:=by simp
  have e2:(((hi-lo).toNat:Nat):Int)- ((0:Nat):Int)=Builtin.Range.rangeSize lo hi 1:=by rw[rangeSize_one];split<;>omega
  show IsRangeIter _ _ (lo+((0:Nat):Int)*1) ((((hi-lo).toNat:Nat):Int)- ((0:Nat):Int)) 1;rw[e1,e2];exact fm _ rfl
 ·have e:b=(s.heap.push {cls:=.type "range",data:=.fields #[.int lo t,.int hi u,.int 1 v]}).objs.size:=by simpa using hb
  subst e;exact I1.wC (ki _) (I1.hok.fresh (ki _))
def Od(ta:TA):TI:=fun σ H R=>ta σ H fun vs H1=>∃j:Int,vs=[.int j]/\-(2^62)<=j/\j<2^62/\R (FI 0 j.toNat) H1
theorem ei{a:Expr}{ta:TA}{p pos:Pos}(hg:Gl X "range")(hm:X.mg "range"=none)(ha:PA X [a] ta)(hs:starEach [a] X.env=[(false,eval a X.env)]:=by rfl):PI X tg (.Call (.Name "range" p) [a] [] pos) (Od ta):=by
 intro kb s σ H R I h;refine Call_ (ib I hg hm boot_range (PyProof.Rows.callWith_type1 (cz (ha pos kb s σ H _ I h) fun us s1 ⟨vs,H1,I1,r1,q1⟩=>?_) hs rfl));obtain⟨j,e,q1,q2,q⟩:=q1;subst e;cases r1 with
 | cons r rr=>
  cases rr;obtain⟨t,rfl⟩:=r;exact call_range_1 (Cy I1 (by omega) (by omega) q1 q2 (by simpa using q))
def TV(wi:TI)(g:TG)(tb:TS):TS:=fun D σ H=>wi σ H fun J H1=>∃W:Nat->Nat->St->Hp->Prop,(∃m,W 0 m σ H1)/\∀i m σ H,W i m σ H->
 (J.stop i H/\D.nx σ H)\/(J.go i H/\∃N:St->Hp->Prop,(∀σ' H',N σ' H'->∃m',m'<m/\W (i+1) m' σ' H')/\∀x H',J.B3 i H x H'->g x σ H' fun σ2 H2=>tb {D with nx:=N,ct:=N,bk:=D.nx} σ2 H2)
def oQ(fp:List Addr)(h:Heap):List (Addr×Obj):=fp.filterMap fun b=>(h.get? b).map fun o=>(b,o)
theorem ig{fp:List Addr}{h:Heap}{b:Addr}{o:Obj}(hb:b∈fp)(e:h.get? b=some o):(b,o)∈oQ fp h:=List.mem_filterMap.mpr ⟨b,hb,by rw[e];rfl⟩
theorem Au{fp:List Addr}{h:Heap}{p:Addr×Obj}(hp:p∈oQ fp h):p.1∈fp/\h.get? p.1=some p.2:=by
 obtain⟨b,hb,e⟩:=List.mem_filterMap.mp hp;cases q:h.get? b with
 | none=>rw[q]at e;cases e
 | some o=>
  rw[q]at e;have e':(b,o)=p:=Option.some.inj e;subst e';exact⟨hb,q⟩
theorem Inv.pinned{kb:List (Addr×Obj)}{σ:St}{H:Hp}{s:Shared}{fp:List Addr}(I:Inv X kb σ H s)(hf:∀b∈fp,oP X kb H b)(ho:∀b∈fp,∃o,s.heap.get? b=some o/\∀v,o.data≠.cell v):Inv X (kb++oQ fp s.heap) σ H s :=
 I.yN fun p hp=>(List.mem_append.mp hp).elim (fun z=>I.pin p (List.mem_append_right _ z)) fun z=>by obtain⟨hb,e⟩:=Au z;obtain⟨f0,f1,f2,_⟩:=hf p.1 hb;obtain⟨o,e',d⟩:=ho p.1 hb;rw[e]at e';cases e';exact⟨e,f0,f1,f2,d⟩
theorem Inv.jZ{kb pl:List (Addr×Obj)}{σ:St}{H:Hp}{s:Shared}(I:Inv X (kb++pl) σ H s):Inv X kb σ H s:=I.yN fun p hp=>I.pin p (List.mem_append_right _ (List.mem_append_left _ hp))
theorem dA{iter:Expr}{body:List Stmt}{wi:TI}{g:TG}{tb:TS}{pos:Pos}(hp:PassesOwn (model X.prog X.w) X.A X.env X.xe)(hc:X.calm=true)(hi:PI X tg iter wi)(hg:PG X tg g)(hb:qJ X body tb)
  (hs:∀x,foldedSetIterable iter X.env x=pure x:=by intro _;rfl):PS X (.For tg iter body [] pos) (TV wi g tb):=by
 intro kb s σ H D I h;refine wpAny_For (cz (hi kb s σ H _ I h) fun v s1 h1=>cz h1 fun itv s2 h2=>?_) hs;obtain⟨it,fp,tn,J,H2,e,I2,T,st2,f2,W,⟨m0,w0⟩,turn⟩:=h2;subst e;have stat:∀{H':Hp},(∀b∈fp,H' b=none)->∀b∈fp,oP X kb H' b:=fun hn b hb=>⟨hn b hb,(f2 b hb).2⟩;refine codeAny_forLoop_any (fun n s'=>∃i σ' H',Inv X kb σ' H' s'/\tn i s'.heap/\(∀b∈fp,H' b=none)/\W i n σ' H') ?_ m0 ⟨0,σ,H2,I2,st2,fun b hb=>(f2 b hb).1,w0⟩;rintro n s3 ⟨i,σ3,H3,I3,st3,YF,w3⟩;rcases turn i n σ3 H3 w3 with ⟨stop,qn⟩ | ⟨go,N,hN,step⟩
 ·refine wpAny_passesOwn hp (cz (T.done X rfl rfl rfl hc i kb s3 σ3 H3 X.xe I3 (stat YF) st3 stop) fun r s4 ⟨hr,I4⟩=>?_);subst hr;exact wpAny_execs_nil ⟨σ3,H3,I4,qn⟩
 ·refine wpAny_passesOwn hp (cz (T.item X rfl rfl rfl hc i kb s3 σ3 H3 X.xe I3 (stat YF) st3 go) fun r s4 ⟨u,hr,h4⟩=>?_);subst hr;refine wpAny_passesOwn hp (cz h4 fun _ s5 ⟨x,H5,I5,r5,y5,wq,RY⟩=>?_);have I5':=I5.pinned (stat RY) (T.obj _ _ wq);refine wpAny_passesOwn hp (cz (hg _ s5 σ3 H5 x u _ I5' r5 (step x H5 y5)) fun _ s6 ⟨σ6,H6,I6,q6⟩=>?_);refine wpAny_passesOwn hp (cz (hb _ s6 σ6 H6 _ I6 q6) fun f s7 q7=>?_);have again:∀{σ7:St} {H7:Hp},Inv X (kb++oQ fp s5.heap) σ7 H7 s7->N σ7 H7->∃m,m<n/\∃i σ' H',Inv X kb σ' H' s7/\tn i s7.heap/\(∀b∈fp,H' b=none)/\W i m σ' H':=fun {σ7 H7} I7 n7=>by obtain⟨m',hm,w7⟩:=hN σ7 H7 n7;refine⟨m',hm,i+1,σ7,H7,I7.jZ,T.keep _ _ _ wq fun b hb o e=>(I7.pin (b,o) (List.mem_append_right _ (List.mem_append_right _ (ig hb e)))).1,fun b hb=>?_,w7⟩;obtain⟨o,e,d⟩:=T.obj _ _ wq b hb;exact(I7.pin (b,o) (List.mem_append_right _ (List.mem_append_right _ (ig hb e)))).2.1
  cases f with
  | next=>obtain⟨σ7,H7,I7,n7⟩:=q7;exact again I7 n7
  | cont=>obtain⟨σ7,H7,I7,n7⟩:=q7;exact again I7 n7
  | brk=>obtain⟨σ7,H7,I7,q7⟩:=q7;exact⟨σ7,H7,I7.jZ,q7⟩
  | ret v=>obtain⟨x7,σ7,H7,I7,r7,q7⟩:=q7;exact⟨x7,σ7,H7,I7.jZ,r7,q7⟩
theorem gK{K:gt}{a:Addr}{xs:List V}{g:TG}{tb:TS}{D:Ends}{σ:St}{H:Hp}(Pv:Nat->St->Hp->Prop)(h0:Pv 0 σ H)(hl:∀i σ H,i<=xs.length->Pv i σ H->aR K H a xs)
  (hs:∀i x σ H,xs[i]? =some x->Pv i σ H->g x σ H fun σ2 H2=>tb {D with nx:=Pv (i+1),ct:=Pv (i+1),bk:=D.nx} σ2 H2) (hd:∀σ H,Pv xs.length σ H->D.nx σ H):
  ∃W:Nat->Nat->St->Hp->Prop,(∃m,W 0 m σ H)/\∀i m σ H,W i m σ H->
   ((Im K a).stop i H/\D.nx σ H)\/((Im K a).go i H/\∃N:St->Hp->Prop,(∀σ' H',N σ' H'->∃m',m'<m/\W (i+1) m' σ' H')/\∀x H',(Im K a).B3 i H x H'->g x σ H' fun σ2 H2=>tb {D with nx:=N,ct:=N,bk:=D.nx} σ2 H2):=by
 refine⟨fun i m σ H=>m=xs.length-i/\i<=xs.length/\Pv i σ H,⟨xs.length,by simp,Nat.zero_le _,h0⟩,?_⟩;rintro i m σ H ⟨rfl,hi,p⟩;have q:=hl i σ H hi p;by_cases hlt:i<xs.length
 ·refine .inr ⟨⟨xs,xs[i],q,by simp[hlt]⟩,Pv (i+1),fun σ' H' p'=>⟨xs.length- (i+1),by omega,rfl,hlt,p'⟩,fun x H' y=>?_⟩;obtain⟨e,y⟩:=y;subst e;exact hs i x σ _ (y xs q) p
 ·have e:i=xs.length:=by omega
  subst e;exact .inl ⟨⟨xs,q,ki _⟩,hd σ H p⟩
theorem gL{lo:Int}{n:Nat}{g:TG}{tb:TS}{D:Ends}{σ:St}{H:Hp}(Pv:Nat->St->Hp->Prop)(h0:Pv 0 σ H)
  (hs:∀i σ H,i<n->Pv i σ H->g (.int (lo+i)) σ H fun σ2 H2=>tb {D with nx:=Pv (i+1),ct:=Pv (i+1),bk:=D.nx} σ2 H2) (hd:∀σ H,Pv n σ H->D.nx σ H):
  ∃W:Nat->Nat->St->Hp->Prop,(∃m,W 0 m σ H)/\∀i m σ H,W i m σ H->
   ((FI lo n).stop i H/\D.nx σ H)\/((FI lo n).go i H/\∃N:St->Hp->Prop,(∀σ' H',N σ' H'->∃m',m'<m/\W (i+1) m' σ' H')/\∀x H',(FI lo n).B3 i H x H'->g x σ H' fun σ2 H2=>tb {D with nx:=N,ct:=N,bk:=D.nx} σ2 H2):=by
 refine⟨fun i m σ H=>m=n-i/\i<=n/\Pv i σ H,⟨n,by simp,Nat.zero_le _,h0⟩,?_⟩;rintro i m σ H ⟨rfl,hi,p⟩;by_cases hlt:i<n
 ·refine .inr ⟨hlt,Pv (i+1),fun σ' H' p'=>⟨n- (i+1),by omega,rfl,hlt,p'⟩,fun x H' y=>?_⟩;obtain⟨e,y⟩:=y;subst e y;exact hs i σ _ hlt p
 ·have e:i=n:=by omega
  subst e;exact .inl ⟨ki _,hd σ H p⟩
abbrev R2:=V->V->Hp->VK->Prop
def jG(X:Cx)(f:Value->Value->Sem Value)(r:R2):Prop :=
 ∀(kb:List (Addr×Obj)) (s:Shared) (σ:St) (H:Hp) (x y:V) (v u:Value) (Q:VK),Inv X kb σ H s->RelV x v->RelV y u->r x y H Q->
  wpAny (model X.prog X.w) X.A (f v u) (EP X kb σ Q) X.xe s
def TX(X:Cx)(f:Value->Sem Value)(r:V->Hp->VK->Prop):Prop :=
 ∀(kb:List (Addr×Obj)) (s:Shared) (σ:St) (H:Hp) (x:V) (v:Value) (Q:VK),Inv X kb σ H s->RelV x v->r x H Q->
  wpAny (model X.prog X.w) X.A (f v) (EP X kb σ Q) X.xe s
def eL(X:Cx)(f:Value)(r:List V->Hp->VK->Prop):Prop :=
 ∀(kb:List (Addr×Obj)) (s:Shared) (σ:St) (H:Hp) (xs:List V) (us:List Value) (Q:VK),Inv X kb σ H s->Vals xs us->r xs H Q->
  wpAny (model X.prog X.w) X.A (call f us) (EP X kb σ Q) X.xe s
def Oe(r:R2)(ta tb:TE):TE:=fun σ H Q=>ta σ H fun x H1=>tb σ H1 fun y H2=>r x y H2 Q
def tUn(r:V->Hp->VK->Prop)(ta:TE):TE:=fun σ H Q=>ta σ H fun x H1=>r x H1 Q
inductive rI(C:Int->Int->Prop)(g:Int->Int->V)(x:V)(y:V)(H:Hp)(Q:VK):Prop
 | mk (i j) (_:x=.int i) (_:y=.int j) (_:C i j) (_:Q (g i j) H)
inductive Io(g:Int->Int->V)(x:V)(y:V)(H:Hp)(Q:VK):Prop
 | mk (i j) (_:x=.int i) (_:y=.int j) (_:Q (g i j) H)
inductive rU(g:Int->V)(x:V)(H:Hp)(Q:VK):Prop
 | mk (i) (_:x=.int i) (_:Q (g i) H)
variable {a b c:Expr}{ta tb tc:TE}
theorem JL(ha:PE X a ta)(hb:PE X b tb){kb:List (Addr×Obj)}{s:Shared}{σ:St}{H:Hp}{R:V->V->Hp->Prop}(I:Inv X kb σ H s)
  (h:ta σ H fun x H1=>tb σ H1 fun y H2=>R x y H2) {Q:Value->Shared->Prop} {f:Value->Value->Sem Value}
  (hf:∀v u s2 x y H2,Inv X kb σ H2 s2->RelV x v->RelV y u->R x y H2->wpAny (model X.prog X.w) X.A (f v u) Q X.xe s2):
  wpAny (model X.prog X.w) X.A (eval a X.env) (fun v s₁=>wpAny (model X.prog X.w) X.A (eval b X.env) (fun u s₂=>wpAny (model X.prog X.w) X.A (f v u) Q X.xe s₂) X.xe s₁) X.xe s:=by
 refine cz (ha kb s σ H _ I h) fun v s1 ⟨x,H1,I1,r1,q1⟩=>?_;refine cz (hb kb s1 σ H1 _ I1 q1) fun u s2 ⟨y,H2,I2,r2,q2⟩=>?_;exact hf v u s2 x y H2 I2 r1 r2 q2
theorem aS{op:Operator}{r:R2}(ho:jG X (binaryOp op) r)(ha:PE X a ta)(hb:PE X b tb):PE X (.BinOp a op b pos) (Oe r ta tb):=by intro kb s σ H Q I h;exact wpAny_BinOp (JL ha hb I h fun v u s2 x y H2 I2 rx ry q=>ho kb s2 σ H2 x y v u Q I2 rx ry q)
theorem iV{op:UnaryOp}{r:V->Hp->VK->Prop}(ho:TX X (unaryOp op) r)(ha:PE X a ta):PE X (.UnaryOp op a pos) (tUn r ta):=by intro kb s σ H Q I h;exact UnaryOp_ (cz (ha kb s σ H _ I h) fun v s1 ⟨x,H1,I1,r1,q1⟩=>ho kb s1 σ H1 x v Q I1 r1 q1)
theorem RZ{f:Value->Value->Sem Value}{C:Int->Int->Prop}{g:Int->Int->Int}
  (rule:∀(i j:Int) (t u:Tok) (s:Shared) (Q:Value->Shared->Prop) (E:Value->Shared->Prop),C i j->Q (.int (g i j) s.toks) {s with toks:=s.toks+1}->wpAny (model X.prog X.w) X.A (f (.int i t) (.int j u)) Q E s):
  jG X f (rI C fun i j=>.int (g i j)):=by
 intro kb s σ H x y v u Q I rx ry h;obtain⟨i,j,rfl,rfl,hc,q⟩:=h;obtain⟨t,rfl⟩:=rx;obtain⟨t',rfl⟩:=ry;exact rule i j t t' s _ _ hc ⟨.int (g i j),H,I.tok _,⟨_,rfl⟩,q⟩
theorem Og{f:Value->Value->Sem Value}{g:Int->Int->Int}
  (rule:∀(i j:Int) (t u:Tok) (s:Shared) (Q:Value->Shared->Prop) (E:Value->Shared->Prop),Q (.int (g i j) s.toks) {s with toks:=s.toks+1}->wpAny (model X.prog X.w) X.A (f (.int i t) (.int j u)) Q E s):
  jG X f (Io fun i j=>.int (g i j)):=by
 intro kb s σ H x y v u Q I rx ry h;obtain⟨i,j,rfl,rfl,q⟩:=h;obtain⟨t,rfl⟩:=rx;obtain⟨t',rfl⟩:=ry;exact rule i j t t' s _ _ ⟨.int (g i j),H,I.tok _,⟨_,rfl⟩,q⟩
theorem FJ{f:Value->Value->Sem Value}{g:Int->Int->Bool}
  (rule:∀(i j:Int) (t u:Tok) (s:Shared) (Q:Value->Shared->Prop) (E:Value->Shared->Prop),Q (.bool (g i j)) s->wpAny (model X.prog X.w) X.A (f (.int i t) (.int j u)) Q E s):
  jG X f (Io fun i j=>.bl (g i j)):=by
 intro kb s σ H x y v u Q I rx ry h;obtain⟨i,j,rfl,rfl,q⟩:=h;obtain⟨t,rfl⟩:=rx;obtain⟨t',rfl⟩:=ry;exact rule i j t t' s _ _ ⟨.bl (g i j),H,I,rfl,q⟩
def TY(i j:Int):Prop:=0<=j/\j<=1000000/\i.natAbs<2^64
def JM(i j:Int):Prop:=(-(2^64)<i/\i<2^64)\/(-(2^64)<j/\j<2^64)
theorem JM.ok{i j:Int}(h:JM i j):IntMulOk i j:=by
 rcases h with ⟨h1,h2⟩ | ⟨h1,h2⟩
 ·exact .of_left (intBits_le_64 h1 h2)
 ·exact .of_right (intBits_le_64 h1 h2)
theorem cL:jG X (binaryOp .Add) (Io fun i j=>.int (i+j)):=Og fun _ _ _ _ _ _ _ q=>add_int q
theorem dO:jG X (binaryOp .Sub) (Io fun i j=>.int (i-j)):=Og fun _ _ _ _ _ _ _ q=>sub_int q
theorem oR:jG X (binaryOp .Mult) (rI JM fun i j=>.int (i*j)):=RZ fun _ _ _ _ _ _ _ hc q=>mul_int q hc.ok
theorem fc:jG X (binaryOp .Mod) (rI (fun _ j=>0<j) fun i j=>.int (i % j)):=RZ fun i j _ _ _ _ _ hc q=>by have h1:(0:Int)<j:=hc;exact mod_int' (by omega) (by rw[Int.fmod_eq_emod_of_nonneg i (by omega)];exact q)
theorem Cz:jG X (binaryOp .Pow) (rI TY fun i j=>.int (i^j.toNat)):=RZ fun _ _ _ _ _ _ _ hc q=>pow_int_small hc.1 hc.2.1 hc.2.2 q
theorem unI{f:Value->Sem Value}{g:Int->Int}
  (rule:∀(i:Int) (t:Tok) (s:Shared) (Q:Value->Shared->Prop) (E:Value->Shared->Prop),Q (.int (g i) s.toks) {s with toks:=s.toks+1}->wpAny (model X.prog X.w) X.A (f (.int i t)) Q E s):
  TX X f (rU fun i=>.int (g i)):=by
 intro kb s σ H x v Q I rx h;obtain⟨i,rfl,q⟩:=h;obtain⟨t,rfl⟩:=rx;exact rule i t s _ _ ⟨.int (g i),H,I.tok _,⟨_,rfl⟩,q⟩
theorem fh:TX X (unaryOp .USub) (rU fun i=>.int (-i)):=unI fun _ _ _ _ _ q=>neg_int q
end
def JN:V->V->Bool
 | .non,.non=>true | .non,.int _=>true | .int _,.non=>true | .non,.bl _=>true | .bl _,.non=>true | .non,.str _=>true | .str _,.non=>true
 | .int _,.int _=>true | .bl _,.bl _=>true | .str _,.str _=>true | .B2 _,.B2 _=>true
 | .int _,.str _=>true | .str _,.int _=>true | .bl _,.str _=>true | .str _,.bl _=>true
 | _,_=>false
def rEq:R2:=fun x y H Q=>JN x y=true/\Q (.bl (decide (x=y))) H
def rNe:R2:=fun x y H Q=>JN x y=true/\Q (.bl (!decide (x=y))) H
theorem sD{i j:Int}:decide (V.int i=V.int j)=(i==j):=by rw[Bool.eq_iff_iff];simp
theorem CA{i j:Bool}:decide (V.bl i=V.bl j)=(i==j):=by rw[Bool.eq_iff_iff];simp
theorem sE{i j:Str}:decide (V.str i=V.str j)=(i==j):=by rw[Bool.eq_iff_iff];simp
theorem yP{i j:Array UInt8}:decide (V.B2 i=V.B2 j)=(i.toList==j.toList):=by rw[Bool.eq_iff_iff];cases i;cases j;simp
section
variable {X:Cx}{a b c:Expr}{ta tb tc:TE}{pos:Pos}
theorem bw{kb:List (Addr×Obj)}{σ:St}{H:Hp}{s:Shared}{Q:VK}{k k':Bool}(I:Inv X kb σ H s)(q:Q (.bl k) H)(e:k=k'):EP X kb σ Q (.bool k') s:=by subst e;exact⟨.bl k,H,I,rfl,q⟩
theorem dJ:jG X (compareOp .Eq) rEq:=by
 intro kb s σ H x y v u Q I rx ry h;obtain⟨hs,q⟩:=h;cases x with
 | non=>
  cases rx;cases y with
  | non=>cases ry;exact PySem.EqNone.eq_none_none (bw I q (by simp))
  | bl j=>cases ry;exact PySem.EqNone.eq_none_bool (bw I q (by simp))
  | int j=>obtain⟨t',rfl⟩:=ry;exact PySem.EqNone.eq_none_int (bw I q (by simp))
  | str j=>obtain⟨t',rfl⟩:=ry;exact PySem.EqNone.eq_none_str (bw I q (by simp))
  | _=>exact absurd (show false=true from hs) lm
 | bl i=>
  cases rx;cases y with
  | non=>cases ry;exact PySem.EqNone.eq_bool_none (bw I q (by simp))
  | bl j=>cases ry;exact eq_bool (bw I q CA)
  | str j=>obtain⟨t',rfl⟩:=ry;exact PySem.EqMixed.eq_bool_str (bw I q (by simp))
  | _=>exact absurd (show false=true from hs) lm
 | int i=>
  obtain⟨t,rfl⟩:=rx;cases y with
  | non=>cases ry;exact PySem.EqNone.eq_int_none (bw I q (by simp))
  | int j=>obtain⟨t',rfl⟩:=ry;exact eq_int (bw I q sD)
  | str j=>obtain⟨t',rfl⟩:=ry;exact PySem.EqMixed.eq_int_str (bw I q (by simp))
  | _=>exact absurd (show false=true from hs) lm
 | str i=>
  obtain⟨t,rfl⟩:=rx;cases y with
  | non=>cases ry;exact PySem.EqNone.eq_str_none (bw I q (by simp))
  | bl j=>cases ry;exact PySem.EqMixed.eq_str_bool (bw I q (by simp))
  | int j=>obtain⟨t',rfl⟩:=ry;exact PySem.EqMixed.eq_str_int (bw I q (by simp))
  | str j=>obtain⟨t',rfl⟩:=ry;exact eq_str (bw I q sE)
  | _=>exact absurd (show false=true from hs) lm
 | B2 i=>
  obtain⟨t,rfl⟩:=rx;cases y with
  | B2 j=>obtain⟨t',rfl⟩:=ry;exact PySem.W.eq_bytes (bw I q yP)
  | _=>exact absurd (show false=true from hs) lm
 | _=>cases y<;>exact absurd (show false=true from hs) lm
theorem rN:jG X (compareOp .NotEq) rNe:=by
 intro kb s σ H x y v u Q I rx ry h;obtain⟨hs,q⟩:=h;cases x with
 | non=>
  cases rx;cases y with
  | non=>cases ry;exact PySem.EqNone.ne_none_none (bw I q (by simp))
  | bl j=>cases ry;exact PySem.EqNone.ne_none_bool (bw I q (by simp))
  | int j=>obtain⟨t',rfl⟩:=ry;exact PySem.EqNone.ne_none_int (bw I q (by simp))
  | str j=>obtain⟨t',rfl⟩:=ry;exact PySem.EqNone.ne_none_str (bw I q (by simp))
  | _=>exact absurd (show false=true from hs) lm
 | bl i=>
  cases rx;cases y with
  | non=>cases ry;exact PySem.EqNone.ne_bool_none (bw I q (by simp))
  | bl j=>cases ry;exact ne_bool (bw I q (congrArg not CA))
  | str j=>obtain⟨t',rfl⟩:=ry;exact PySem.EqMixed.ne_bool_str (bw I q (by simp))
  | _=>exact absurd (show false=true from hs) lm
 | int i=>
  obtain⟨t,rfl⟩:=rx;cases y with
  | non=>cases ry;exact PySem.EqNone.ne_int_none (bw I q (by simp))
  | int j=>obtain⟨t',rfl⟩:=ry;exact ne_int (bw I q (congrArg not sD))
  | str j=>obtain⟨t',rfl⟩:=ry;exact PySem.EqMixed.ne_int_str (bw I q (by simp))
  | _=>exact absurd (show false=true from hs) lm
 | str i=>
  obtain⟨t,rfl⟩:=rx;cases y with
  | non=>cases ry;exact PySem.EqNone.ne_str_none (bw I q (by simp))
  | bl j=>cases ry;exact PySem.EqMixed.ne_str_bool (bw I q (by simp))
  | int j=>obtain⟨t',rfl⟩:=ry;exact PySem.EqMixed.ne_str_int (bw I q (by simp))
  | str j=>obtain⟨t',rfl⟩:=ry;exact ne_str (bw I q (congrArg not sE))
  | _=>exact absurd (show false=true from hs) lm
 | B2 i=>
  obtain⟨t,rfl⟩:=rx;cases y with
  | B2 j=>obtain⟨t',rfl⟩:=ry;exact PySem.W.ne_bytes (bw I q (congrArg not yP))
  | _=>exact absurd (show false=true from hs) lm
 | _=>cases y<;>exact absurd (show false=true from hs) lm
theorem jz:jG X (compareOp .Lt) (Io fun i j=>.bl (decide (i<j))):=FJ fun _ _ _ _ _ _ _ q=>lt_int q
theorem Ip:jG X (compareOp .LtE) (Io fun i j=>.bl (decide (i<=j))):=FJ fun _ _ _ _ _ _ _ q=>le_int q
theorem rO:jG X (compareOp .Gt) (Io fun i j=>.bl (decide (j<i))):=FJ fun _ _ _ _ _ _ _ q=>gt_int q
theorem Oh:jG X (compareOp .GtE) (Io fun i j=>.bl (decide (j<=i))):=FJ fun _ _ _ _ _ _ _ q=>ge_int q
theorem sF:jG X (compareOp .Is) (fun x y H Q=>y=.non/\Q (.bl (decide (x=.non))) H):=by
 intro kb s σ H x y v u Q I rx ry h;obtain⟨rfl,q⟩:=h;cases ry;refine is_none_gen (bw I q ?_);cases x<;>first
  | (cases rx;rfl)
  | (obtain⟨t,rfl⟩:=rx;rfl)
theorem ik:jG X (compareOp .IsNot) (fun x y H Q=>y=.non/\Q (.bl (!decide (x=.non))) H):=by
 intro kb s σ H x y v u Q I rx ry h;obtain⟨rfl,q⟩:=h;cases ry;refine isnot_none_gen (bw I q ?_);cases x<;>first
  | (cases rx;rfl)
  | (obtain⟨t,rfl⟩:=rx;rfl)
theorem aP(b:Expr){op:CmpOp}(h:op≠.In:=by decide)(h2:op≠.NotIn:=by decide):behindInMarks op b=false:=by
 have e1:(op==CmpOp.In)=false:=by cases op<;>first | rfl | exact absurd rfl h
 have e2:(op==CmpOp.NotIn)=false:=by cases op<;>first | rfl | exact absurd rfl h2
 cases b<;>simp[behindInMarks,e1,e2]
theorem cT{op:CmpOp}{r:R2}(ho:jG X (compareOp op) r)(ha:PE X a ta)(hb:PE X b tb)(hm:behindInMarks op b=false):PE X (.Compare a [op] [b] pos) (Oe r ta tb):=by intro kb s σ H Q I h;exact wpAny_Compare1 (JL ha hb I h fun v u s2 x y H2 I2 rx ry q=>ho kb s2 σ H2 x y v u Q I2 rx ry q) hm
inductive Oi(Q:Bool->Hp->Prop)(x:V)(H:Hp):Prop
 | mk (k) (_:x=.bl k) (_:Q k H)
def Oj(t:TE):TT:=fun σ H Q=>t σ H (Oi Q)
theorem aE{op:CmpOp}{r:R2}(ho:jG X (compareOp op) r)(ha:PE X a ta)(hb:PE X b tb)(hm:behindInMarks op b=false):PT X (.Compare a [op] [b] pos) (Oj (Oe r ta tb)):=by
 intro kb s σ H Q I h
 refine wpAny_isTrue_Compare1 (cz (ha kb s σ H _ I h) fun v s1 ⟨x,H1,I1,r1,q1⟩=>cz (hb kb s1 σ H1 _ I1 q1) fun u s2 ⟨y,H2,I2,r2,q2⟩=>
  cz (ho kb s2 σ H2 x y v u _ I2 r1 r2 q2) fun c s3 ⟨z,H3,I3,r3,k,e,q3⟩=>?_) hm
 subst e;cases r3;exact wpAny_truthy_bool ⟨H3,I3,q3⟩
def JO(r r':R2)(ta tb tc:TE):TE:=fun σ H Q=>ta σ H fun x H1=>tb σ H1 fun y H2=>r x y H2 fun z H3=>∃k,z=.bl k/\
 (if k=true then tc σ H3 fun w' H4=>r' y w' H4 Q else Q (.bl false) H3)
theorem CB{op op':CmpOp}{r r':R2}(ho:jG X (compareOp op) r)(ho':jG X (compareOp op') r')(ha:PE X a ta)(hb:PE X b tb)(hc:PE X c tc)
  (hm:lastMarks [op,op'] [b,c]=false:=by with_unfolding_all rfl):PE X (.Compare a [op,op'] [b,c] pos) (JO r r' ta tb tc):=by
 intro kb s σ H Q I h
 refine Compare_chain (cz (ha kb s σ H _ I h) fun v s1 ⟨x,H1,I1,r1,q1⟩=>chain_link (cz (hb kb s1 σ H1 _ I1 q1) fun u s2 ⟨y,H2,I2,r2,q2⟩=>
  cz (ho kb s2 σ H2 x y v u _ I2 r1 r2 q2) fun d s3 ⟨z,H3,I3,r3,k,e,q3⟩=>?_)) hm
 subst e;cases r3;refine wpAny_truthy_bool ?_;cases k with
 | false=>exact ite_ff ⟨.bl false,H3,I3,rfl,q3⟩
 | true=>exact ite_tt (chain_last (cz (hc kb s3 σ H3 _ I3 q3) fun w' s4 ⟨z',H4,I4,r4,q4⟩=>ho' kb s4 σ H4 y z' u w' Q I4 r2 r4 q4))
theorem sG:(em:Nat)<2^63:=by rw[sizeLine_eq];decide
theorem vals1{x:V}{us:List Value}(r:Vals [x] us):∃u,us=[u]/\RelV x u:=by
 cases r with
 | cons r1 r2=>cases r2;exact⟨_,rfl,r1⟩
theorem vals2{x y:V}{us:List Value}(r:Vals [x,y] us):∃u w',us=[u,w']/\RelV x u/\RelV y w':=by
 cases r with
 | cons r1 r2=>
  cases r2 with
  | cons r3 r4=>cases r4;exact⟨_,_,rfl,r1,r3⟩
inductive uU(xs:List V)(H:Hp)(Q:VK):Prop
 | mk (i j) (_:xs=[.int i,.int j]) (_:Q (.int (if j>i then j else i)) H)
theorem rP(hc:X.calm=true):eL X (.builtin "max") uU:=by
 intro kb s σ H xs us Q I r h;obtain⟨i,j,rfl,q⟩:=h;obtain⟨u,w',rfl,⟨t,rfl⟩,⟨t',rfl⟩⟩:=vals2 r;refine max_two_ints (I.ok.hd hc) fun h' tk k=>⟨_,H,I.kept k,?_,q⟩;by_cases hj:j>i
 ·rw[if_pos hj,if_pos hj];exact⟨_,rfl⟩
 ·rw[if_neg hj,if_neg hj];exact⟨_,rfl⟩
theorem rQ:eL X (.type "int") (fun xs H Q=>(∃i,xs=[.int i]/\Q (.int i) H)\/∃k,xs=[.bl k]/\Q (.int (if k then 1 else 0)) H):=by
 intro kb s σ H xs us Q I r h;rcases h with ⟨i,rfl,q⟩ | ⟨k,rfl,q⟩
 ·obtain⟨u,rfl,t,rfl⟩:=vals1 r;exact call_int_int ⟨.int i,H,I,⟨_,rfl⟩,q⟩
 ·obtain⟨u,rfl,r1⟩:=vals1 r;cases r1;exact call_int_bool ⟨.int (if k then 1 else 0),H,I.tok _,⟨_,rfl⟩,q⟩
end
structure wG(h:Heap)(x dx C:Addr)(mA:Str->Option Value):Prop where
 obj:h.get? x=some (PySem.W.instObj C dx)
 ns:h.Ns1 dx mA
 ne:dx≠x
theorem Av{h:Heap}{dx:Addr}{mA:Str->Option Value}(n:h.Ns1 dx mA):∃od,h.get? dx=some od/\∀name,PySem.W.lookIn name od=some (mA name):=by
 obtain⟨o,es,ep,ho,hd,hk,_,hm⟩:=n;refine⟨o,ho,fun name=>?_⟩;have e:=hm name;unfold nsFind findBy at e;rw[<-Array.find?_toList]at e;unfold PySem.W.lookIn;rw[hd];dsimp only;split
 ·rename_i y q;rw[q]at e;exact congrArg some e
 ·rename_i q;rw[q]at e;have a:es.toList.any (·.refKey)=false:=by rw[List.any_eq_false];intro y hy;obtain⟨z,t,hkey⟩:=hk y (Array.mem_toList_iff.mp hy);simp[DictEntry.refKey,hkey]
  have a':¬es.toList.any (·.refKey)=true:=by rw[a];exact lm
  rw[if_neg a'];exact congrArg some e
theorem wG.look{h:Heap}{x dx C:Addr}{mA:Str->Option Value}(I:wG h x dx C mA):∃od,PySem.W.InstAt h x (PySem.W.instObj C dx) C (some od)/\∀name,PySem.W.lookIn name od=some (mA name):=
 let ⟨od,ho,hl⟩:=Av I.ns
 ⟨od,⟨I.obj,rfl,rfl,ho⟩,hl⟩
section
variable {prog:Program}{w:World}{A:Around}{E:Value->Shared->Prop}{s:Shared}{K:gt}{x dx C f:Addr}{mA:Str->Option Value}{name:Str}{v:Value}
theorem get_map{expr:Bool}{Q:Value->Shared->Prop}(X:K.In s.heap)(I:wG s.heap x dx C mA)(hg:PySem.W.plainGet K C name=true)(hh:PySem.W.hasDictIn K C=true)
  (ha:jp K (.ref C) name=some none) (hv:mA name=some v) (hv':PySem.W.handedIn v=true) (h:Q v {s with toks:=s.toks+1}):
  wpAny (model prog w) A (getAttr (.ref x) name expr) Q E s:=by
 obtain⟨od,J,hl⟩:=I.look;exact PySem.W.get_value X J (PySem.W.plainGet_of hg).1 (PySem.W.findObj_own hh ha rfl (by rw[hl,hv])) hv' h
theorem CC{pl:Sem Bool}{Q:Value×List Value->Shared->Prop}(X:K.In s.heap)(I:wG s.heap x dx C mA)(hg:PySem.W.plainGet K C name=true)
  (hf:jp K (.ref C) name=some (some (.ref f))) (ht:PySem.W.isFn K (.ref f)=true) (hv:mA name=none) (h:Q (.ref f,[.ref x]) s):
  wpAny (model prog w) A (getMethod (.ref x) name pl) Q E s:=by
 obtain⟨od,J,hl⟩:=I.look;exact PySem.W.method_fn X J (PySem.W.plainGet_of hg).1 (PySem.W.plainGet_of hg).2 hf (beq_iff_eq.mp ht) (by show(PySem.W.lookIn name od).map (·.isSome)=some false;rw[hl,hv];rfl) h
theorem FL{ns:List Str}{Q:Unit->Shared->Prop}(X:K.In s.heap)(I:wG s.heap x dx C mA)
  (hs:jp K (.ref C) "__setattr__"=some (some (.builtin "object.__setattr__"))) (hp:PySem.W.plainOver K C=true) (ht:PySem.W.takerIn K C name=some none) (hh:PySem.W.hasDictIn K C=true)
  (hw:PySem.Within mA ns) (hsz:ns.length<=em)
  (h:∀h',wG h' x dx C (fun y=>if y=name then some v else mA y)->Heap.SameBut dx s.heap h'->Q () {s with heap:=h',toks:=s.toks+2}):
  wpAny (model prog w) A (setAttr (.ref x) name v) Q E s:=by
 obtain⟨od,J,hl⟩:=I.look;refine PySem.W.set_plain X J hs (PySem.W.osa_open (s:={s with toks:=s.toks+1}) (r:=none) X J hp ht fun b=>?_);obtain⟨cd,hc,hd'⟩:=PySem.W.any_some hh;have hx:s.heap.get? x=some ⟨.ref C,some dx,.plain,#[]⟩:=I.obj;refine de (dL (de (de (wpAny_loadPart hx (de (PySem.W.Looks.here (s:={s with toks:=s.toks+1}) (PySem.W.looks_clsIn X hc) ?_))))));rw[hd'];refine dL (a:=some dx) (de (dL (de ?_)));refine wpAny_nsSet1 (s:={s with toks:=s.toks+1}) I.ns fun h' hn2 hs2=>?_;obtain⟨oD,esD,epD,hoD,hdD,hcD⟩:=hn2.count (PySem.Within.cons name v hw);refine de (wpAny_lookBehind hoD (by rw[hdD];exact pastItsLine_dict (li hcD (by rw[ci];omega))) ?_);exact dL (h _ ⟨(hs2.2 _ (Ne.symm I.ne)).trans I.obj,hn2,I.ne⟩ hs2)
theorem CD{R:Result->Shared->Prop}{vs:List Value}{kw:List (Str×Value)}(X:K.In s.heap)(hm:PySem.W.makesIn K C=true)
  (hi:jp K (.ref C) "__init__"=some (some (.ref f))) (hf:PySem.W.typeIn K (.ref f)=some (.type "function"))
  (h:codeAny (model prog w) (A.under (.builtin "type.__call__" ⟨.ref C::vs,kw⟩)) (.call (.ref f) ⟨.ref (s.heap.objs.size+1)::vs,kw⟩) (PySem.W.InitBack (s.heap.objs.size+1) R)
   {s with heap:=(s.heap.push PySem.W.emptyDict).push (PySem.W.instObj C s.heap.objs.size)}):
  codeAny (model prog w) A (.call (.ref C) ⟨vs,kw⟩) R s:=by
 obtain⟨hh,g,d,t,os⟩:=s;exact PySem.W.make_core (PySem.W.makes_of X hm) (PySem.W.looks_findIn X hi) (fun self=>PySem.W.bind_fn X self hf) (.inl rfl) h
def gb(f:Str)(v:V):List (Str×V)->List (Str×V)
 | []=>[(f,v)]
 | (g,x)::r=>if g=f then (g,v)::r else (g,x)::gb f v r
theorem l6(f g:Str)(v:V):∀fs:List (Str×V),(gb f v fs).lookup g=if g=f then some v else fs.lookup g
 | []=>by
  show List.lookup g [(f,v)]=_;by_cases h:g=f
  ·have hb:(g==f)=true:=beq_iff_eq.mpr h;simp only[List.lookup,hb,if_pos h]
  ·have hb:(g==f)=false:=beq_eq_false_iff_ne.mpr h;simp only[List.lookup,hb,if_neg h]
 | (k,x)::r=>by
  have ih:=l6 f g v r;rw[show gb f v ((k,x)::r)=(if k=f then (k,v)::r else (k,x)::gb f v r)from rfl];by_cases hk:k=f
  ·rw[if_pos hk];by_cases h:g=k
   ·have hb:(g==k)=true:=beq_iff_eq.mpr h;simp only[List.lookup,hb,if_pos (h.trans hk)]
   ·have hb:(g==k)=false:=beq_eq_false_iff_ne.mpr h;simp only[List.lookup,hb,if_neg (fun e:g=f=>h (e.trans hk.symm))]
  ·rw[if_neg hk];by_cases h:g=k
   ·have hb:(g==k)=true:=beq_iff_eq.mpr h;simp only[List.lookup,hb,if_neg (fun e:g=f=>hk (h.symm.trans e))]
   ·have hb:(g==k)=false:=beq_eq_false_iff_ne.mpr h;simp only[List.lookup,hb];exact ih
theorem k9(f:Str)(v:V):∀fs:List (Str×V),f∈(gb f v fs).map (·.1)/\∀g,g∈fs.map (·.1)->g∈(gb f v fs).map (·.1)
 | []=>⟨by simp[gb],fun g h=>by simp at h⟩
 | (k,x)::r=>by
  obtain⟨i1,i2⟩:=k9 f v r;rw[show gb f v ((k,x)::r)=(if k=f then (k,v)::r else (k,x)::gb f v r)from rfl];by_cases hk:k=f
  ·rw[if_pos hk];subst hk;exact⟨by simp,fun g h=>by simpa using h⟩
  ·rw[if_neg hk];refine⟨?_,fun g h=>?_⟩
   ·rw[cp];exact List.mem_cons_of_mem _ i1
   ·rw[cp]at h ⊢;rcases List.mem_cons.mp h with e | e
    ·exact List.mem_cons.mpr (.inl e)
    ·exact List.mem_cons_of_mem _ (i2 g e)
theorem mh(f:Str)(v:V):∀fs:List (Str×V),(gb f v fs).length<=fs.length+1
 | []=>by simp[gb]
 | (k,x)::r=>by
  have ih:=mh f v r;rw[show gb f v ((k,x)::r)=(if k=f then (k,v)::r else (k,x)::gb f v r)from rfl];by_cases hk:k=f
  ·rw[if_pos hk,ci,ci];omega
  ·rw[if_neg hk,ci,ci];omega
theorem gH.some_of{v:V}{o:Option Value}(r:gH (some v) o):∃u,o=some u/\RelV v u:=by
 cases o with
 | none=>exact(show False from r).elim
 | some u=>exact⟨u,rfl,r⟩
theorem gH.none_of{o:Option Value}(r:gH none o):o=none:=by
 cases o with
 | none=>rfl
 | some u=>exact(show False from r).elim
theorem Aw{v:V}{u:Value}(r:RelV v u):PySem.W.handedIn u=true:=by
 cases v with
 | non=>cases (show u=Value.none from r);rfl
 | bl b=>cases (show u=Value.bool b from r);rfl
 | int i=>obtain⟨t,e⟩:=(show ∃t,u=Value.int i t from r);cases e;rfl
 | str x=>obtain⟨t,e⟩:=(show ∃t,u=Value.str x t from r);cases e;rfl
 | B2 b=>obtain⟨t,e⟩:=(show ∃t,u=Value.bytes b t from r);cases e;rfl
 | flt b=>obtain⟨t,e⟩:=(show ∃t,u=Value.float b t from r);cases e;rfl
 | ref a=>cases (show u=Value.ref a from r);rfl
 | ty n=>cases (show u=Value.type n from r);rfl
variable {P:Program}{H H':Hp}{h h':Heap}{a:Addr}{fs fs':List (Str×V)}
theorem oz(hok:ji P w H h)(e:H a=some (.ins C dx fs)):∃mA,wG h a dx C mA/\(∀f,gH (fs.lookup f) (mA f))/\PySem.Within mA (fs.map (·.1))/\fs.length<=1000/\H dx=some (.own a):=by obtain⟨d,z,ne,ob,mA,n,r,q⟩:=(show bJ P w H h a (.ins C dx fs)from hok a _ e);exact⟨mA,⟨ob,n,ne⟩,r,q,z,d⟩
end
structure Cls(K:gt)(C:Addr):Prop where
 pg:PySem.W.plainGet K C Str.empty=true
 hd:PySem.W.hasDictIn K C=true
 po:PySem.W.plainOver K C=true
 sa:jp K (.ref C) "__setattr__"=some (some (.builtin "object.__setattr__"))
theorem Cls.get{K:gt}{C:Addr}(c:Cls K C)(f:Str):PySem.W.plainGet K C f=true:=c.pg
def er(K:gt)(C:Addr)(f:Str):Prop:=jp K (.ref C) f=some none
theorem er.taker{K:gt}{C:Addr}{f:Str}(n:er K C f):PySem.W.takerIn K C f=some none:=by unfold PySem.W.takerIn;rw[show jp K (.ref C) f=some none from n];rfl
structure Meth(K:gt)(C:Addr)(m:Str)(f:Addr):Prop where
 at_:jp K (.ref C) m=some (some (.ref f))
 fn:PySem.W.isFn K (.ref f)=true
 kp:PySem.W.keepIn K (.ref f)=true
section
variable {X:Cx}{kb:List (Addr×Obj)}{σ:St}{H:Hp}{s:Shared}{a C dx:Addr}{fs:List (Str×V)}{f:Str}{v:V}{A:Around}{E:Value->Shared->Prop}
theorem wH{b:Bool}{Q:Value->Shared->Prop}(I:Inv X kb σ H s)(e:H a=some (.ins C dx fs))(c:Cls X.K C)(n:er X.K C f)(l:fs.lookup f=some v)
  (h:∀u s',Inv X kb σ H s'->RelV v u->Q u s'):wpAny (model X.prog X.w) A (getAttr (.ref a) f b) Q E s:=by
 obtain⟨mA,O,r,_,_,_⟩:=oz I.hok e;obtain⟨u,hu,ru⟩:=gH.some_of (v:=v) (o:=mA f) (by rw[<-l];exact r f);exact get_map I.jX O (c.get f) c.hd n hu (Aw ru) (h u _ (I.tok _) ru)
theorem oS{m:Str}{g:Addr}{pl:Sem Bool}{Q:Value×List Value->Shared->Prop}(I:Inv X kb σ H s)(e:H a=some (.ins C dx fs))(c:Cls X.K C)(k:Meth X.K C m g)(l:fs.lookup m=none)
  (h:Q (.ref g,[.ref a]) s):wpAny (model X.prog X.w) A (getMethod (.ref a) m pl) Q E s:=by
 obtain⟨mA,O,r,_,_,_⟩:=oz I.hok e;have hn:mA m=none:=gH.none_of (by rw[<-l];exact r m);exact CC I.jX O (c.get m) k.at_ k.fn hn h
theorem wI{y:V}{u:Value}{Q:Unit->Shared->Prop}(I:Inv X kb σ H s)(e:H a=some (.ins C dx fs))(c:Cls X.K C)(n:er X.K C f)(hl:fs.length<1000)(ry:RelV y u)
  (h:∀s',Inv X kb σ (upd H a (.ins C dx (gb f y fs))) s'->Q () s'):wpAny (model X.prog X.w) A (setAttr (.ref a) f u) Q E s:=by
 obtain⟨mA,O,r,wi,_,ho⟩:=oz I.hok e;have hz:(fs.map (·.1)).length<=em:=by rw[List.length_map,sizeLine_eq];omega
 refine FL I.jX O c.sa c.po n.taker c.hd wi hz fun h' O' sb=>h _ ?_;have hd:∃o,h'.get? dx=some o:=let ⟨o,_,_,e',_⟩:=O'.ns;⟨o,e'⟩;refine I.write (x:=a) (e:=dx) (by rw[e];exact True.intro) (.inr ho) (fun b q hb z=>(sb.2 b hb).trans z) hd ?_;refine⟨by rw[az O.ne];exact ho,?_,O.ne,O'.obj,_,O'.ns,fun g=>?_,fun g hg=>?_⟩
 ·have:=mh f y fs;omega
 ·show gH ((gb f y fs).lookup g) (if g=f then some u else mA g);rw[l6];by_cases q:g=f
  ·rw[if_pos q,if_pos q];exact ry
  ·rw[if_neg q,if_neg q];exact r g
 ·by_cases q:g=f
  ·rw[q];exact(k9 f y fs).1
  ·refine(k9 f y fs).2 g (wi g fun z=>hg ?_);show(if g=f then some u else mA g)=none;rw[if_neg q];exact z
theorem Inv.made(I:Inv X kb σ H s):Inv X kb σ (upd (upd H s.heap.objs.size (.own (s.heap.objs.size+1))) (s.heap.objs.size+1) (.ins C s.heap.objs.size []))
  {s with heap:=(s.heap.push PySem.W.emptyDict).push (PySem.W.instObj C s.heap.objs.size)}:=by
 have e1:(s.heap.push PySem.W.emptyDict).get? s.heap.objs.size=some PySem.W.emptyDict:=fm s.heap rfl;have e2:((s.heap.push PySem.W.emptyDict).push (PySem.W.instObj C s.heap.objs.size)).get? (s.heap.objs.size+1)=some (PySem.W.instObj C s.heap.objs.size):=by
  have:=fm (s.heap.push PySem.W.emptyDict) (o:=PySem.W.instObj C s.heap.objs.size) rfl
  rwa [Heap.size_push]at this
 have e3:(s.heap.push PySem.W.emptyDict).Ns s.heap.objs.size (fun _=>none):=⟨PySem.W.emptyDict,#[],_,e1,rfl,(fun e he=>absurd he (by simp)),fun _=>rfl⟩;have I1:=I.laid (a:=s.heap.objs.size) (o:=.own (s.heap.objs.size+1)) (h':=s.heap.push PySem.W.emptyDict) (t':=s.toks) (fun b u q=>fg _ q) (ki _) ⟨_,e1⟩;refine I1.laid (a:=s.heap.objs.size+1) (o:=.ins C s.heap.objs.size []) (t':=s.toks) (fun b u q=>fg _ q) (Nat.le_of_eq (Heap.size_push _ _)) ?_;have ne:s.heap.objs.size≠s.heap.objs.size+1:=kt (Nat.lt_succ_self _);refine⟨by rw[az ne,ai],Nat.zero_le _,ne,e2,fun _=>none,(Heap.Ns1.of_empty e3).at fun o q=>fg _ q,fun _=>True.intro,fun y hy=>absurd rfl hy⟩
theorem FN{prog:Program}{w:World}{env:Env}{e:Expr}{f:Str}{pos:Pos}{s:Shared}{Q:Value->Shared->Prop}(hb:attributeBase e f env (eval e env)=eval e env)
  (h:wpAny (model prog w) A (eval e env) (fun o s₁=>wpAny (model prog w) A (getAttr o f true) Q E s₁) E s):wpAny (model prog w) A (eval (.Attribute e f pos) env) Q E s :=
 Attribute_any_ h (by rw[arm_eval_Attribute,hb])
end
inductive T2(K:gt)(f:Str)(Q:VK)(x:V)(H:Hp):Prop
 | mk (a C dx fs v) (_:x=.ref a) (_:H a=some (.ins C dx fs)) (_:Cls K C) (_:er K C f) (_:fs.lookup f=some v) (_:Q v H)
def T3(K:gt)(ta:TE)(f:Str):TE:=fun σ H Q=>ta σ H (T2 K f Q)
def T4(K:gt)(ta tv:TE)(f:Str):TS:=fun D σ H=>tv σ H fun y H1=>ta σ H1 fun x H2=>∃a C dx fs,x=.ref a/\H2 a=some (.ins C dx fs)/\Cls K C/\er K C f/\fs.length<1000/\
 D.nx σ (upd H2 a (.ins C dx (gb f y fs)))
section
variable {X:Cx}{o e value:Expr}{f:Str}{pos pos' tpos:Pos}{ta tv:TE}
theorem cB(he:PE X e ta)(hb:attributeBase e f X.env (eval e X.env)=eval e X.env):PE X (.Attribute e f pos) (T3 X.K ta f):=by intro kb s σ H Q I h;refine FN hb (cz (he kb s σ H _ I h) fun u s1 ⟨x,H1,I1,rx,a,C,dx,fs,v,ex,ea,c,n,l,q⟩=>?_);subst ex;obtain rfl:u=Value.ref a:=rx;exact wH I1 ea c n l fun u' s2 I2 ru=>⟨v,H1,I2,ru,q⟩
theorem gh(ha:PE X o ta)(hv:PE X value tv)(hs:swapsWith value (some (.Attribute o f pos')) pos.line X.env=pure false):PS X (.Assign [.Attribute o f pos'] value pos) (T4 X.K ta tv f):=by intro kb s σ H D I h;refine plainObj_wpAny_Assign_Attribute (cz (hv kb s σ H _ I h) fun u s1 ⟨y,H1,I1,ry,q⟩=>cz (ha kb s1 σ H1 _ I1 q) fun ov s2 ⟨x,H2,I2,rx,a,C,dx,fs,ex,ea,c,n,l,q2⟩=>?_) hs;subst ex;obtain rfl:ov=Value.ref a:=rx;exact wI I2 ea c n l ry fun s3 I3=>⟨σ,_,I3,q2⟩
variable {kb:List (Addr×Obj)}{σ:St}{H:Hp}{s:Shared}{A:Around}{E:Value->Shared->Prop}{Q:Value->Shared->Prop}{c:Value}{b:Bool}
inductive gM(K:gt)(H:Hp):V->Value->Prop where
 | non:gM K H .non (.type "NoneType")
 | bl (x:Bool):gM K H (.bl x) (.type "bool")
 | int (i:Int):gM K H (.int i) (.type "int")
 | str (x:Str):gM K H (.str x) (.type "str")
 | flt (x:UInt64):gM K H (.flt x) (.type "float")
 | lst {a:Addr} {xs:List V} (e:H a=some (.lst xs)):gM K H (.ref a) (.type "list")
 | jg {a:Addr} {o:Obj} {xs:List V} (e:H a=some (.jg o (.lst xs))):gM K H (.ref a) (.type "list")
 | tup {a:Addr} {xs:List V} (e:H a=some (.tup xs)):gM K H (.ref a) (.type "tuple")
 | dK {a:Addr} {kvs:List (Key×V)} (e:H a=some (.dK kvs)):gM K H (.ref a) (.type "dict")
 | dT {a:Addr} {kvs:List (List Key×V)} (e:H a=some (.dT kvs)):gM K H (.ref a) (.type "dict")
 | ins {a C dx:Addr} {fs:List (Str×V)} (e:H a=some (.ins C dx fs)) (cl:Cls K C) (ha:jp K (.ref C) "__class__"=some (some (.builtin "object.__class__")))
   (hn:PySem.W.specialIn K (.builtin "object.__class__") "__get__"=some (some (.builtin "getset_descriptor.__get__"))) (htk:PySem.W.takesIn K (.builtin "object.__class__")=some true)
   (hm:PySem.W.mroIn K C (.type "object")=some true):gM K H (.ref a) (.ref C)
theorem Ax{x:V}{u t:Value}(I:Inv X kb σ H s)(rx:RelV x u)(ty:gM X.K H x t)(e:PySem.W.kitOne X.K t c=some b)(h:∀tk,Q (.bool b) {s with toks:=tk}):
  wpAny (model X.prog X.w) A (call (.builtin "isinstance") [u,c]) Q E s:=by
 cases ty with
 | non=>cases (show u=Value.none from rx);exact PySem.W.kia_one PySem.W.kitx_none I.jX True.intro e (fun z=>nomatch z) h
 | bl y=>cases (show u=Value.bool y from rx);exact PySem.W.kia_one PySem.W.kitx_bool I.jX True.intro e (fun z=>nomatch z) h
 | int i=>obtain⟨t,q⟩:=(show ∃t,u=Value.int i t from rx);cases q;exact PySem.W.kia_one PySem.W.kitx_int I.jX True.intro e (fun z=>nomatch z) h
 | str y=>obtain⟨t,q⟩:=(show ∃t,u=Value.str y t from rx);cases q;exact PySem.W.kia_one PySem.W.kitx_str I.jX True.intro e (fun z=>nomatch z) h
 | flt y=>obtain⟨t,q⟩:=(show ∃t,u=Value.float y t from rx);cases q;exact PySem.W.kia_one PySem.W.kitx_float I.jX True.intro e (fun z=>nomatch z) h
 | @lst a xs ea=>
  cases (show u=Value.ref a from rx);obtain⟨_,_,n,_,h1⟩:=(show bJ X.prog X.w H s.heap a (.lst xs)from I.hok a _ ea);exact PySem.W.kia_one PySem.W.kitx_list I.jX ⟨_,h1,rfl⟩ e (fun z=>nomatch z) h
 | @jg a ob xs ea=>
  cases (show u=Value.ref a from rx);obtain⟨_,_,_,n,_,h1⟩:=(show bJ X.prog X.w H s.heap a (.jg ob (.lst xs))from I.hok a _ ea);exact PySem.W.kia_one PySem.W.kitx_list I.jX ⟨_,h1,rfl⟩ e (fun z=>nomatch z) h
 | @tup a xs ea=>
  cases (show u=Value.ref a from rx);obtain⟨_,_,_,p⟩:=(show bJ X.prog X.w H s.heap a (.tup xs)from I.hok a _ ea);obtain⟨o,h1,h2,_⟩:=p;exact PySem.W.kia_one PySem.W.kitx_tuple I.jX ⟨o,h1,h2⟩ e (fun z=>nomatch z) h
 | @dK a kvs ea=>
  cases (show u=Value.ref a from rx);obtain⟨_,_,vs,_,p⟩:=(show bJ X.prog X.w H s.heap a (.dK kvs)from I.hok a _ ea);obtain⟨o,es,ep,h1,h2,_⟩:=p;exact PySem.W.kia_one PySem.W.kitx_dict I.jX ⟨o,h1,h2.1⟩ e (fun z=>nomatch z) h
 | @dT a kvs ea=>
  cases (show u=Value.ref a from rx);obtain⟨_,_,xs,_,o,es,ep,h1,h2,_⟩:=(show bJ X.prog X.w H s.heap a (.dT kvs)from I.hok a _ ea);exact PySem.W.kia_one PySem.W.kitx_dict I.jX ⟨o,h1,h2.1⟩ e (fun z=>nomatch z) h
 | @ins a C dx fs ea cl ha hn htk hm=>
  cases (show u=Value.ref a from rx);obtain⟨mA,O,_⟩:=oz I.hok ea;obtain⟨od,J,_⟩:=O.look;exact PySem.W.kia_one (PySem.W.kitx_own (cl.get _) cl.hd ha hn htk hm) I.jX J e (fun z=>nomatch z) h
structure dU(k:Nat)(A:Around):Prop where
 hd:A.handled=none
 dp:A.depth+3*k+5<recursionLimit
 un:A.units+16*k+200<cLine
theorem dU.mono{j k:Nat}{A:Around}(r:dU k A)(h:j<=k):dU j A:=⟨r.hd,by have:=r.dp;omega,by have:=r.un;omega⟩
theorem dU.deeper{k:Nat}{A:Around}(r:dU (k+1) A)(env:Env):dU k (A.deeper env):=
 ⟨r.hd,by have:=r.dp;show A.depth+1+3*k+5<_;omega,by have:=r.un;show A.units+3+16*k+200<_;omega⟩
theorem wJ{A:Around}{C:Addr}{us:List Value}{kw:List (Str×Value)}:(A.under (.builtin "type.__call__" ⟨.ref C::us,kw⟩)).depth=A.depth+1:=by first | rfl | simp[Around.under,Code.weight,Code.isCreation,Code.isGuard,Code.isCaller,Code.frames,Code.isFrame,guardIds]
theorem wK{A:Around}{C:Addr}{us:List Value}{kw:List (Str×Value)}:(A.under (.builtin "type.__call__" ⟨.ref C::us,kw⟩)).units=A.units+1:=by first | rfl | simp[Around.under,Code.cUnits,Code.frames,Code.isFrame]
theorem dU.make{k:Nat}{A:Around}(r:dU (k+1) A)(C:Addr)(us:List Value)(kw:List (Str×Value)):dU k (A.under (.builtin "type.__call__" ⟨.ref C::us,kw⟩)):=
 ⟨r.hd,by have:=r.dp;rw[wJ];omega,by have:=r.un;rw[wK];omega⟩
theorem dU.depth{k:Nat}{A:Around}(r:dU k A):A.depth<recursionLimit:=by have:=r.dp;omega
theorem dU.units{k:Nat}{A:Around}(r:dU k A):A.units+64<cLine:=by have:=r.un;omega
theorem dU.oU{k:Nat}{A:Around}(r:dU k A):A.units<cLine:=by have:=r.un;omega
def wL:TA:=fun _ H Q=>Q [] H
def uV(ta:TE)(tr:TA):TA:=fun σ H Q=>ta σ H fun x H1=>tr σ H1 fun xs H2=>Q (x::xs) H2
variable {es:List Expr}{te:TE}{t:TA}
theorem ah:PA X [] wL:=fun _ _ _ _ H Q I h=>Calls.spliced_nil ⟨[],H,I,.nil,h⟩
theorem ae(ha:PE X e te)(hr:PA X es t)(hs:starEach (e::es) X.env=(false,eval e X.env)::starEach es X.env:=by rfl):PA X (e::es) (uV te t):=by intro pos kb s σ H Q I h;rw[hs];show wpAny _ _ (spliced ((false,eval e X.env)::backTo pos (starEach es X.env))) _ _ s;refine Calls.spliced_cons (cz (ha kb s σ H _ I h) fun u s1 ⟨x,H1,I1,r1,q1⟩=>?_);exact cz (hr pos kb s1 σ H1 _ I1 q1) fun us s2 ⟨xs,H2,I2,r2,q2⟩=>⟨x::xs,H2,I2,.cons r1 r2,q2⟩
def Ol(t:TA):TE:=fun σ H Q=>t σ H fun xs H1=>xs.length<=em/\∀p,H1 p=none->Q (.ref p) (upd H1 p (.tup xs))
def JP(t:TA):TE:=fun σ H Q=>t σ H fun xs H1=>xs.length<=em/\∀p,H1 p=none->Q (.ref p) (upd H1 p (.lst xs))
theorem aV{x1}(h:PA X es t):PE X (.Tuple es x1 pos) (Ol t):=by intro kb s σ H Q I hq;refine wpAny_Tuple_spliced (cz (h pos kb s σ H _ I hq) fun us s1 ⟨xs,H1,I1,r,z,q⟩=>⟨by rw[<-r.length];exact z,?_⟩);have hf:H1 s1.heap.objs.size=none:=I1.hok.fresh (ki _);refine⟨.ref s1.heap.objs.size,upd H1 s1.heap.objs.size (.tup xs),I1.laid (t':=s1.toks) (fun b u e=>fg _ e) (ki _) ?_,rfl,q _ hf⟩;exact⟨z,us,r,⟨_,fm _ rfl,rfl,_,rfl⟩⟩
theorem aY(h:PA X es t):PE X (.List es pos) (JP t):=by intro kb s σ H Q I hq;refine wpAny_List_spliced (cz (h pos kb s σ H _ I hq) fun us s1 ⟨xs,H1,I1,r,z,q⟩=>⟨by rw[<-r.length];exact z,?_⟩);have hf:H1 s1.heap.objs.size=none:=I1.hok.fresh (ki _);refine⟨.ref s1.heap.objs.size,upd H1 s1.heap.objs.size (.lst xs),I1.laid (t':=s1.toks) (fun b u e=>fg _ e) (ki _) ?_,rfl,q _ hf⟩;exact⟨z,us,0,r,fm _ rfl⟩
abbrev Sp:=List V->Hp->VK->XK->Prop
abbrev Ay:=List Env->Hp->Shared->XK->Value->Shared->Prop
structure wM(P:Program)(w:World)(K:gt)(mg:Str->Option Value)(base:Heap)(A:Around)(outer:List Env)(s:Shared)(H:Hp):Prop where
 frames:A.frames=some outer
 mod:Mod K mg base
 bs:∀b o,base.get? b=some o->s.heap.get? b=some o/\H b=none
 FH:base.objs.size<=s.heap.objs.size
 jW:s.heap.FunFrames base outer
 JG:∀b∈frs outer,H b=none
 hok:ji P w H s.heap
 bare:AllBare s.gens
def CE(outer:List Env)(P:Program)(w:World)(H:Hp)(s:Shared)(Q:VK)(u:Value)(s':Shared):Prop :=
 ∃v H',s'.os=s.os/\AllBare s'.gens/\Un (frs outer) [] H H' s.heap s'.heap/\ji P w H' s'.heap/\RelV v u/\Q v H'
def CR(CX:Ay)(outer:List Env)(P:Program)(w:World)(H:Hp)(s:Shared)(Q:VK)(E:XK)(r:Result)(s':Shared):Prop :=
 match r with
 | .ok (.ret u)=>CE outer P w H s Q u s'
 | .ok _=>False
 | .error e=>CX outer H s E e s'
structure aN(P:Program)(w:World)(K:gt)(mg:Str->Option Value)(base:Heap)(CX:Ay)(k:Nat)(f:Addr)(fd:el)(ps:List Str)(sp:Sp):Prop where
 len:∀vs H Q E,sp vs H Q E->vs.length=ps.length
 run:∀(A:Around) (outer:List Env) (s:Shared) (H:Hp) (args:Args) (us:List Value) (vs:List V) (Q:VK) (E:XK),dU k A->wM P w K mg base A outer s H->BindsTo s fd args (ps.zip us)->Vals vs us->sp vs H Q E->
  codeAny (model P w) A (.call (.ref f) args) (CR CX outer P w H s Q E) s
theorem wM.make{P:Program}{w:World}{K:gt}{mg:Str->Option Value}{base:Heap}{A:Around}{outer:List Env}{s:Shared}{H:Hp}(e:wM P w K mg base A outer s H)(C:Addr)(us:List Value)(kw:List (Str×Value)):
  wM P w K mg base (A.under (.builtin "type.__call__" ⟨.ref C::us,kw⟩)) outer s H:=⟨by first | exact e.frames | (simpa[Around.under,Code.envs,Code.isFrame,pushEnvs] using e.frames),e.mod,e.bs,e.FH,e.jW,e.JG,e.hok,e.bare⟩
variable {s':Shared}
theorem Inv.env0(I:Inv X kb σ H s):wM X.prog X.w X.K X.mg X.base X.A X.stack s H :=
 ⟨I.ok.frames,I.ok.mod,I.bs,li I.ok.FH I.sz,I.stack,I.sy,I.hok,I.bare⟩
theorem Inv.after{Q:VK}{u:Value}(I:Inv X kb σ H s)(h:CE X.stack X.prog X.w H s Q u s'):EP X kb σ Q u s':=by obtain⟨v,H',os,bare,un,hok,r,q⟩:=h;obtain⟨hh,g,d,t,os'⟩:=s';obtain rfl:os'=s.os:=os;exact⟨v,H',I.call (h':=hh) (g':=g) (d':=d) (t':=t) (ch:=[]) un hok bare (fun b z=>absurd z (by simp)),r,q⟩
end
def Om(sp:Sp)(mj:List V)(E:XK)(t:TA):TE:=fun σ H Q=>t σ H fun vs H1=>sp (vs++mj) H1 Q E
inductive Oo(C:Addr)(m:Str)(R:V->Hp->Prop)(x:V)(H:Hp):Prop
 | mk (a dx fs) (_:x=.ref a) (_:H a=some (.ins C dx fs)) (_:fs.lookup m=none) (_:R x H)
def Iq(C:Addr)(m:Str)(sp:Sp)(mj:List V)(E:XK)(ta:TE)(t:TA):TE:=fun σ H Q=>ta σ H (Oo C m fun x H1=>t σ H1 fun vs H2=>sp (x::(vs++mj)) H2 Q E)
def Ir(C:Addr)(sp:Sp)(mj:List V)(E:XK)(t:TA):TE:=fun σ H Q=>t σ H fun vs H1=>∀x dx,H1 x=none->H1 dx=none->dx≠x->
 sp (.ref x::(vs++mj)) (upd (upd H1 dx (.own x)) x (.ins C dx [])) (fun v H2=>v=.non/\Q (.ref x) H2) E
def Binds(K:gt)(fd:el)(ps:List Str)(ds:List Value):Prop :=
 ∀(s:Shared) (us:List Value),K.In s.heap->(us++ds).length=ps.length->BindsTo s fd ⟨us,[]⟩ (ps.zip (us++ds))
theorem Binds.all{K:gt}{fd:el}{ps:List Str}(h:∀us:List Value,us.length=ps.length->bindArgs fd ⟨us,[]⟩=pure (ps.zip us)):Binds K fd ps []:=fun s us _ hl=>by rw[List.append_nil]at hl ⊢;exact .of_eq (h us hl)
def Passes(CX:Ay)(X:Cx)(E:XK):Prop:=∀(kb:List (Addr×Obj)) (σ:St) (H:Hp) (s:Shared) (e:Value) (s':Shared),Inv X kb σ H s->CX X.stack H s E e s'->X.xe e s'
section
variable {X:Cx}{CX:Ay}{k:Nat}{f C:Addr}{fd:el}{ps:List Str}{sp:Sp}{mj:List V}{ds:List Value}{E:XK}{x m:Str}{p pos apos:Pos}{e o:Expr}{es:List Expr}{ta:TE}{t:TA}
theorem wN{kb:List (Addr×Obj)}{σ:St}{H:Hp}{s:Shared}{Q:VK}{us:List Value}{vs:List V}(F:aN X.prog X.w X.K X.mg X.base CX k f fd ps sp)(hr:dU k X.A)(hb:Binds X.K fd ps ds)(hd:Vals mj ds)(hx:Passes CX X E)
  (I:Inv X kb σ H s) (r:Vals vs us) (h:sp (vs++mj) H Q E):wpAny (model X.prog X.w) X.A (call (.ref f) us) (EP X kb σ Q) X.xe s:=by
 have r2:Vals (vs++mj) (us++ds):=r.append hd;have hl:(us++ds).length=ps.length:=by rw[<-r2.length];exact F.len _ _ _ _ h
 refine wpAny_call (codeAny_mono (F.run X.A X.stack s H ⟨us,[]⟩ (us++ds) (vs++mj) Q E hr I.env0 (hb s us I.jX hl) r2 h) fun r s' hq=>?_);cases r with
 | error e=>exact hx kb σ H s e s' I hq
 | ok fl=>
  cases fl with
  | ret u=>exact I.after hq
  | next=>exact False.elim hq
  | brk=>exact False.elim hq
  | cont=>exact False.elim hq
theorem aA(F:aN X.prog X.w X.K X.mg X.base CX k f fd ps sp)(hr:dU k X.A)(hg:Gl X x)(hm:X.mg x=some (.ref f))(hk:PySem.W.keepIn X.K (.ref f)=true)(hb:Binds X.K fd ps ds)(hd:Vals mj ds)(hx:Passes CX X E)
  (ha:PA X (e::es) t) (hdb:(x==("__debug__": Str))=false:=by decide) (he:starEach (e::es) X.env=(false,eval e X.env)::starEach es X.env:=by rfl) (hpl:(backTo pos (starEach es X.env)).any (·.1)=false:=by rfl):
  PE X (.Call (.Name x p) (e::es) [] pos) (Om sp mj E t):=by
 intro kb s σ H Q I h;refine wpAny_Call_Name_kw (jY I hg hm ?_ hdb);refine PySem.W.callWith_K (h₀:=X.base) I.ok.mod.Nn hk (cz (ha pos kb s σ H _ I h) fun us s1 ⟨vs,H1,I1,r,q⟩=>⟨I1.jX,?_⟩) he hpl;exact wN F hr hb hd hx I1 r q
theorem sI{pl:Sem Bool}(he:PE X o ta)(c:Cls X.K C)(hm:Meth X.K C m f)(F:aN X.prog X.w X.K X.mg X.base CX k f fd ps sp)(hr:dU k X.A)(hb:Binds X.K fd ps ds)(hd:Vals mj ds)(hx:Passes CX X E)(ha:PA X (e::es) t)
  (hst:starEach (e::es) X.env=(false,eval e X.env)::starEach es X.env:=by rfl) (hpl:(backTo pos (starEach es X.env)).any (·.1)=false:=by rfl)
  (ht:eval (.Call (.Attribute o m apos) (e::es) [] pos) X.env=(do
   let ov <-eval o X.env
   standAt apos.atName
   let (f,first) <-holding [ov] (getMethod ov m pl)
   callWith pos f first (backTo pos (starEach (e::es) X.env)) (backToKw pos (keywordEach [] X.env))):=by rfl):
  PE X (.Call (.Attribute o m apos) (e::es) [] pos) (Iq C m sp mj E ta t):=by
 intro kb s σ H Q I h;refine PySem.W.methodCall_KW (pl:=pl) (cz (he kb s σ H _ I h) fun u s1 ⟨x,H1,I1,rx,a,dx,fs,ex,ea,l,q⟩=>?_) ht;subst ex;obtain rfl:u=Value.ref a:=rx;refine oS I1 ea c hm l ?_;refine PySem.W.callWith_K (first:=[.ref a]) (h₀:=X.base) I.ok.mod.Nn hm.kp (cz (ha pos kb s1 σ H1 _ I1 q) fun us s2 ⟨vs,H2,I2,r,q2⟩=>⟨I2.jX,?_⟩) hst hpl;exact wN (us:=.ref a::us) (vs:=.ref a::vs) F hr hb hd hx I2 (.cons rfl r) q2
theorem CF{pl:Sem Bool}(he:PE X o ta)(c:Cls X.K C)(hm:Meth X.K C m f)(F:aN X.prog X.w X.K X.mg X.base CX k f fd ps sp)(hr:dU k X.A)(hb:Binds X.K fd ps ds)(hd:Vals mj ds)(hx:Passes CX X E)
  (ht:eval (.Call (.Attribute o m apos) [] [] pos) X.env=(do
   let ov <-eval o X.env
   standAt apos.atName
   let (f,first) <-holding [ov] (getMethod ov m pl)
   callWith pos f first (backTo pos (starEach [] X.env)) (backToKw pos (keywordEach [] X.env))):=by rfl):
  PE X (.Call (.Attribute o m apos) [] [] pos) (Iq C m sp mj E ta wL):=by
 intro kb s σ H Q I h;refine PySem.W.methodCall_KW (pl:=pl) (cz (he kb s σ H _ I h) fun u s1 ⟨x,H1,I1,rx,a,dx,fs,ex,ea,l,q⟩=>?_) ht;subst ex;obtain rfl:u=Value.ref a:=rx;refine oS I1 ea c hm l ?_;exact PySem.W.callWith_K0 (first:=[.ref a]) I1.jX hm.kp (wN (us:=[.ref a]) (vs:=[.ref a]) F hr hb hd hx I1 (.cons rfl .nil) q)
structure Mk(K:gt)(C f:Addr):Prop where
 makes:PySem.W.makesIn K C=true
 init:jp K (.ref C) "__init__"=some (some (.ref f))
 fn:PySem.W.isFn K (.ref f)=true
 kp:PySem.W.keepIn K (.ref C)=true
theorem uW{kb:List (Addr×Obj)}{σ:St}{H:Hp}{s:Shared}{Q:VK}{us:List Value}{vs:List V}(M:Mk X.K C f)(F:aN X.prog X.w X.K X.mg X.base CX k f fd ps sp)(hr:dU (k+1) X.A)(hb:Binds X.K fd ps ds)(hd:Vals mj ds)
  (hx:Passes CX X E) (I:Inv X kb σ H s) (r:Vals vs us)
  (h:∀x dx,H x=none->H dx=none->dx≠x->sp (.ref x::(vs++mj)) (upd (upd H dx (.own x)) x (.ins C dx [])) (fun v H2=>v=.non/\Q (.ref x) H2) E):
  wpAny (model X.prog X.w) X.A (call (.ref C) us) (EP X kb σ Q) X.xe s:=by
 have hq:=h (s.heap.objs.size+1) s.heap.objs.size (I.hok.fresh (Nat.le_succ _)) (I.hok.fresh (ki _)) (kt (Nat.lt_succ_self _));have I2:=Inv.made (C:=C) I;have r2:Vals (V.ref (s.heap.objs.size+1)::(vs++mj)) (Value.ref (s.heap.objs.size+1)::(us++ds)):=.cons rfl (r.append hd);have hl:(Value.ref (s.heap.objs.size+1)::us++ds).length=ps.length:=by have e:=r2.length;rw[F.len _ _ _ _ hq]at e;exact e.symm
 refine wpAny_call (CD (f:=f) I.jX M.makes M.init (beq_iff_eq.mp M.fn) (codeAny_mono (F.run _ X.stack _ _ ⟨Value.ref (s.heap.objs.size+1)::us,[]⟩ (Value.ref (s.heap.objs.size+1)::(us++ds)) _ _ E (hr.make C us [])
  (I2.env0.make C us []) (hb _ (Value.ref (s.heap.objs.size+1)::us) I2.jX hl) r2 hq) fun r s' hq'=>?_))
 cases r with
 | error e=>exact hx kb σ _ _ e s' I2 hq'
 | ok fl=>
  cases fl with
  | ret u=>
   obtain⟨v,H',I3,rv,ev,q3⟩:=I2.after hq';subst ev;exact⟨rv,⟨V.ref (s.heap.objs.size+1),H',I3,rfl,q3⟩⟩
  | next=>exact False.elim hq'
  | brk=>exact False.elim hq'
  | cont=>exact False.elim hq'
theorem yQ(M:Mk X.K C f)(F:aN X.prog X.w X.K X.mg X.base CX k f fd ps sp)(hr:dU (k+1) X.A)(hg:Gl X x)(hm:X.mg x=some (.ref C))(hb:Binds X.K fd ps ds)(hd:Vals mj ds)(hx:Passes CX X E)
  (ha:PA X (e::es) t) (hdb:(x==("__debug__": Str))=false:=by decide) (he:starEach (e::es) X.env=(false,eval e X.env)::starEach es X.env:=by rfl) (hpl:(backTo pos (starEach es X.env)).any (·.1)=false:=by rfl):
  PE X (.Call (.Name x p) (e::es) [] pos) (Ir C sp mj E t):=by
 intro kb s σ H Q I h;refine wpAny_Call_Name_kw (jY I hg hm ?_ hdb);refine PySem.W.callWith_K (h₀:=X.base) I.ok.mod.Nn M.kp (cz (ha pos kb s σ H _ I h) fun us s1 ⟨vs,H1,I1,r,q⟩=>⟨I1.jX,?_⟩) he hpl;exact uW M F hr hb hd hx I1 r q
theorem CG(M:Mk X.K C f)(F:aN X.prog X.w X.K X.mg X.base CX k f fd ps sp)(hr:dU (k+1) X.A)(hg:Gl X x)(hm:X.mg x=some (.ref C))(hb:Binds X.K fd ps ds)(hd:Vals mj ds)(hx:Passes CX X E)
  (hdb:(x==("__debug__": Str))=false:=by decide):PE X (.Call (.Name x p) [] [] pos) (Ir C sp mj E wL):=by
 intro kb s σ H Q I h;refine wpAny_Call_Name_kw (jY I hg hm ?_ hdb);exact PySem.W.callWith_K0 I.jX M.kp (uW (us:=[]) M F hr hb hd hx I .nil h)
variable {ks:List Str}{kpos:Pos}{kws:List Keyword}{te:TE}{tk:TA}{nm:Option Str}{g:List Value->List Value->List Value}{gV:List V->List V->List V}
end
structure aM(N P:List Str)(sc:Scope):Prop where
 kind:sc.kind=.function
 co:sc.isCoroutine=false
 gen:sc.isGenerator=false
 nd:N.Nodup
 pre:N.take P.length=P
 par:∀x∈P,sc.names.lookup x=some .local\/sc.names.lookup x=some .cell
 JQ:∀y∈sc.names,y.2≠.free
theorem rR{kindOf:Str->Option NameKind}{x:Str}:∀{binds:List (Str×Value)} {m:Str->Option Value},(∀v,(x,v)∉binds)->bindL kindOf binds m x=m x
 | [],_,_=>rfl
 | (n,v)::r,m,h=>by
  unfold bindL;rw[rR fun w hw=>h w (List.mem_cons_of_mem _ hw)];split
  ·have:x≠n:=by rintro rfl;exact h v List.mem_cons_self
   simp[this]
  ·rfl
theorem rS{kindOf:Str->Option NameKind}{x:Str}:∀{binds:List (Str×Value)} {m:Str->Option Value},(∀v,(x,v)∉binds)->bindC kindOf binds m x=m x
 | [],_,_=>rfl
 | (n,v)::r,m,h=>by
  unfold bindC;rw[rS fun w hw=>h w (List.mem_cons_of_mem _ hw)];split
  ·rfl
  ·have:x≠n:=by rintro rfl;exact h v List.mem_cons_self
   simp[this]
theorem rT{kindOf:Str->Option NameKind}{x:Str}{v:Value}:∀{P:List Str} {vs:List Value} {i:Nat} {m:Str->Option Value},P.Nodup->P[i]? =some x->vs[i]? =some v->kindOf x=some .local->
  bindL kindOf (P.zip vs) m x=some v
 | [],_,_,_,_,h,_,_=>by simp at h
 | _::_,[],_,_,_,_,h,_=>by simp at h
 | p::P,w::vs,0,m,nd,h1,h2,hk=>by
  simp at h1 h2;subst h1;subst h2;show bindL kindOf ((p,w)::P.zip vs) m p=_;unfold bindL;rw[rR fun v hv=>(List.nodup_cons.mp nd).1 (List.of_mem_zip hv).1,if_pos hk];simp
 | p::P,w::vs,i+1,m,nd,h1,h2,hk=>by show bindL kindOf ((p,w)::P.zip vs) m x=_;unfold bindL;exact rT (i:=i) (List.nodup_cons.mp nd).2 (by simpa using h1) (by simpa using h2) hk
theorem rV{kindOf:Str->Option NameKind}{x:Str}{v:Value}:∀{P:List Str} {vs:List Value} {i:Nat} {m:Str->Option Value},P.Nodup->P[i]? =some x->vs[i]? =some v->kindOf x≠some .local->
  bindC kindOf (P.zip vs) m x=some v
 | [],_,_,_,_,h,_,_=>by simp at h
 | _::_,[],_,_,_,_,h,_=>by simp at h
 | p::P,w::vs,0,m,nd,h1,h2,hk=>by
  simp at h1 h2;subst h1;subst h2;show bindC kindOf ((p,w)::P.zip vs) m p=_;unfold bindC;rw[rS fun v hv=>(List.nodup_cons.mp nd).1 (List.of_mem_zip hv).1,if_neg hk];simp
 | p::P,w::vs,i+1,m,nd,h1,h2,hk=>by show bindC kindOf ((p,w)::P.zip vs) m x=_;unfold bindC;exact rV (i:=i) (List.nodup_cons.mp nd).2 (by simpa using h1) (by simpa using h2) hk
def start(N:List Str)(vs:List V):St:=vs.map some++List.replicate (N.length-vs.length) none
def gi(CX:Ay)(P:Program)(w:World)(K:gt)(mg:Str->Option Value)(base:Heap)(N:List Str)(qual:Str)(scope:Scope)(f:Addr)(cd:Value)(A:Around)(outer:List Env)(s:Shared)(H:Hp)(E:XK):Cx where
 prog:=P
 w:=w
 K:=K
 mg:=mg
 base:=base
 A:=A.deeper (envOfC qual scope s.heap.objs.size f cd)
 N:=N
 s₀:=s
 H₀:=H
 env:=envOfC qual scope s.heap.objs.size f cd
 outer:=outer
 stack:=envOfC qual scope s.heap.objs.size f cd::outer
 ex:=[]
 calm:=true
 fn:=fun _=>true
 pn:=[]
 xe:=fun e s'=>wpAny (model P w) (A.deeper (envOfC qual scope s.heap.objs.size f cd)) (leaving (envOfC qual scope s.heap.objs.size f cd) e) (fun _ s''=>CX outer H s E e s'') (fun e' s''=>CX outer H s E e' s'') s'
theorem uX{sc:Scope}{n:Nat}{x:Str}(h:sc.names.lookup x=some .cell):∃c,(cellsFrom n sc.names []).lookup x=some c:=by have q:=PySem.W.cellsFrom_some sc.names n [] (.inl h);exact Option.isSome_iff_exists.mp q
theorem Az{CX:Ay}{P:Program}{w:World}{K:gt}{mg:Str->Option Value}{base:Heap}{N ps:List Str}{qual:Str}{scope:Scope}{f:Addr}{cd:Value}{A:Around}{outer:List Env}{s s1:Shared}{H:Hp}{E:XK}{us:List Value}{vs:List V}
  (S:aM N ps scope) (hd:A.handled=none) (e0:wM P w K mg base A outer s H) (hl:vs.length=ps.length) (r:Vals vs us)
  (x:InCallC s s.heap.objs.size (bindL (envOfC qual scope s.heap.objs.size f cd).kindOf (ps.zip us) fun _=>none) (cellsFrom (s.heap.objs.size+1) scope.names []) (bindC (envOfC qual scope s.heap.objs.size f cd).kindOf (ps.zip us) fun _=>none) s1):
  Inv (gi CX P w K mg base N qual scope f cd A outer s H E) [] (start N vs) H s1:=by
 have hpl:ps.length<=N.length:=by have:=congrArg List.length S.pre;rw[List.length_take]at this;omega
 obtain⟨h1,tk,rfl,hk⟩:=x.done;have Oq:∀b:Addr,b∉(gi CX P w K mg base N qual scope f cd A outer s H E).ex:=fun b z=>absurd (show b∈([]:List Addr)from z) (by simp)
 refine⟨⟨e0.mod,S.kind,rfl,rfl,ki _,fun y z c h1 h2=>?_,fun y hy=>?_,fun y c _ h=>?_,fun _=>hd,Around.frames_deeper e0.frames,.inr ⟨rfl,rfl⟩,fun b z=>absurd z (Oq b),e0.bs,e0.FH,fun b _ _=>Oq b,fun b z=>absurd z (Oq b),e0.jW,e0.JG⟩,
  rfl,e0.bare,Un.kept hk,⟨_,x.toInCall.ns,fun i y v h1 h2 h3=>?_⟩,fun y c h=>⟨_,x.cell y c h⟩,e0.hok.fresh (ki _),fun y c h=>?_,fun p hp=>absurd (show p∈([]:List (Addr×Obj))from hp) (by simp),e0.hok.kept hk,?_⟩
 ·exact name_of_addr x.apart (PySem.mem_of_lookup h1) (PySem.mem_of_lookup h2)
 ·have hy:scope.names.lookup y=some .cell\/scope.names.lookup y=some .free:=hy;rcases hy with hy | hy
  ·exact uX hy
  ·exact absurd rfl (S.JQ _ (PySem.mem_of_lookup hy))
 ·exact Nat.le_of_lt (x.above y c (PySem.mem_of_lookup h))
 ·have hi:i<vs.length:=by
   unfold start at h2;by_cases hi:i<vs.length
   ·exact hi
   ·rw[bc (by simpa using hi)]at h2;rw[List.getElem?_replicate]at h2;split at h2<;>cases h2
  have ha:vs[i]? =some v:=by
   unfold start at h2;rw[ax (by simpa using hi),ag]at h2;cases e:vs[i]? with
   | none=>rw[e]at h2;cases h2
   | some a=>rw[e]at h2;cases h2;rfl
  obtain⟨u,hu,rv⟩:=r.get ha;have hp:ps[i]? =some y:=by rw[<-S.pre,List.getElem?_take_of_lt (by omega)];exact h1
  have YG:ps.Nodup:=by rw[<-S.pre];exact S.nd.sublist (List.take_sublist _ _)
  refine⟨u,rv,?_⟩;rcases S.par y (am hp)with k | k
  ·exact .inl ⟨k,rT YG hp hu k⟩
  ·obtain⟨c,e⟩:=uX (n:=s.heap.objs.size+1) k;refine .inr ⟨.inl k,c,e,?_⟩;have q:=x.cell y c e;rw[rV YG hp hu (by show scope.names.lookup y≠_;rw[k];decide)]at q;exact q
 ·exact e0.hok.fresh (Nat.le_of_lt (x.above y c (PySem.mem_of_lookup h)))
 ·unfold start;show _=N.length;rw[av,List.length_map,List.length_replicate];omega
theorem Iu{CX:Ay}{P:Program}{w:World}{K:gt}{mg:Str->Option Value}{base:Heap}{k:Nat}{f:Addr}{name qual:Str}{params:Arguments}{body:List Stmt}{scope:Scope}{dV kV doc pm J4 ct oc:Value}{an od:Option Addr}
  {osl:Array (Option Value)} {N ps:List Str} {sp:Sp} (lk:K.lookup f=some ⟨oc,od,.func (PySem.W.fnOf name qual params body scope dV kV doc pm an J4 ct),osl⟩) (hcd:PySem.W.codeIn K J4 qual=true) (S:aM N ps scope)
  (len:∀vs H Q E,sp vs H Q E->vs.length=ps.length)
  (hbody:∀(A:Around) (outer:List Env) (s:Shared) (H:Hp) (vs:List V) (Q:VK) (E:XK),dU k (A.deeper (envOfC qual scope s.heap.objs.size f J4))->sp vs H Q E->
   ∃t,qJ (gi CX P w K mg base N qual scope f J4 A outer s H E) body t/\t {nx:=fun _ H'=>Q .non H',rt:=Q} (start N vs) H):
  aN P w K mg base CX (k+1) f (PySem.W.fnOf name qual params body scope dV kV doc pm an J4 ct) ps sp:=by
 refine⟨len,fun A outer s H args us vs Q E hr e0 hb r hsp=>?_⟩;have hl:=len _ _ _ _ hsp;have KX:K.In s.heap:=e0.mod.Nn.keeps fun b o e=>(e0.bs b o e).1;have lim:s.heap.NoLimit:=e0.mod.nolimit.keeps fun b o e=>(e0.bs b o e).1;have hkind:∀y∈ps.zip us,scope.names.lookup y.1=some .local\/(scope.names.lookup y.1=some .cell/\((cellsFrom (s.heap.objs.size+1) scope.names []).lookup y.1).isSome=true):=fun⟨n,v⟩ hy=>by
  rcases S.par n (List.of_mem_zip hy).1 with q | q
  ·exact .inl q
  ·exact .inr ⟨q,PySem.W.cellsFrom_some _ _ _ (.inl q)⟩
 refine codeAny_call_function hr.depth (KX _ _ lk) rfl S.co S.gen rfl (PySem.W.codeRec_of KX hcd) (hb _ _ _ _ ?_);refine wpAny_newFunctionEnv_cells S.kind hkind fun env he s1 x=>?_;subst he;refine⟨lim.keeps x.toInCall.keep,codeAny_func ?_⟩;obtain⟨t,ht,hq⟩:=hbody A outer s H vs Q E (hr.deeper _) hsp;have I:Inv (gi CX P w K mg base N qual scope f J4 A outer s H E) [] (start N vs) H s1:=Az S hr.hd e0 hl r x;refine en (ht [] s1 (start N vs) H _ I hq) (fun fl s' hs=>?_) fun e s' hs=>hs;have fin:∀{σ':St} {H':Hp} {v:V} {u:Value},Inv (gi CX P w K mg base N qual scope f J4 A outer s H E) [] σ' H' s'->RelV v u->Q v H'->CE outer P w H s Q u s' :=
  fun {σ' H' v u} J rv q=>⟨v,H',J.os,J.bare,J.base,J.hok,rv,q⟩
 cases fl with
 | ret u=>
  obtain⟨v,σ',H',J,rv,q⟩:=hs;exact fin J rv q
 | next=>
  obtain⟨σ',H',J,q⟩:=hs;exact fin (v:=V.non) (u:=Value.none) J rfl q
 | brk=>
  obtain⟨_,_,_,q⟩:=hs;exact False.elim q
 | cont=>
  obtain⟨_,_,_,q⟩:=hs;exact False.elim q
section
variable {X:Cx}{x:Str}{p pos:Pos}{e:Expr}{es:List Expr}{t:TA}{id T:String}{r:List V->Hp->VK->Prop}
def R0(r:List V->Hp->VK->Prop)(t:TA):TE:=fun σ H Q=>t σ H fun vs H1=>r vs H1 Q
theorem aG(hc:eL X (.builtin id) r)(hg:Gl X x)(hm:X.mg x=none)(hv:bootBuiltins x=some (.builtin id))(ha:PA X (e::es) t)(hn:x≠ "__name__":=by decide)(hdb:(x==("__debug__": Str))=false:=by decide)
  (he:starEach (e::es) X.env=(false,eval e X.env)::starEach es X.env:=by rfl) (hpl:(backTo pos (starEach es X.env)).any (·.1)=false:=by rfl):PE X (.Call (.Name x p) (e::es) [] pos) (R0 r t):=by
 intro kb s σ H Q I h;refine wpAny_Call_Name_kw (ib I hg hm hv ?_ hn hdb);exact PyProof.Rows.callWith_builtin1 (cz (ha pos kb s σ H _ I h) fun us s1 ⟨vs,H1,I1,r1,q1⟩=>hc kb s1 σ H1 vs us Q I1 r1 q1) he hpl
theorem bq(hc:eL X (.type T) r)(hg:Gl X x)(hm:X.mg x=none)(hv:bootBuiltins x=some (.type T))(ha:PA X (e::es) t)(hn:x≠ "__name__":=by decide)(hdb:(x==("__debug__": Str))=false:=by decide)
  (he:starEach (e::es) X.env=(false,eval e X.env)::starEach es X.env:=by rfl) (hpl:(backTo pos (starEach es X.env)).any (·.1)=false:=by rfl):PE X (.Call (.Name x p) (e::es) [] pos) (R0 r t):=by
 intro kb s σ H Q I h;refine wpAny_Call_Name_kw (ib I hg hm hv ?_ hn hdb);exact PyProof.Rows.callWith_type1 (cz (ha pos kb s σ H _ I h) fun us s1 ⟨vs,H1,I1,r1,q1⟩=>hc kb s1 σ H1 vs us Q I1 r1 q1) he hpl
end
end L2
namespace HT
open PySem PyProof.Rows
section
open PySem.SeqAt
open PySem.AutoSeq1 (wpAny_loadPart')
open PySem.MeetsSeq PySem.MeetsSeq2 PySem.MeetsSeq3
end
section
variable {prog:Program}{w:World}{A:Around}{E:Value->Shared->Prop}{s:Shared}
theorem FO{t b:Addr}{vs ws:List Value}{Q:Value->Shared->Prop}(ht:IsTup s.heap t vs.toArray)(hb:IsTup s.heap b ws.toArray)(hv:vs≠ [])
  (h1:ws=[]->Q (.ref t) s) (h2:ws≠ []->Q (.ref s.heap.objs.size) {s with heap:=s.heap.push {cls:=.type "tuple",data:=.seq (vs++ws).toArray}})
  (hsz:vs.length+ws.length<=em):wpAny (model prog w) A (binaryOp .Add (.ref t) (.ref b)) Q E s:=by
 obtain⟨⟨cls,dd,data,sl⟩,ho,hc,n,hd⟩:=id ht;obtain⟨⟨cls2,dd2,data2,sl2⟩,ho2,hc2,n2,hd2⟩:=id hb;simp only at hc hd hc2 hd2;subst hc hd hc2 hd2;have e:vs.toArray++ws.toArray=(vs++ws).toArray:=by simp
 by_cases hw:ws=[]
 ·exact concat_meets ⟨_,ho,rfl⟩ ⟨_,ho2,rfl⟩ noFill_tuple_add seq_tuple_add PySem.F.slot_tuple_add PySem.F.entry_tuple_add (PySem.F.args_tuple_add_2 _ _)
   (tuple_addW1 t b vs.toArray ws.toArray n n2 dd dd2 sl sl2 (by simpa using hv) (by simp[hw])) ⟨ho,ho2,h1 hw⟩
 ·refine concat_meets ⟨_,ho,rfl⟩ ⟨_,ho2,rfl⟩ noFill_tuple_add seq_tuple_add PySem.F.slot_tuple_add PySem.F.entry_tuple_add (PySem.F.args_tuple_add_2 _ _)
   (tuple_addW2 t b vs.toArray ws.toArray n n2 dd dd2 sl sl2 (by simpa using hv) (by simpa using hw) (by rw[ar,ar];exact hsz)) ⟨ho,ho2,?_⟩
  rw[e];exact h2 hw
def d9(n d:Nat):Option Int->Nat
 | none=>d
 | some v=>if v<0 then (v+(n:Int)).toNat else min v.toNat n
theorem yR(n d k:Nat):d9 n d (some (k:Int))=min k n:=by show(if (k:Int)<0 then ((k:Int)+(n:Int)).toNat else min (k:Int).toNat n)=min k n;rw[if_neg (by omega),lv]
theorem JR(n d:Nat)(hd:d<=n)(o:Option Int):d9 n d o<=n:=by
 cases o with
 | none=>exact hd
 | some v=>
  show(if v<0 then (v+(n:Int)).toNat else min v.toNat n)<=n;by_cases hv:v<0
  ·rw[if_pos hv];omega
  ·rw[if_neg hv];exact Nat.min_le_right _ _
theorem yS(v:Int)(n d:Nat):(if v<0 then max (v+(n:Int)) 0 else min v (n:Int))=((d9 n d (some v):Nat):Int):=by
 show(if v<0 then max (v+(n:Int)) 0 else min v (n:Int))=(((if v<0 then (v+(n:Int)).toNat else min v.toNat n):Nat):Int);by_cases hv:v<0
 ·simp only[if_pos hv];omega
 ·simp only[if_neg hv];omega
theorem wO(lo hi:Option Int)(n:Nat):Builtin.Slice.sliceAdjust lo hi 1 (n:Int)=(((d9 n 0 lo:Nat):Int),((d9 n n hi:Nat):Int)):=by
 have h1:¬((1:Int)<0):=by omega
 unfold Builtin.Slice.sliceAdjust;simp only[h1,if_false];refine Prod.ext ?_ ?_
 ·cases lo with
  | none=>rfl
  | some v=>exact yS v n 0
 ·cases hi with
  | none=>rfl
  | some v=>exact yS v n n
theorem wQ(i j:Nat):Builtin.Slice.slicePlaces (i:Int) (j:Int) 1=j-i:=by
 unfold Builtin.Slice.slicePlaces;have h1:(1:Int)>0:=by omega
 simp only[h1,if_true,Int.ediv_one];split<;>omega
theorem oW{v:Value}{o:Option Int}{Q:Option Int->Shared->Prop}(p:IsPart v o)(h:Q o s):wpAny (model prog w) A (Builtin.Slice.slicePartIndex v) Q E s:=by
 cases p with
 | none=>exact slicePart_none h
 | int i t=>exact slicePart_int h
theorem lg{sl:Addr}{vl vu:Value}{lo hi:Option Int}{n:Nat}{Q:Int×Int×Nat->Shared->Prop}(hs:s.heap.IsSliceOf sl vl vu .none)(pl:IsPart vl lo)(pu:IsPart vu hi)
  (h:Q (((d9 n 0 lo:Nat):Int),1,d9 n n hi-d9 n 0 lo) s):wpAny (model prog w) A (Builtin.Slice.sliceApplied (.ref sl) (pure (n:Int))) Q E s:=by
 obtain⟨os,hos,hcs,hds⟩:=id hs;unfold Builtin.Slice.sliceApplied Builtin.Slice.sliceFields;refine de (de (wpAny_field hos hds (x:=vl) rfl (de (wpAny_field hos hds (x:=vu) rfl (de (wpAny_field hos hds (x:=.none) rfl (dL ?_)))))));refine de (slicePart_none ?_);show wpAny _ _ (if ((1:Int)==0)=true then _ else _) _ _ s;rw[if_neg (by decide)];refine de (oW pl (de (oW pu (de (dL ?_)))));show wpAny _ _ (match Builtin.Slice.sliceAdjust lo hi 1 (n:Int)with | (lo,hi)=>pure (lo,(1:Int),Builtin.Slice.slicePlaces lo hi 1)) _ _ s;rw[wO lo hi n];show wpAny _ _ (pure (((d9 n 0 lo:Nat):Int),(1:Int),Builtin.Slice.slicePlaces ((d9 n 0 lo:Nat):Int) ((d9 n n hi:Nat):Int) 1)) _ _ s;rw[wQ];exact dL h
theorem CH(xs:Array Value)(i k:Nat):((List.range k).filterMap fun(m:Nat)=>xs[((i:Int)+(m:Int)*1).toNat]?).toArray=((xs.toList.drop i).take k).toArray:=by
 have e:(fun(m:Nat)=>xs[((i:Int)+(m:Int)*1).toNat]?)=fun m=>xs[i+m]? :=by
  funext m;have:((i:Int)+(m:Int)*1).toNat=i+m:=by omega
  rw[this]
 rw[e];have:=pick_run xs i k;rw[List.filterMap_map]at this;have e2:((fun x=>xs[x]?)∘fun x=>i+x)=fun m=>xs[i+m]? :=rfl;rw[e2]at this;rw[this]
theorem j0{t sl:Addr}{items:Array Value}{vl vu:Value}{lo hi:Option Int}{Q:Value->Shared->Prop}(ht:IsTup s.heap t items)(hs:s.heap.IsSliceOf sl vl vu .none)(pl:IsPart vl lo)(pu:IsPart vu hi)
  (hw:¬(d9 items.size 0 lo=0/\d9 items.size items.size hi=items.size))
  (h:Q (.ref s.heap.objs.size) {s with heap:=s.heap.push {cls:=.type "tuple",data:=.seq ((items.toList.drop (d9 items.size 0 lo)).take (d9 items.size items.size hi-d9 items.size 0 lo)).toArray}})
  (hsz:items.size<=em):wpAny (model prog w) A (getItem (.ref t) (.ref sl)) Q E s:=by
 have yT:sizeOk (.seq ((items.toList.drop (d9 items.size 0 lo)).take (d9 items.size items.size hi-d9 items.size 0 lo)).toArray):=by show((items.toList.drop (d9 items.size 0 lo)).take (d9 items.size items.size hi-d9 items.size 0 lo)).toArray.size<=em;rw[ar,List.length_take,List.length_drop,Array.length_toList];omega
 have hj:d9 items.size items.size hi<=items.size:=JR _ _ (ki _) hi;obtain⟨os,hos,hcs,hds⟩:=id hs;have hTs:s.TypeIs (.ref sl) "slice":=⟨os,hos,hcs⟩;unfold getItem
 try with_reducible refine wpAny_holding ?_
 first | refine de (dL ?_) | skip
 refine de (wpAny_sequenceKey ht.typeIs (by decide) ?_)
 refine de (wpAny_callSpecial?_slot (name:=Str.ofString "__getitem__") ht.typeIs PyProof.Rows.slot_tuple_getitem
  (ff PyProof.Rows.slot_tuple_getitem ht.typeIs entry_tuple_getitem ?_ (args_tuple_getitem _ _)))
 show wpAny _ _ (Builtin.Tuple.tupleItemsOf (.ref t)>>=_) _ _ s;refine de (tupleItemsOf_ ht ?_);refine de (wpAny_typeOf hTs ?_);rw[if_pos (by decide)];refine de (lg hs pl pu ?_);have hno:¬((((d9 items.size 0 lo:Nat):Int)==0&&(1:Int)==1&&(d9 items.size items.size hi-d9 items.size 0 lo)==items.size)=true):=by intro q;rw[Bool.and_eq_true,Bool.and_eq_true]at q;have q1:((d9 items.size 0 lo:Nat):Int)=0:=eq_of_beq q.1.1;have q2:d9 items.size items.size hi-d9 items.size 0 lo=items.size:=eq_of_beq q.2;exact hw ⟨by omega,by omega⟩
 show wpAny _ _ (if (((d9 items.size 0 lo:Nat):Int)==0&&(1:Int)==1&&(d9 items.size items.size hi-d9 items.size 0 lo)==items.size)=true then _ else _) _ _ s;rw[if_neg hno,CH]
 first
  | exact de (m:=Builtin.Tuple.tupleExact _) (wpAny_newObj_type (dL ⟨_,rfl,dL h⟩) yT)
  | exact de (m:=Builtin.Tuple.tupleExact _) (wpAny_newObj_type (de (dL (dL ⟨_,rfl,dL h⟩))) yT)
  | exact de (de (m:=Builtin.Tuple.tupleExact _) (wpAny_newObj_type (dL (dL ⟨_,rfl,dL h⟩)) yT))
  | exact de (de (m:=Builtin.Tuple.tupleExact _) (wpAny_newObj_type (dL ⟨_,rfl,dL h⟩) yT))
end
end HT
namespace L2
open PySem PySem.Spec PyProof.Rows
abbrev TO:=St->Hp->(Option Int->Hp->Prop)->Prop
def PO(X:Cx)(e:Option Expr)(t:TO):Prop :=
 ∀(kb:List (Addr×Obj)) (s:Shared) (σ:St) (H:Hp) (Q:Option Int->Hp->Prop),Inv X kb σ H s->t σ H Q->
  wpAny (model X.prog X.w) X.A (evalPart e X.env) (fun u s'=>∃o H',Inv X kb σ H' s'/\IsPart u o/\Q o H') X.xe s
def FP:TO:=fun _ H Q=>Q none H
inductive Ot(Q:Option Int->Hp->Prop)(x:V)(H:Hp):Prop
 | mk (i) (_:x=.int i) (_:Q (some i) H)
def Ou(t:TE):TO:=fun σ H Q=>t σ H (Ot Q)
theorem intsAre_of{ns:List Int}:∀{us:List Value},Vals (ns.map V.int) us->IntsAre us ns:=by
 induction ns with
 | nil=>intro us r;rw[List.map_nil]at r;cases r;exact .nil
 | cons n ns ih=>
  intro us r;rw[cp]at r;cases r with
  | cons r1 r2=>
   obtain⟨t,e⟩:=r1;subst e;exact .cons n t (ih r2)
section
variable {X:Cx}{e:Expr}{te:TE}{lo hi:Option Expr}{tl th:TO}{pos p2:Pos}
theorem j3:PO X none FP:=by intro kb s σ H Q I h;rw[evalPart_none];exact dL ⟨none,H,I,.none,h⟩
theorem il(h:PE X e te):PO X (some e) (Ou te):=by intro kb s σ H Q I hw;rw[evalPart_some];refine cz (h kb s σ H _ I hw) fun u s1 ⟨x,H1,I1,r1,q1⟩=>?_;obtain⟨i,rfl,q⟩:=q1;obtain⟨t,rfl⟩:=r1;exact⟨some i,H1,I1,.int i t,q⟩
def T5(X:Cx)(r:V->Option Int->Option Int->Hp->VK->Prop):Prop :=
 ∀(kb:List (Addr×Obj)) (s:Shared) (σ:St) (H:Hp) (x:V) (v vl vu:Value) (lo hi:Option Int) (sl:Addr) (Q:VK),Inv X kb σ H s->RelV x v->s.heap.IsSliceOf sl vl vu .none->IsPart vl lo->IsPart vu hi->r x lo hi H Q->
  ∃T id,typeLookup (.type T) "__getitem__"=pure (some (.builtin id))/\s.TypeIs v T/\wpAny (model X.prog X.w) X.A (getItem v (.ref sl)) (EP X kb σ Q) X.xe s
def tSl(r:V->Option Int->Option Int->Hp->VK->Prop)(te:TE)(tl th:TO):TE:=fun σ H Q=>te σ H fun x H1=>tl σ H1 fun l H2=>th σ H2 fun u H3=>r x l u H3 Q
theorem gN{r:V->Option Int->Option Int->Hp->VK->Prop}(hr:T5 X r)(he:PE X e te)(hl:PO X lo tl)(hu:PO X hi th):PE X (.Subscript e (.Slice lo hi none p2) pos) (tSl r te tl th):=by intro kb s σ H Q I h;refine Subscript_ (cz (he kb s σ H _ I h) fun v s1 ⟨x,H1,I1,r1,q1⟩=>?_);refine wpAny_Slice (cz (hl kb s1 σ H1 _ I1 q1) fun vl s2 ⟨l,H2,I2,pl,q2⟩=>cz (hu kb s2 σ H2 _ I2 q2) fun vu s3 ⟨u,H3,I3,pu,q3⟩=>?_);rw[evalPart_none];refine dL ?_;have I4:Inv X kb σ H3 {s3 with heap:=s3.heap.push {cls:=.type "slice",data:=.fields #[vl,vu,.none]}}:=I3.kept (t':=s3.toks) fun b ob q=>fg _ q;obtain⟨T,id,hT,ht,hg⟩:=hr kb {s3 with heap:=s3.heap.push {cls:=.type "slice",data:=.fields #[vl,vu,.none]}} σ H3 x v vl vu l u s3.heap.objs.size Q I4 r1 (Heap.IsSliceOf.new ..) pl pu q3;show wpAny (model X.prog X.w) X.A (subscriptTail e (.Slice lo hi none p2) v (.ref s3.heap.objs.size)) (EP X kb σ Q) X.xe {s3 with heap:=s3.heap.push {cls:=.type "slice",data:=.fields #[vl,vu,.none]}};exact tail_any (ops:=[.ref s3.heap.objs.size,v]) ht hT hg (by with_unfolding_all rfl)
def qK(xs:List V)(lo hi:Option Int):List V:=(xs.drop (HT.d9 xs.length 0 lo)).take (HT.d9 xs.length xs.length hi-HT.d9 xs.length 0 lo)
theorem mn(xs:List V)(lo hi:Option Int):(qK xs lo hi).length<=xs.length:=by unfold qK;rw[List.length_take,List.length_drop];omega
inductive T6(K:gt)(x:V)(lo:Option Int)(hi:Option Int)(H:Hp)(Q:VK):Prop
 | mk (a xs) (_:x=.ref a) (_:bp K H a xs) (_:¬(HT.d9 xs.length 0 lo=0/\HT.d9 xs.length xs.length hi=xs.length)) (_:∀p,H p=none->Q (.ref p) (upd H p (.tup (qK xs lo hi))))
theorem sJ:T5 X (T6 X.K):=by
 intro kb s σ H x v vl vu lo hi sl Q I rx hs pl pu h;obtain⟨a,xs,rfl,hx,hw,q⟩:=h;cases rx;obtain⟨its,r,ht,hz⟩:=I.tuple hx;have hlen:its.toArray.size=xs.length:=by rw[ar];exact r.length.symm
 refine⟨"tuple",_,PyProof.Rows.slot_tuple_getitem.lookup,ht.typeIs,?_⟩;refine HT.j0 ht hs pl pu (by rw[hlen];exact hw) ?_ (by rw[hlen];exact hz);rw[hlen];refine⟨.ref s.heap.objs.size,_,I.laid (t':=s.toks) (o:=.tup (qK xs lo hi)) (fun b ob q=>fg _ q) (ki _) ?_,rfl,q _ (I.hok.fresh (ki _))⟩;exact⟨li (mn xs lo hi) hz,_,(r.drop (HT.d9 xs.length 0 lo)).take (HT.d9 xs.length xs.length hi-HT.d9 xs.length 0 lo),IsTup.new _ _⟩
inductive Ov(K:gt)(x:V)(y:V)(H:Hp)(Q:VK):Prop
 | mk (a b xs ys) (_:x=.ref a) (_:y=.ref b) (_:bp K H a xs) (_:bp K H b ys) (_:xs≠ []) (_:xs.length+ys.length<=em) (_:(ys=[]->Q (.ref a) H)) (_:(ys≠ []->∀p,H p=none->Q (.ref p) (upd H p (.tup (xs++ys)))))
theorem Vals.sL{xs:List V}{us:List Value}(r:Vals xs us):us=[]↔xs=[]:=by
 cases r with
 | nil=>simp
 | cons _ _=>simp
theorem sM:jG X (binaryOp .Add) (Ov X.K):=by intro kb s σ H x y v u Q I rx ry h;obtain⟨a,b,xs,ys,rfl,rfl,ha,hb,hx,hz,q1,q2⟩:=h;cases rx;cases ry;obtain⟨its,r1,p1,_⟩:=I.tuple ha;obtain⟨its2,r2,p2,_⟩:=I.tuple hb;refine HT.FO p1 p2 (fun z=>hx (r1.sL.mp z)) (fun z=>⟨.ref a,H,I,rfl,q1 (r2.sL.mp z)⟩) (fun z=>?_) (by rw[<-r1.length,<-r2.length];exact hz);refine⟨.ref s.heap.objs.size,_,I.laid (t':=s.toks) (o:=.tup (xs++ys)) (fun b ob q=>fg _ q) (ki _) ?_,rfl,q2 (fun w=>z (r2.sL.mpr w)) _ (I.hok.fresh (ki _))⟩;exact⟨by rw[av];exact hz,_,r1.append r2,IsTup.new _ _⟩
end
def uY(n:Nat)(i:Int):Option Nat:=if 0<=i then (if i<n then some i.toNat else none)else if-(n:Int)<=i then some (i+n).toNat else none
def lh{α:Type}(xs:List α)(i:Int):Option α:=(uY xs.length i).bind fun j=>xs[j]?
theorem yU{n:Nat}{i:Int}{j:Nat}(h:uY n i=some j):seqIndex? i n=some j/\j<n/\-(n:Int)<=i/\i<n:=by
 unfold uY at h;by_cases h0:0<=i
 ·rw[if_pos h0]at h;by_cases h1:i<n
  ·rw[if_pos h1]at h;have e:i.toNat=j:=Option.some.inj h;exact⟨by rw[seqIndex_of h0 h1,e],by omega,by omega,h1⟩
  ·rw[if_neg h1]at h;cases h
 ·rw[if_neg h0]at h;by_cases h1:-(n:Int)<=i
  ·rw[if_pos h1]at h;have e:(i+n).toNat=j:=Option.some.inj h;exact⟨by rw[seqIndex_neg (by omega) h1,e],by omega,h1,by omega⟩
  ·rw[if_neg h1]at h;cases h
theorem yV{α:Type}{xs:List α}{i:Int}{v:α}(h:lh xs i=some v):∃j,seqIndex? i xs.length=some j/\xs[j]? =some v/\j<xs.length/\-(xs.length:Int)<=i/\i<xs.length:=by
 unfold lh at h;cases e:uY xs.length i with
 | none=>rw[e]at h;cases h
 | some j=>
  rw[e]at h;obtain⟨h1,h2,h3,h4⟩:=yU e;exact⟨j,h1,h,h2,h3,h4⟩
theorem cj{α:Type}{xs:List α}{j:Nat}{v:α}(h:xs[j]? =some v):lh xs (j:Int)=some v:=by
 have hj:j<xs.length:=(al.mp h).1;have e:uY xs.length (j:Int)=some j:=by unfold uY;rw[if_pos (by omega),if_pos (by omega)];simp
 unfold lh;rw[e];exact h
def yW(b:Expr):Prop:=∀o i,subscripted b false o i=operate [o,i] (getItem o i)
def R1(X:Cx)(r:R2):Prop :=
 ∀(value slice:Expr) (kb:List (Addr×Obj)) (s:Shared) (σ:St) (H:Hp) (x y:V) (v u:Value) (Q:VK),Inv X kb σ H s->RelV x v->RelV y u->r x y H Q->
  subscripted slice false v u=operate [v,u] (getItem v u)->wpAny (model X.prog X.w) X.A (subscriptTail value slice v u) (EP X kb σ Q) X.xe s
def T8(X:Cx)(id:String)(r:V->List V->Hp->VK->Prop):Prop :=
 ∀(kb:List (Addr×Obj)) (s:Shared) (σ:St) (H:Hp) (x:V) (xs:List V) (v:Value) (us:List Value) (Q:VK),Inv X kb σ H s->RelV x v->Vals xs us->r x xs H Q->
  wpAny (model X.prog X.w) X.A (call (.builtin id) (v::us)) (EP X kb σ Q) X.xe s
section
variable {X:Cx}{a b:Expr}{ta tb:TE}{pos:Pos}
theorem aH{r:R2}(hr:R1 X r)(ha:PE X a ta)(hb:PE X b tb)(hs:yW b):PE X (.Subscript a b pos) (Oe r ta tb):=by intro kb s σ H Q I h;exact Subscript_ (JL ha hb I h fun v u s2 x y H2 I2 rx ry q=>hr a b kb s2 σ H2 x y v u Q I2 rx ry q (hs _ _))
inductive JT(K:gt)(x:V)(y:V)(H:Hp)(Q:VK):Prop
 | mk (p xs i v) (_:x=.ref p) (_:y=.int i) (_:aR K H p xs) (_:lh xs i=some v) (_:Q v H)
inductive JU(K:gt)(x:V)(y:V)(H:Hp)(Q:VK):Prop
 | mk (p xs i v) (_:x=.ref p) (_:y=.int i) (_:bp K H p xs) (_:lh xs i=some v) (_:Q v H)
theorem aO:R1 X (JT X.K):=by
 intro value slice kb s σ H x y v u Q I rx ry h hs;obtain⟨p,xs,i,z,rfl,rfl,hq,he,q⟩:=h;cases rx;obtain⟨t,rfl⟩:=ry;obtain⟨its,r,pl,hz⟩:=I.list hq;obtain⟨j,h1,h2,h3,h4,h5⟩:=yV he;obtain⟨w,ew,AA⟩:=r.get h2;have hl:=r.length;have hn:=sG;have fin:EP X kb σ Q w s:=⟨z,H,I,AA,q⟩;by_cases h0:0<=i
 ·have hj:i.toNat=j:=by rw[seqIndex_of h0 h5]at h1;exact Option.some.inj h1
  exact item_listR pl.isList h0 (by omega) (by rw[hj];simpa using ew) fin hs
 ·have hj:(i+(its.toArray.size:Int)).toNat=j:=by rw[seqIndex_neg (by omega) h4]at h1;rw[ar,<-hl];exact Option.some.inj h1
  exact subscriptTail_builtinR (x:=w) pl.isList.typeIs slot_list_getitem.lookup
   (wpAny_getItem_list_neg (Q:=fun r s'=>r=w/\EP X kb σ Q r s') pl.isList (by omega) (by rw[ar]<;>omega) (by omega) (by rw[hj];simpa using ew) ⟨rfl,fin⟩) hs
theorem aX:R1 X (JU X.K):=by
 intro value slice kb s σ H x y v u Q I rx ry h hs;obtain⟨p,xs,i,z,rfl,rfl,hq,he,q⟩:=h;cases rx;obtain⟨t,rfl⟩:=ry;obtain⟨its,r,pl,hz⟩:=I.tuple hq;obtain⟨j,h1,h2,h3,h4,h5⟩:=yV he;obtain⟨w,ew,AA⟩:=r.get h2;have hl:=r.length;have hn:=sG;have fin:EP X kb σ Q w s:=⟨z,H,I,AA,q⟩;exact subscriptTail_builtinR (x:=w) pl.typeIs slot_tuple_getitem.lookup
  (getItem_tuple (j:=j) (Q:=fun r s'=>r=w/\EP X kb σ Q r s') pl (by omega) (by omega) (by rw[ar,<-hl];exact h1) (by simpa using ew) ⟨rfl,fin⟩) hs
theorem wR(its:List Value)(n j:Nat)(u:Value):Obj.mapSeq (·.setIfInBounds j u) {cls:=.type "list",data:=.seq its.toArray n}={cls:=.type "list",data:=.seq (its.set j u).toArray n}:=by simp[Obj.mapSeq]
theorem Inv.lst{kb:List (Addr×Obj)}{σ:St}{H:Hp}{s:Shared}{p:Addr}{xs:List V}(I:Inv X kb σ H s)(h:H p=some (.lst xs)):
  ∃(its:List Value) (n:Nat),Vals xs its/\s.heap.get? p=some {cls:=.type "list",data:=.seq its.toArray n}/\xs.length<=em:=by
 obtain⟨z,its,n,r,e⟩:=I.hok p _ h;exact⟨its,n,r,e,z⟩
theorem Inv.JV{kb:List (Addr×Obj)}{σ:St}{H:Hp}{s:Shared}{p:Addr}{xs ys:List V}{its its':List Value}{n n':Nat}{f:Obj->Obj}(I:Inv X kb σ H s)(h:H p=some (.lst xs))
  (ho:s.heap.get? p=some {cls:=.type "list",data:=.seq its.toArray n}) (hf:f {cls:=.type "list",data:=.seq its.toArray n}={cls:=.type "list",data:=.seq its'.toArray n'}) (r:Vals ys its') (hz:ys.length<=em) (t:Nat):
  Inv X kb σ (upd H p (.lst ys)) {s with heap:=s.heap.update p f,toks:=t}:=by
 have e:(s.heap.update p f).get? p=some {cls:=.type "list",data:=.seq its'.toArray n'}:=by rw[Heap.get?_update_self f ho (by rw[hf]<;>rfl),hf]
 refine I.write (x:=p) (e:=p) (by rw[h];trivial) (.inl rfl) (fun b u hb q=>(Heap.get?_update_other _ _ (Ne.symm hb)).trans q) ⟨_,e⟩ ?_;exact⟨hz,its',n',r,e⟩
inductive Ow(o:V)(i:V)(v:V)(H:Hp)(Q:(Hp->Prop)):Prop
 | mk (p xs k j) (_:o=.ref p) (_:i=.int k) (_:H p=some (.lst xs)) (_:uY xs.length k=some j) (_:Q (upd H p (.lst (xs.set j v))))
theorem set_list:N7 X Ow:=by
 intro kb s σ H o i v ov iv u Q I ro ri rv h;obtain⟨p,xs,k,j,rfl,rfl,hp,hj,q⟩:=h;cases ro;obtain⟨t,rfl⟩:=ri;obtain⟨its,n,r,ho,hz⟩:=I.lst hp;obtain⟨h1,h2,h3,h4⟩:=yU hj;have hl:=r.length;have hn:=sG;have I':Inv X kb σ (upd H p (.lst (xs.set j v))) {s with heap:=s.heap.update p (Obj.mapSeq (·.setIfInBounds j u))}:=
  I.JV hp ho (wR its n j u) (r.set rv j) (by rw[List.length_set];exact hz) s.toks
 by_cases h0:0<=k
 ·have hk:k.toNat=j:=by rw[seqIndex_of h0 h4]at h1;exact Option.some.inj h1
  exact PySem.W.ki_setAt ho h0 (by omega) (by rw[ar,<-hl];exact h4) (by rw[hk];exact⟨_,I',q⟩)
 ·have hk:(k+(its.toArray.size:Int)).toNat=j:=by rw[seqIndex_neg (by omega) h3]at h1;rw[ar,<-hl];exact Option.some.inj h1
  exact PySem.W.ki_setBack ho (by omega) (by rw[ar,<-hl];exact h3) (by omega) (by rw[hk];exact⟨_,I',q⟩)
theorem sN(lo hi:Option Int)(n:Nat):(sliceBounds lo hi none n).1=((HT.d9 n 0 lo:Nat):Int)/\(sliceBounds lo hi none n).2.1=((HT.d9 n n hi:Nat):Int)/\(sliceBounds lo hi none n).2.2=1:=by
 refine⟨?_,?_,rfl⟩
 ·cases lo with
  | none=>simp[sliceBounds,HT.d9]
  | some i=>
   simp only[sliceBounds,HT.d9,Option.getD_none,show(1:Int)>0 by decide,if_true];by_cases h:i<0
   ·simp only[h,if_true]<;>omega
   ·simp only[h,if_false]<;>omega
 ·cases hi with
  | none=>simp[sliceBounds,HT.d9]
  | some i=>
   simp only[sliceBounds,HT.d9,Option.getD_none,show(1:Int)>0 by decide,if_true];by_cases h:i<0
   ·simp only[h,if_true]<;>omega
   ·simp only[h,if_false]<;>omega
theorem qL(its:List Value)(lo hi:Option Int):slicePick its.toArray lo hi none=((its.drop (HT.d9 its.length 0 lo)).take (HT.d9 its.length its.length hi-HT.d9 its.length 0 lo)).toArray:=by obtain⟨h1,h2,h3⟩:=sN lo hi its.toArray.size;unfold slicePick;rw[h1,h2,h3];simp only[sliceRange_one,pick_run,ar]<;>rfl
inductive Ua(K:gt)(x:V)(lo:Option Int)(hi:Option Int)(H:Hp)(Q:VK):Prop
 | mk (a xs) (_:x=.ref a) (_:aR K H a xs) (_:∀p,H p=none->Q (.ref p) (upd H p (.lst (qK xs lo hi))))
theorem yX:T5 X (Ua X.K):=by intro kb s σ H x v vl vu lo hi sl Q I rx hs pl pu h;obtain⟨a,xs,rfl,hx,q⟩:=h;cases rx;obtain⟨its,r,ht,hz⟩:=I.list hx;have hlen:=r.length;refine⟨"list",_,slot_list_getitem.lookup,ht.isList.typeIs,?_⟩;refine wpAny_getItem_list_slice ht.isList hs pl pu .none (by simp) ?_ (by rw[ar]<;>omega);rw[qL,<-hlen];refine⟨.ref s.heap.objs.size,_,I.laid (t':=s.toks) (o:=.lst (qK xs lo hi)) (fun b ob q=>fg _ q) (ki _) ?_,rfl,q _ (I.hok.fresh (ki _))⟩;exact⟨li (mn xs lo hi) hz,_,0,(r.drop (HT.d9 xs.length 0 lo)).take (HT.d9 xs.length xs.length hi-HT.d9 xs.length 0 lo),fm _ rfl⟩
def jA:V->Bool
 | .non=>true
 | .bl _=>true
 | .int _=>true
 | .str _=>true
 | _=>false
def Iv:V->V->Bool
 | .non,.non=>true
 | .bl a,.bl b=>a==b
 | .bl a,.int b=>(if a then 1 else 0)==b
 | .int a,.bl b=>a==(if b then 1 else 0)
 | .int a,.int b=>a==b
 | .str a,.str b=>a==b
 | _,_=>false
theorem JW{A:Around}{s:Shared}{y x:V}{u v:Value}(ry:RelV y u)(rx:RelV x v)(fy:jA y=true)(fx:jA x=true):SeqAt.EqAt A s u v (Iv y x):=by
 cases y with
 | non=>
  cases ry;cases x with
  | non=>cases rx;exact SeqAt.EqAt.same _
  | bl b=>cases rx;exact SeqAt.EqAt.none_bool b
  | int b=>obtain⟨t,rfl⟩:=rx;exact SeqAt.EqAt.none_int b t
  | str b=>obtain⟨t,rfl⟩:=rx;exact SeqAt.EqAt.none_str b t
  | _=>exact absurd (show false=true from fx) lm
 | bl a=>
  cases ry;cases x with
  | non=>cases rx;exact SeqAt.EqAt.bool_none a
  | bl b=>cases rx;exact SeqAt.EqAt.bool_bool a b
  | int b=>obtain⟨t,rfl⟩:=rx;exact SeqAt.EqAt.bool_int a b t
  | str b=>obtain⟨t,rfl⟩:=rx;exact SeqAt.EqAt.bool_str a b t
  | _=>exact absurd (show false=true from fx) lm
 | int a=>
  obtain⟨t',rfl⟩:=ry;cases x with
  | non=>cases rx;exact SeqAt.EqAt.int_none a t'
  | bl b=>cases rx;exact SeqAt.EqAt.int_bool a t' b
  | int b=>obtain⟨t,rfl⟩:=rx;exact SeqAt.EqAt.int_int a t' b t
  | str b=>obtain⟨t,rfl⟩:=rx;exact SeqAt.EqAt.int_str a t' b t
  | _=>exact absurd (show false=true from fx) lm
 | str a=>
  obtain⟨t',rfl⟩:=ry;cases x with
  | non=>cases rx;exact SeqAt.EqAt.str_none a t'
  | bl b=>cases rx;exact SeqAt.EqAt.str_bool a t' b
  | int b=>obtain⟨t,rfl⟩:=rx;exact SeqAt.EqAt.str_int a t' b t
  | str b=>obtain⟨t,rfl⟩:=rx;exact SeqAt.EqAt.str_str a t' b t
  | _=>exact absurd (show false=true from fx) lm
 | _=>exact absurd (show false=true from fy) lm
def sO(x:V)(u:Value):Bool:=match u with
 | .none=>Iv .non x
 | .bool b=>Iv (.bl b) x
 | .int i _=>Iv (.int i) x
 | .str z _=>Iv (.str z) x
 | _=>false
theorem sP{x y:V}{u:Value}(r:RelV y u)(f:jA y=true):sO x u=Iv y x:=by
 cases y with
 | non=>cases r;rfl
 | bl b=>cases r;rfl
 | int i=>obtain⟨t,rfl⟩:=r;rfl
 | str z=>obtain⟨t,rfl⟩:=r;rfl
 | _=>exact absurd (show false=true from f) lm
theorem j4{x:V}:∀{xs:List V} {us:List Value},Vals xs us->xs.all jA=true->us.any (sO x)=xs.any fun y=>Iv y x
 | _,_,.nil,_=>rfl
 | y::xs,u::us,.cons r t,f=>by rw[List.all_cons,Bool.and_eq_true]at f;rw[List.any_cons,List.any_cons,sP r f.1,j4 t f.2]
theorem gP{A:Around}{s:Shared}{x:V}{v:Value}(rx:RelV x v)(fx:jA x=true):∀{xs:List V} {us:List Value},Vals xs us->xs.all jA=true->∀u∈us,SeqAt.EqAt A s u v (sO x u)
 | _,_,.nil,_=>fun u hu=>by cases hu
 | y::xs,u::us,.cons r t,f=>fun u' hu=>by
  rw[List.all_cons,Bool.and_eq_true]at f;rcases List.mem_cons.mp hu with rfl | hu
  ·rw[sP r f.1];exact JW r rx f.1 fx
  ·exact gP rx fx t f.2 u' hu
def inV(x:V)(xs:List V):Bool:=xs.any fun y=>Iv y x
inductive Ox(K:gt)(neg:Bool)(x:V)(y:V)(H:Hp)(Q:VK):Prop
 | mk (p xs) (_:y=.ref p) (_:(aR K H p xs\/bp K H p xs)) (_:jA x=true) (_:xs.all jA=true) (_:Q (.bl (if neg then !inV x xs else inV x xs)) H)
theorem bQ:jG X (compareOp .In) (Ox X.K false):=by
 intro kb s σ H x y v u Q I rx ry h;obtain⟨p,xs,rfl,hq,fx,fs,q⟩:=h;cases ry;rcases hq with hq | hq
 ·obtain⟨its,r,pl,hz⟩:=I.list hq;refine SeqAt.in_listAt (sO x) pl.isList (fun w hw=>gP rx fx r fs w (by simpa using hw)) ⟨.bl _,H,I,rfl,?_⟩;rw[show its.toArray.any (sO x)=its.any (sO x) by simp,j4 r fs];exact q
 ·obtain⟨its,r,pl,hz⟩:=I.tuple hq;refine SeqAt.in_tupleAt (sO x) pl (fun w hw=>gP rx fx r fs w (by simpa using hw)) ⟨.bl _,H,I,rfl,?_⟩;rw[show its.toArray.any (sO x)=its.any (sO x) by simp,j4 r fs];exact q
theorem ip:jG X (compareOp .NotIn) (Ox X.K true):=by
 intro kb s σ H x y v u Q I rx ry h;obtain⟨p,xs,rfl,hq,fx,fs,q⟩:=h;cases ry;rcases hq with hq | hq
 ·obtain⟨its,r,pl,hz⟩:=I.list hq;refine SeqAt.notIn_listAt (sO x) pl.isList (fun w hw=>gP rx fx r fs w (by simpa using hw)) ⟨.bl _,H,I,rfl,?_⟩;rw[show its.toArray.any (sO x)=its.any (sO x) by simp,j4 r fs];exact q
 ·obtain⟨its,r,pl,hz⟩:=I.tuple hq;refine SeqAt.notIn_tupleAt (sO x) pl (fun w hw=>gP rx fx r fs w (by simpa using hw)) ⟨.bl _,H,I,rfl,?_⟩;rw[show its.toArray.any (sO x)=its.any (sO x) by simp,j4 r fs];exact q
inductive iW(K:gt)(xs:List V)(H:Hp)(Q:VK):Prop
 | mk (p ys) (_:xs=[.ref p]) (_:(aR K H p ys\/bp K H p ys)) (_:Q (.int ys.length) H)
theorem aK:eL X (.builtin "len") (iW X.K):=by
 intro kb s σ H xs us Q I r h;obtain⟨p,ys,rfl,hq,q⟩:=h;obtain⟨u,rfl,rx⟩:=vals1 r;cases rx;have hn:=sG;rcases hq with hq | hq
 ·obtain⟨its,r',pl,hz⟩:=I.list hq;have hlen:=r'.length;exact Calls.call_len_list pl.isList (by simp only[ar]<;>omega) ⟨.int ys.length,H,I.tok _,⟨s.toks+1,by rw[ar,hlen]⟩,q⟩
 ·obtain⟨its,r',pl,hz⟩:=I.tuple hq;have hlen:=r'.length;exact len_tuple pl (by simp only[ar]<;>omega) ⟨.int ys.length,H,I.tok _,⟨s.toks+1,by rw[ar,hlen]⟩,q⟩
inductive oX(K:gt)(xs:List V)(H:Hp)(Q:VK):Prop
 | mk (p ys) (_:xs=[.ref p]) (_:(aR K H p ys\/bp K H p ys)) (_:∀l,H l=none->Q (.ref l) (upd H l (.lst ys)))
theorem cD:eL X (.type "list") (oX X.K):=by
 intro kb s σ H xs us Q I r h;obtain⟨p,ys,rfl,hq,q⟩:=h;obtain⟨u,rfl,rx⟩:=vals1 r;cases rx;have fin:∀(its:List Value),Vals ys its->ys.length<=em->∀(h':Heap) (c':Nat),(∀b o',s.heap.get? b=some o'->h'.get? b=some o')->
   h'.get? s.heap.objs.size=some {cls:=.type "list",dict:=none,data:=.seq its.toArray c',slots:=#[]}->EP X kb σ Q (.ref s.heap.objs.size) {s with heap:=h'}:=fun its r' hz h' c' kp e=>
  ⟨.ref s.heap.objs.size,_,I.laid (t':=s.toks) kp (ki _) (show bJ X.prog X.w _ h' _ (.lst ys)from⟨hz,its,c',r',e⟩),rfl,q _ (I.hok.fresh (ki _))⟩
 rcases hq with hq | hq
 ·obtain⟨its,r',pl,hz⟩:=I.list hq;have hlen:=r'.length;obtain⟨o,ho,hc,n,hd⟩:=pl.isList;exact call_list_seq p (.inl rfl) ho hc hd (fun h' c' kp e=>fin its r' hz h' c' kp e) (by simp only[ar]<;>omega)
 ·obtain⟨its,r',pl,hz⟩:=I.tuple hq;have hlen:=r'.length;obtain⟨o,ho,hc,n,hd⟩:=pl;exact call_list_seq p (.inr rfl) ho hc hd (fun h' c' kp e=>fin its r' hz h' c' kp e) (by simp only[ar]<;>omega)
inductive mX(K:gt)(xs:List V)(H:Hp)(Q:VK):Prop
 | mk (p ys) (_:xs=[.ref p]) (_:((aR K H p ys/\∀l,H l=none->Q (.ref l) (upd H l (.tup ys)))\/(bp K H p ys/\Q (.ref p) H)))
theorem eC:eL X (.type "tuple") (mX X.K):=by
 intro kb s σ H xs us Q I r h;obtain⟨p,ys,rfl,h⟩:=h;obtain⟨u,rfl,rx⟩:=vals1 r;cases rx;rcases h with ⟨hq,q⟩ | ⟨hq,q⟩
 ·obtain⟨its,r',pl,hz⟩:=I.list hq;have hlen:=r'.length;refine call_tuple_list pl.isList (fun h' kp=>?_) (by simp only[ar]<;>omega);have I1:Inv X kb σ H {s with heap:=h'}:=I.kept (t':=s.toks) kp;have I2:Inv X kb σ (upd H h'.objs.size (.tup ys)) {s with heap:=h'.push {cls:=.type "tuple",data:=.seq its.toArray}}:=
   I1.laid (t':=s.toks) (fun b o e=>fg _ e) (ki _) (show bJ X.prog X.w _ _ _ (.tup ys)from⟨hz,its,r',IsTup.new _ _⟩)
  exact⟨.ref h'.objs.size,_,I2,rfl,q _ (I1.hok.fresh (ki _))⟩
 ·obtain⟨its,r',pl,hz⟩:=I.tuple hq;exact call_tuple_same pl ⟨.ref p,H,I,rfl,q⟩
def Ub(K:gt)(T:String)(x:V)(H:Hp):Prop:=match x with
 | .str _=>T ="str"
 | .int _=>T ="int"
 | .ref p=>(T ="list"/\∃xs,aR K H p xs)\/(T ="tuple"/\∃o,K.lookup p=some o/\o.cls=.type "tuple"/\o.dict=none)\/
   (T ="dict"/\((∃kvs,H p=some (.dK kvs))\/∃kvs,H p=some (.dT kvs)))\/(T ="set"/\∃S n,H p=some (.set S n))
 | _=>False
theorem CI{kb:List (Addr×Obj)}{σ:St}{H:Hp}{s:Shared}{T:String}{x:V}{v:Value}(I:Inv X kb σ H s)(r:RelV x v)(ty:Ub X.K T x H):
  s.TypeIs v T/\∀a,v=.ref a->∃ob,s.heap.get? a=some ob/\ob.dict=none:=by
 cases x with
 | str z=>
  obtain⟨t,rfl⟩:=r;cases (show T ="str"from ty);exact⟨typeIs_str s z t,fun _ e=>nomatch e⟩
 | int i=>
  obtain⟨t,rfl⟩:=r;cases (show T ="int"from ty);exact⟨typeIs_int s i t,fun _ e=>nomatch e⟩
 | ref p=>
  cases r;rcases ty with ⟨rfl,xs,hq⟩ | ⟨rfl,o,hk,hc,hd⟩ | ⟨rfl,hk⟩ | ⟨rfl,S,n,hk⟩
  ·obtain⟨its,_,pl,_⟩:=I.list hq;refine⟨pl.isList.typeIs,fun a e=>?_⟩;cases e;obtain⟨o,n,e,c,hd,_⟩:=pl;exact⟨o,e,hd⟩
  ·refine⟨⟨o,I.jX p o hk,hc⟩,fun a e=>?_⟩;cases e;exact⟨o,I.jX _ o hk,hd⟩
  ·have z:∃o,s.heap.get? p=some o/\o.ExactDict:=by
    rcases hk with ⟨kvs,hk⟩ | ⟨kvs,hk⟩
    ·obtain⟨_,_,_,_,o,_,_,e,ex,_⟩:=I.hok p _ hk;exact⟨o,e,ex⟩
    ·obtain⟨_,_,_,_,o,_,_,e,ex,_⟩:=I.hok p _ hk;exact⟨o,e,ex⟩
   obtain⟨o,e,ex⟩:=z;refine⟨⟨o,e,ex.1⟩,fun a e2=>?_⟩;cases e2;exact⟨o,e,ex.2.1⟩
  ·obtain⟨o,_,_,_,e,ex,_⟩:=I.hok p _ hk;refine⟨⟨o,e,ex.1⟩,fun a e2=>?_⟩;cases e2;exact⟨o,e,ex.2.1⟩
 | _=>exact False.elim ty
def Uc(K:gt)(T:String)(r:V->List V->Hp->VK->Prop)(to:TE):TE:=fun σ H Q=>to σ H fun x H1=>Ub K T x H1/\r x [] H1 Q
def YH(K:gt)(T:String)(r:V->List V->Hp->VK->Prop)(to:TE)(t:TA):TE:=fun σ H Q=>to σ H fun x H1=>Ub K T x H1/\t σ H1 fun xs H2=>r x xs H2 Q
variable {o e:Expr}{es:List Expr}{to:TE}{t:TA}{name:Str}{apos cpos:Pos}{T id:String}{r:V->List V->Hp->VK->Prop}
theorem wU(pa:PlainAttrs T)(slot:Slot T name id)(hty:typeOf (.builtin id)=pure (.type "method_descriptor"))(hm:T8 X id r)(ho:PE X o to)
  (hbase:attributeBase o name X.env (eval o X.env)=eval o X.env:=by rfl) (hline:(apos.endLine==cpos.line)=true:=by rfl):PE X (.Call (.Attribute o name apos) [] [] cpos) (Uc X.K T r to):=by
 intro kb s σ H Q I h;refine wpAny_Call_method0_late hbase hline (cz (ho kb s σ H _ I h) fun v s1 ⟨x,H1,I1,r1,ty,q1⟩=>?_);obtain⟨h1,h2⟩:=CI I1 r1 ty;exact⟨T,id,pa,slot,hty,h1,h2,Calls.callWith_builtin rfl (PySem.evalArgs_none (hm kb s1 σ H1 x [] v [] Q I1 r1 .nil q1))⟩
theorem iX(pa:PlainAttrs T)(slot:Slot T name id)(hty:typeOf (.builtin id)=pure (.type "method_descriptor"))(hm:T8 X id r)(ho:PE X o to)(ha:PA X (e::es) t)
  (hbase:attributeBase o name X.env (eval o X.env)=eval o X.env:=by rfl)
  (hfew:((backTo cpos (starEach (e::es) X.env)).all (fun x=>!x.1)&&(backToKw cpos (keywordEach [] X.env)).all (fun x=>x.1.isSome)
   &&decide ((e::es).length+([]:List Keyword).length+(if ([]:List Keyword).isEmpty then 0 else 1)<30))=true:=by rfl)
  (hline:(apos.endLine==cpos.line)=true:=by rfl) (hs:starEach (e::es) X.env=(false,eval e X.env)::starEach es X.env:=by rfl) (hplain:(backTo cpos (starEach es X.env)).any (·.1)=false:=by rfl):
  PE X (.Call (.Attribute o name apos) (e::es) [] cpos) (YH X.K T r to t):=by
 intro kb s σ H Q I h;refine wpAny_Call_method_late hbase hfew hline rfl (cz (ho kb s σ H _ I h) fun v s1 ⟨x,H1,I1,r1,ty,q1⟩=>?_);obtain⟨h1,h2⟩:=CI I1 r1 ty;refine⟨T,id,pa,slot,hty,h1,h2,?_⟩;have hA:=ha cpos kb s1 σ H1 _ I1 q1;rw[hs]at hA ⊢;refine Calls.callWith_builtin (by show(false||(backTo cpos (starEach es X.env)).any (·.1))=false;rw[hplain]<;>rfl) (Calls.evalArgs_plain ?_);exact cz hA fun us s2 ⟨vs,H2,I2,r2,q2⟩=>hm kb s2 σ H2 x vs v us Q I2 r1 r2 q2
end
def Np(X:Cx)(id:String)(r:V->List V->Hp->VK->Prop):Prop :=
 ∀(kb:List (Addr×Obj)) (s:Shared) (σ:St) (H:Hp) (x:V) (xs:List V) (v:Value) (us:List Value) (Q:VK),Inv X kb σ H s->RelV x v->Vals xs us->r x xs H Q->
  wpAny (model X.prog X.w) X.A (call (.builtin id) (v::us)) (EP X kb σ Q) X.xe s
theorem Vals.one:∀{x:V} {us:List Value},Vals [x] us->∃u,us=[u]/\RelV x u
 | _,_,.cons r .nil=>⟨_,rfl,r⟩
theorem Vals.two:∀{x y:V} {us:List Value},Vals [x,y] us->∃u v,us=[u,v]/\RelV x u/\RelV y v
 | _,_,_,.cons r (.cons q .nil)=>⟨_,_,rfl,r,q⟩
theorem Vals.zero:∀{us:List Value},Vals [] us->us=[]
 | _,.nil=>rfl
theorem Vals.dropLast{xs:List V}{us:List Value}(h:Vals xs us):Vals xs.dropLast us.dropLast:=by
 induction h with
 | nil=>exact .nil
 | cons r t ih=>
  cases t with
  | nil=>exact .nil
  | cons q t'=>exact .cons r ih
theorem Vals.rep{xs:List V}{us:List Value}(h:Vals xs us):∀k:Nat,Vals (List.replicate k xs).flatten (List.replicate k us).flatten
 | 0=>.nil
 | k+1=>by rw[List.replicate_succ,List.replicate_succ,List.flatten_cons,List.flatten_cons];exact Vals.append h (Vals.rep h k)
theorem wV{α:Type}(l:List α):l.eraseIdx (l.length-1)=l.dropLast:=by
 induction l with
 | nil=>rfl
 | cons a r ih=>
  cases r with
  | nil=>rfl
  | cons b r=>
   have e:(a::b::r).length-1=((b::r).length-1)+1:=by have h1:(a::b::r).length=r.length+2:=rfl;have h2:(b::r).length=r.length+1:=rfl;omega
   rw[e,List.eraseIdx_cons_succ,ih]
   all_goals rfl
theorem foldl_rep(its:List Value):∀(k:Nat) (acc:List Value),
  List.foldl (fun x1 x2=>x1++x2) acc.toArray (List.replicate k its.toArray)=(acc++(List.replicate k its).flatten).toArray
 | 0,acc=>by simp
 | k+1,acc=>by
  have e:acc.toArray++its.toArray=(acc++its).toArray:=by simp
  have e2:(acc++its)++(List.replicate k its).flatten=acc++(List.replicate (k+1) its).flatten:=by rw[List.replicate_succ,List.flatten_cons,List.append_assoc]
  rw[<-e2,<-foldl_rep its k (acc++its),<-e,List.replicate_succ,List.foldl_cons]
section
variable {X:Cx}{kb:List (Addr×Obj)}{σ:St}{H:Hp}{s:Shared}{l b:Addr}{xs ys zs:List V}
theorem Inv.CJ{its its':List Value}{n:Nat}{f:Array Value->Array Value}{t':Nat}(I:Inv X kb σ H s)(hH:H l=some (.lst xs))
  (e:s.heap.get? l=some {cls:=.type "list",data:=.seq its.toArray n}) (hf:f its.toArray=its'.toArray) (hv:Vals ys its') (hz:ys.length<=em):
  Inv X kb σ (upd H l (.lst ys)) {s with heap:=s.heap.update l (Obj.mapSeq f),toks:=t'}:=by
 have q:=PySem.IsL.update e f;rw[hf]at q;refine I.write (x:=l) (e:=l) (by rw[hH];exact trivial) (.inl rfl) (fun b' u hb hu=>(Heap.get?_update_other s.heap (Obj.mapSeq f) (Ne.symm hb)).trans hu) ⟨_,q⟩ ?_;exact⟨hz,its',_,hv,q⟩
theorem Inv.JX{its:List Value}{t':Nat}(I:Inv X kb σ H s)(hv:Vals ys its)(hz:ys.length<=em):
  Inv X kb σ (upd H s.heap.objs.size (.lst ys)) {s with heap:=s.heap.push {cls:=.type "list",data:=.seq its.toArray},toks:=t'}:=
 I.laid (fun _ _ q=>fg _ q) (ki _) ⟨hz,its,0,hv,fm _ rfl⟩
theorem Inv.fresh(I:Inv X kb σ H s):H s.heap.objs.size=none:=I.hok.fresh (ki _)
theorem Inv.qM(I:Inv X kb σ H s)(hH:H l=some (.lst xs)):xs.length<=em/\∃(its:List Value) (n:Nat),Vals xs its/\xs.length=its.length/\s.heap.get? l=some {cls:=.type "list",data:=.seq its.toArray n}:=by obtain⟨z,its,n,r,e⟩:=I.hok l _ hH;exact⟨z,its,n,r,r.length,e⟩
theorem uZ{n:Nat}(h:n<=em):Builtin.List.listTooLong n=false:=by unfold Builtin.List.listTooLong;exact decide_eq_false (by omega)
inductive FQ(x:V)(vs:List V)(H:Hp)(Q:VK):Prop
 | mk (l xs y) (_:x=.ref l) (_:vs=[y]) (_:H l=some (.lst xs)) (_:xs.length<em) (_:Q .non (upd H l (.lst (xs++ [y]))))
theorem eY:Np X "list.append" FQ:=by intro kb s σ H x vs v us Q I rx rv h;obtain⟨l,xs,y,rfl,rfl,hH,hz,q⟩:=h;cases rx;obtain⟨u,rfl,ru⟩:=rv.one;obtain⟨z,its,n,r,hl,e⟩:=I.qM hH;refine call_meets gf ⟨_,e,rfl⟩ F.entry_list_append (F.args_list_append_2 _ _) (PySem.list_append l its.toArray n u (by rw[ar];omega)) ⟨e,?_⟩;refine⟨.non,_,I.CJ (its':=its++ [u]) hH e (by simp) (r.append (.cons ru .nil)) ?_,rfl,q⟩;rw[av,List.length_singleton];omega
inductive FT(x:V)(vs:List V)(H:Hp)(Q:VK):Prop
 | mk (l b:Addr)(xs zs:List V) (_:x=.ref l) (_:vs=[.ref b]) (_:H l=some (.lst xs)) (_:H b=some (.lst zs)) (_:xs.length+zs.length<=em) (_:Q .non (upd H l (.lst (xs++zs))))
theorem jl:Np X "list.extend" FT:=by
 intro kb s σ H x vs v us Q I rx rv h;obtain⟨l,b,xs,zs,rfl,rfl,hH,hB,hz,q⟩:=h;cases rx;obtain⟨u,rfl,ru⟩:=rv.one;cases ru;obtain⟨z,its,n,r,hl,e⟩:=I.qM hH;obtain⟨z2,its2,n2,r2,hl2,e2⟩:=I.qM hB;have hsz:its.toArray.size+its2.toArray.size<=em:=by rw[ar,ar];omega
 have CK:¬(!its.toArray.isEmpty&&Builtin.List.listTooLong (its.toArray.size+its2.toArray.size))=true:=by rw[uZ hsz,Bool.and_false];exact lm
 refine call_meets F.slot_list_extend ⟨_,e,rfl⟩ F.entry_list_extend (F.args_list_extend_2 _ _)
  (AutoSeq1.list_extend_list_list_0 l its.toArray n b its2.toArray n2 CK (by rw[ar];omega) (by omega)) ⟨e,e2,?_⟩
 refine⟨.non,_,I.CJ (its':=its++its2) hH e (by simp) (r.append r2) ?_,rfl,q⟩;rw[av];omega
inductive Ud(x:V)(vs:List V)(H:Hp)(Q:VK):Prop
 | mk (l xs y) (_:x=.ref l) (_:vs=[]) (_:H l=some (.lst xs)) (_:xs[xs.length-1]? =some y) (_:Q y (upd H l (.lst xs.dropLast)))
theorem CL:Np X "list.pop" Ud:=by
 intro kb s σ H x vs v us Q I rx rv h;obtain⟨l,xs,y,rfl,rfl,hH,hy,q⟩:=h;cases rx;have hus:=rv.zero;subst hus;obtain⟨z,its,n,r,hl,e⟩:=I.qM hH;obtain⟨u,hu,ru⟩:=r.get hy;have hy':its.toArray[its.toArray.size-1]? =some u:=by show its.toArray[its.length-1]? =some u;rw[<-Array.getElem?_toList,<-hl];exact hu
 refine call_meets F.slot_list_pop ⟨_,e,rfl⟩ F.entry_list_pop (F.args_list_pop_1 _) (MeetsSeq.list_pop_last l its.toArray n u hy' (by rw[ar];omega)) ⟨e,?_⟩;refine⟨y,_,I.CJ (its':=its.dropLast) hH e ?_ r.dropLast ?_,ru,q⟩
 ·show its.toArray.eraseIdxIfInBounds (its.toArray.size-1)=its.dropLast.toArray;rw[ar,List.eraseIdxIfInBounds_toArray,wV]
 ·rw[List.length_dropLast];omega
inductive JY(x:V)(vs:List V)(H:Hp)(Q:VK):Prop
 | mk (l:Addr)(xs:List V) (_:x=.ref l) (_:vs=[]) (_:H l=some (.lst xs)) (_:Q .non (upd H l (.lst [])))
theorem CM:Np X "list.clear" JY:=by intro kb s σ H x vs v us Q I rx rv h;obtain⟨l,xs,rfl,rfl,hH,q⟩:=h;cases rx;have hus:=rv.zero;subst hus;obtain⟨z,its,n,r,hl,e⟩:=I.qM hH;refine call_meets F.slot_list_clear ⟨_,e,rfl⟩ F.entry_list_clear (F.args_list_clear_1 _) (AutoSeq1.list_clear_list_0 l its.toArray n (by rw[ar];omega)) ⟨e,?_⟩;exact⟨.non,_,I.CJ (its':=[]) (ys:=[]) hH e rfl .nil (Nat.zero_le _),rfl,q⟩
inductive Ue(x:V)(y:V)(H:Hp)(Q:VK):Prop
 | mk (l b:Addr)(xs zs:List V) (_:x=.ref l) (_:y=.ref b) (_:H l=some (.lst xs)) (_:H b=some (.lst zs)) (_:xs.length+zs.length<=em) (_:∀p,H p=none->Q (.ref p) (upd H p (.lst (xs++zs))))
theorem gj:jG X (binaryOp .Add) Ue:=by
 intro kb s σ H x y v u Q I rx ry h;obtain⟨l,b,xs,zs,rfl,rfl,hH,hB,hz,q⟩:=h;cases rx;cases ry;obtain⟨z,its,n,r,hl,e⟩:=I.qM hH;obtain⟨z2,its2,n2,r2,hl2,e2⟩:=I.qM hB;refine PySem.P.add_list e e2 ?_ (by rw[ar,ar];omega);have ea:its.toArray++its2.toArray=(its++its2).toArray:=by simp
 rw[ea];exact⟨.ref _,_,I.JX (t':=s.toks) (r.append r2) (by rw[av];omega),rfl,q _ I.fresh⟩
inductive Ug(x:V)(y:V)(H:Hp)(Q:VK):Prop
 | mk (l k xs) (_:x=.ref l) (_:y=.int k) (_:H l=some (.lst xs)) (_:-(2^63)<=k) (_:k<2^63) (_:xs.length*k.toNat<=em) (_:∀p,H p=none->Q (.ref p) (upd H p (.lst (List.replicate k.toNat xs).flatten)))
theorem len_rep{α:Type}(xs:List α)(k:Nat):(List.replicate k xs).flatten.length=k*xs.length:=by
 induction k with
 | zero=>simp
 | succ k ih=>rw[List.replicate_succ,List.flatten_cons,av,ih,Nat.succ_mul,Nat.add_comm]
theorem oY:jG X (binaryOp .Mult) Ug:=by
 intro kb s σ H x y v u Q I rx ry h;obtain⟨l,k,xs,rfl,rfl,hH,h1,h2,hz,q⟩:=h;cases rx;obtain⟨t,rfl⟩:=ry;obtain⟨z,its,n,r,hl,e⟩:=I.qM hH;have hlen:its.toArray.size*k.toNat<=em:=by rw[ar,<-hl];exact hz
 have hcap:¬its.toArray.size*k.toNat> (2^63-1)/8:=by
  have:(em:Nat)<=(2^63-1)/8:=by decide
  omega
 have hfit:¬(!Builtin.List.listFitsIndex k)=true:=by rw[fitsIndex_both h1 h2];exact lm
 have CK:¬Builtin.List.listTooLong (its.toArray.size*k.toNat)=true:=by rw[uZ hlen];exact lm
 have hnew:List.foldl (fun x1 x2=>x1++x2) #[] (List.replicate (if its.toArray.isEmpty=true then 0 else k.toNat) its.toArray)=(List.replicate k.toNat its).flatten.toArray:=by
  have f0:∀m:Nat,List.foldl (fun x1 x2=>x1++x2) #[] (List.replicate m its.toArray)=(List.replicate m its).flatten.toArray:=fun m=>by have:=foldl_rep its m [];rw[List.nil_append]at this;exact this
  rw[f0];cases its with
  | nil=>simp
  | cons a r'=>rw[if_neg (by simp)]
 refine wpAny_binaryOp_repeat_ref (T :="list") (U :="int") (by decide) ⟨_,e,rfl⟩ (fun s'=>typeIs_int s' k t) noFill_list_mul F.fills_int_mul F.slot_int_rmul repeat_list F.slot_int_index.lookup
  (call_meets F.slot_int_rmul (typeIs_int s k t) F.entry_int_rmul (F.args_int_rmul_2 _ _) (int___rmul___int_list k t l its.toArray n)
   ⟨e,rfl,⟨_,e,rfl⟩,call_meets F.slot_list_mul ⟨_,e,rfl⟩ F.entry_list_mul (F.args_list_mul_2 _ _) (AutoListH.list___mul___list_int_3 l its.toArray n k t hfit hcap CK) ⟨e,?_⟩⟩)
 rw[hnew];exact⟨.ref _,_,I.JX (t':=s.toks) (r.rep k.toNat) (by rw[len_rep,Nat.mul_comm];exact hz),rfl,q _ I.fresh⟩
variable {prog:Program}{w:World}{A:Around}{E:Value->Shared->Prop}
set_option maxRecDepth 100000 in
end
section
variable {κ:Type}[DecidableEq κ]
def cM(kvs:List (κ×V))(k:κ):Option V:=(kvs.find? fun kv=>decide (kv.1=k)).map (·.2)
def putK(kvs:List (κ×V))(k:κ)(v:V):List (κ×V):=
 if (kvs.any fun kv=>decide (kv.1=k))=true then kvs.map (fun kv=>if kv.1=k then (kv.1,v)else kv)else kvs++ [(k,v)]
theorem dB{p:κ×V}{r:List (κ×V)}{k:κ}(e:p.1=k):cM (p::r) k=some p.2:=by simp[cM,List.find?_cons,e]
theorem dC{p:κ×V}{r:List (κ×V)}{k:κ}(e:¬p.1=k):cM (p::r) k=cM r k:=by simp[cM,List.find?_cons,e]
theorem j5(k:κ):∀kvs:List (κ×V),(kvs.any fun kv=>decide (kv.1=k))=(cM kvs k).isSome
 | []=>rfl
 | p::r=>by
  rw[List.any_cons];by_cases e:p.1=k
  ·simp only[dB e,decide_eq_true e,Bool.true_or,Option.isSome_some]
  ·rw[dC e,decide_eq_false e,Bool.false_or];exact j5 k r
theorem u3(k j:κ)(y:V):∀kvs:List (κ×V),cM (kvs.map fun kv=>if kv.1=k then (kv.1,y)else kv) j=(cM kvs j).map fun x=>if j=k then y else x
 | []=>rfl
 | p::r=>by
  have ih:=u3 k j y r;rw[cp];by_cases h:p.1=k
  ·rw[if_pos h];by_cases e:p.1=j
   ·rw[dB (p:=(p.1,y)) e,dB e,Option.map_some,if_pos (e.symm.trans h)]
   ·rw[dC (p:=(p.1,y)) e,dC e,ih]
  ·rw[if_neg h];by_cases e:p.1=j
   ·rw[dB (p:=p) e,dB e,Option.map_some,if_neg (fun z=>h (e.trans z))]
   ·rw[dC (p:=p) e,dC e,ih]
theorem rW(k j:κ)(y:V):∀kvs:List (κ×V),cM kvs k=none->cM (kvs++ [(k,y)]) j=if j=k then some y else cM kvs j
 | [],_=>by
  by_cases e:k=j
  ·rw[if_pos e.symm];exact dB (p:=(k,y)) e
  ·rw[if_neg (fun z=>e z.symm)];exact dC (p:=(k,y)) e
 | p::r,hn=>by
  rw[List.cons_append];have hk:¬p.1=k:=fun z=>by rw[dB z]at hn;cases hn
  rw[dC hk]at hn;have ih:=rW k j y r hn;by_cases e:p.1=j
  ·rw[dB e,dB e,if_neg (fun z=>hk (e.trans z))]
  ·rw[dC e,dC e,ih]
theorem gQ(kvs:List (κ×V))(k j:κ)(y:V):cM (putK kvs k y) j=if j=k then some y else cM kvs j:=by
 unfold putK;by_cases a:(kvs.any fun kv=>decide (kv.1=k))=true
 ·rw[if_pos a,u3];rw[j5]at a;by_cases e:j=k
  ·obtain⟨x,hx⟩:=Option.isSome_iff_exists.mp a;rw[if_pos e,e,hx,Option.map_some,if_pos rfl]
  ·rw[if_neg e];cases cM kvs j with
   | none=>rfl
   | some x=>rw[Option.map_some,if_neg e]
 ·rw[if_neg a];refine rW k j y kvs ?_;rw[j5]at a;cases q:cM kvs k with
  | none=>rfl
  | some x=>rw[q]at a;exact(a rfl).elim
theorem cU(kvs:List (κ×V))(k:κ)(v:V):(putK kvs k v).length<=kvs.length+1:=by
 unfold putK;split
 ·rw[List.length_map];omega
 ·rw[av,ci,List.length_nil];omega
theorem gH.gR{o:Option V}{u:Option Value}(r:gH o u):o.isSome=u.isSome:=by
 cases o with
 | none=>cases u with
  | none=>rfl
  | some _=>exact(show False from r).elim
 | some _=>cases u with
  | none=>exact(show False from r).elim
  | some _=>rfl
theorem gH.getD{o:Option V}{u:Option Value}{d:V}{d':Value}(r:gH o u)(rd:RelV d d'):RelV (o.getD d) (u.getD d'):=by
 cases o with
 | none=>cases u with
  | none=>exact rd
  | some _=>exact(show False from r).elim
 | some _=>cases u with
  | none=>exact(show False from r).elim
  | some _=>exact r
theorem KV.val{kvs:List (κ×V)}{vs:List (κ×Value)}(r:KV kvs vs)(k:κ):gH (cM kvs k) (valueAt vs k):=by
 unfold KV at r
 induction r with
 | nil=>exact True.intro
 | @cons p q ps qs h t ih=>
  obtain⟨h1,h2⟩:=h;by_cases e:p.1=k
  ·have e':q.1=k:=h1.symm.trans e;have b:valueAt (q::qs) k=some q.2:=by simp[valueAt,List.find?_cons,e']
   rw[dB e,b];exact h2
  ·have e':¬q.1=k:=fun z=>e (h1.trans z);have b:valueAt (q::qs) k=valueAt qs k:=by simp[valueAt,List.find?_cons,e']
   rw[dC e,b];exact ih
theorem KV.any{kvs:List (κ×V)}{vs:List (κ×Value)}(r:KV kvs vs)(k:κ):(kvs.any fun kv=>decide (kv.1=k))=vs.any fun kv=>decide (kv.1=k):=by
 unfold KV at r
 induction r with
 | nil=>rfl
 | cons h t ih=>rw[List.any_cons,List.any_cons,ih,h.1]
theorem KV.repl{kvs:List (κ×V)}{vs:List (κ×Value)}(r:KV kvs vs)(k:κ){y:V}{u:Value}(ry:RelV y u):
  KV (kvs.map fun kv=>if kv.1=k then (kv.1,y)else kv) (vs.map fun kv=>if kv.1=k then (kv.1,u)else kv):=by
 unfold KV at r ⊢
 induction r with
 | nil=>exact .nil
 | @cons p q ps qs h t ih=>
  rw[cp,cp];refine .cons ?_ ih;obtain⟨h1,h2⟩:=h;by_cases e:p.1=k
  ·rw[if_pos e,if_pos (h1.symm.trans e)];exact⟨h1,ry⟩
  ·rw[if_neg e,if_neg (fun z=>e (h1.trans z))];exact⟨h1,h2⟩
theorem KV.put{kvs:List (κ×V)}{vs:List (κ×Value)}(r:KV kvs vs)(k:κ){y:V}{u:Value}(ry:RelV y u):KV (putK kvs k y) (stored vs k u):=by
 unfold putK stored;rw[r.any k];by_cases e:(vs.any fun kv=>decide (kv.1=k))=true
 ·rw[if_pos e,if_pos e];exact r.repl k ry
 ·rw[if_neg e,if_neg e];exact Paired.snoc r ⟨rfl,ry⟩
theorem KV.length{kvs:List (κ×V)}{vs:List (κ×Value)}(r:KV kvs vs):kvs.length=vs.length:=Paired.length r
end
theorem oZ{P:Program}{w:World}{k:Key}{u:Value}(r:RelV (kV k) u):(cQ P w).is k u=true:=by
 cases k with
 | inl i=>obtain⟨t,e⟩:=(show ∃t,u=Value.int i t from r);subst e;exact uP P w i t
 | inr x=>obtain⟨t,e⟩:=(show ∃t,u=Value.str x t from r);subst e;exact uQ P w x t
theorem rX{P:Program}{w:World}:∀{ks:List Key} {us:List Value},Vals (ks.map kV) us->ItemsAre (cQ P w) ks us
 | [],_,r=>by rw[List.map_nil]at r;cases r;exact .nil
 | k::ks,_,r=>by
  rw[cp]at r;cases r with
  | cons h t=>exact .cons (oZ h) (rX t)
abbrev KT(H:Hp):List (List Key×V)->List (List Key×Addr×Value)->Prop:=Paired fun p q=>p.1=q.1/\H q.2.1=some (.tup (p.1.map kV))/\RelV p.2 q.2.2
theorem KT.val{H:Hp}{kvs:List (List Key×V)}{xs:List (List Key×Addr×Value)}(r:KT H kvs xs)(k:List Key):gH (cM kvs k) ((atKey xs k).map (·.2)):=by
 induction r with
 | nil=>exact True.intro
 | @cons p q ps qs h t ih=>
  obtain⟨h1,_,h2⟩:=h;by_cases e:p.1=k
  ·have e':q.1=k:=h1.symm.trans e;have b:atKey (q::qs) k=some q.2:=by simp[atKey,List.find?_cons,e']
   rw[dB e,b];exact h2
  ·have e':¬q.1=k:=fun z=>e (h1.trans z);have b:atKey (q::qs) k=atKey qs k:=by simp[atKey,List.find?_cons,e']
   rw[dC e,b];exact ih
theorem KT.repl{H:Hp}{kvs:List (List Key×V)}{xs:List (List Key×Addr×Value)}(r:KT H kvs xs)(k:List Key){y:V}{u:Value}(ry:RelV y u):
  KT H (kvs.map fun kv=>if kv.1=k then (kv.1,y)else kv) (xs.map (putAt k u)):=by
 induction r with
 | nil=>exact .nil
 | @cons p q ps qs h t ih=>
  rw[cp,cp];refine .cons ?_ ih;obtain⟨h1,h2,h3⟩:=h;unfold putAt;by_cases e:p.1=k
  ·rw[if_pos e,if_pos (h1.symm.trans e)];exact⟨h1,h2,ry⟩
  ·rw[if_neg e,if_neg (fun z=>e (h1.trans z))];exact⟨h1,h2,h3⟩
theorem KT.put{H:Hp}{kvs:List (List Key×V)}{xs:List (List Key×Addr×Value)}(r:KT H kvs xs)(k:List Key){b:Addr}{y:V}{u:Value}(hb:H b=some (.tup (k.map kV)))(ry:RelV y u):
  KT H (putK kvs k y) (storedH xs k b u):=by
 have e:(kvs.any fun kv=>decide (kv.1=k))=(atKey xs k).isSome:=by rw[j5,(r.val k).gR,Option.isSome_map]
 unfold putK storedH;rw[e];by_cases q:(atKey xs k).isSome=true
 ·rw[if_pos q,if_pos q];exact r.repl k ry
 ·rw[if_neg q,if_neg q];exact Paired.snoc r ⟨rfl,hb,ry⟩
theorem KT.keeps{H H':Hp}{kvs:List (List Key×V)}{xs:List (List Key×Addr×Value)}(r:KT H kvs xs)(ht:∀b ys,H b=some (.tup ys)->H' b=some (.tup ys)):KT H' kvs xs :=
 Paired.JF r fun _ _ z=>⟨z.1,ht _ _ z.2.1,z.2.2⟩
section
variable {P:Program}{w:World}{H:Hp}{h:Heap}{a:Addr}
theorem Iw{u:HO}(ok:ji P w H h)(e:Rd H a u):bJ P w H h a u:=e.ok ok
theorem j6{kvs:List (Key×V)}(ok:ji P w H h)(e:Rd H a (.dK kvs)):kvs.length<=em/\(a==sysModules)=false/\∃vs,KV kvs vs/\h.DictOf (cQ P w) a vs :=
 show bJ P w H h a (.dK kvs)from Iw ok e
theorem Iy{kvs:List (Key×V)}(ok:ji P w H h)(e:H a=some (.dK kvs)):kvs.length<=em/\(a==sysModules)=false/\∃vs,KV kvs vs/\h.DictOf (cQ P w) a vs:=j6 ok (.inl e)
theorem ly{ks:List Key}(ok:ji P w H h)(e:H a=some (.tup (ks.map kV))):(tupleKind (cQ P w)).is h ks a:=by obtain⟨_,its,r,o,h1,h2,n,h3⟩:=(show bJ P w H h a (.tup (ks.map kV))from ok a _ e);exact⟨o,its.toArray,n,h1,h2,h3,by simpa using rX r⟩
theorem o6{kvs:List (List Key×V)}(ok:ji P w H h)(e:Rd H a (.dT kvs)):kvs.length<=em/\(a==sysModules)=false/\
  ∃xs,KT H kvs xs/\h.DictOfH (tupleKind (cQ P w)) a xs:=by
 obtain⟨z,y,xs,r,o,es,ep,h1,h2,h3,h4,h5⟩:=(show bJ P w H h a (.dT kvs)from Iw ok e);refine⟨z,y,xs,r,o,es,ep,h1,h2,h3,h4,fun x hx=>?_,h5⟩;have all:∀{l:List (List Key×V)} {m:List (List Key×Addr×Value)},KT H l m->∀x∈m,(tupleKind (cQ P w)).is h x.1 x.2.1:=by
  intro l m q
  induction q with
  | nil=>intro x hx;exact nomatch hx
  | @cons p q ps qs hq t ih=>
   intro x hx;rcases List.mem_cons.mp hx with e | hx
   ·subst e;exact ly ok (by rw[<-hq.1];exact hq.2.1)
   ·exact ih x hx
 exact all r x hx
theorem Oy{kvs:List (List Key×V)}(ok:ji P w H h)(e:H a=some (.dT kvs)):kvs.length<=em/\(a==sysModules)=false/\
  ∃xs,KT H kvs xs/\h.DictOfH (tupleKind (cQ P w)) a xs:=o6 ok (.inl e)
def dP(H:Hp)(a:Addr)(y:V)(r:Option V):Prop :=
 (∃kvs k,Rd H a (.dK kvs)/\y=kV k/\r=cM kvs k)\/∃kvs k b,Rd H a (.dT kvs)/\y=.ref b/\H b=some (.tup (k.map kV))/\r=cM kvs k
def lA(H:Hp)(a:Addr)(y v:V)(H':Hp):Prop :=
 (∃kvs k,H a=some (.dK kvs)/\y=kV k/\kvs.length<em/\H'=upd H a (.dK (putK kvs k v)))\/
 ∃kvs k b,H a=some (.dT kvs)/\y=.ref b/\H b=some (.tup (k.map kV))/\kvs.length<em/\H'=upd H a (.dT (putK kvs k v))
theorem dP.k{H:Hp}{a:Addr}{kvs:List (Key×V)}{k:Key}(e:H a=some (.dK kvs)):dP H a (kV k) (cM kvs k):=.inl ⟨kvs,k,.inl e,rfl,rfl⟩
theorem lA.k{H:Hp}{a:Addr}{kvs:List (Key×V)}{k:Key}{v:V}(e:H a=some (.dK kvs))(hl:kvs.length<em):lA H a (kV k) v (upd H a (.dK (putK kvs k v))):=.inl ⟨kvs,k,e,rfl,hl,rfl⟩
variable {X:Cx}{kb:List (Addr×Obj)}{σ:St}{s:Shared}{y v:V}{u r:Value}{o:Option V}{A:Around}{E:Value->Shared->Prop}
theorem Inv.big(I:Inv X kb σ H s):sysModules<s.heap.objs.size:=by have h:eh<s.heap.objs.size:=(I.mod.glob.keeps I.bk).lt;exact Nat.lt_trans (by decide) h
theorem AB{Q:Value->Shared->Prop}(hu:A.units+1<cLine)(I:Inv X kb σ H s)(g:dP H a y (some v))(ry:RelV y u)(h:∀w' s',Inv X kb σ H s'->RelV v w'->Q w' s'):
  wpAny (model X.prog X.w) A (getItem (.ref a) u) Q E s:=by
 rcases g with ⟨kvs,k,e,ey,l⟩ | ⟨kvs,k,b,e,ey,eb,l⟩
 ·subst ey;obtain⟨z,hd,vs,rel,dd⟩:=j6 I.hok e;obtain⟨w',hw,AA⟩:=gH.some_of (v:=v) (o:=valueAt vs k) (by rw[l];exact rel.val k);exact wpAny_getItem_of (oZ ry) dd.mapOf hw (h w' _ (I.tok _) AA)
 ·subst ey;cases (show u=Value.ref b from ry);obtain⟨z,hd,xs,rel,dd⟩:=o6 I.hok e;obtain⟨w',hw,AA⟩:=gH.some_of (v:=v) (o:=(atKey xs k).map (·.2)) (by rw[l];exact rel.val k);obtain⟨p,hp,hp2⟩:=Option.map_eq_some_iff.mp hw;refine wpAny_getItem_heap (tupleKind_room_in1 hu) (ly I.hok eb) dd hp ?_;rw[hp2];exact h w' _ (I.tok _) AA
theorem Uh{Q:Value->Shared->Prop}(hu:A.units+1<cLine)(I:Inv X kb σ H s)(g:dP H a y o)(ry:RelV y u)(h:∀s',Inv X kb σ H s'->Q (.bool o.isSome) s'):
  wpAny (model X.prog X.w) A (compareOp .In u (.ref a)) Q E s:=by
 rcases g with ⟨kvs,k,e,ey,l⟩ | ⟨kvs,k,b,e,ey,eb,l⟩
 ·subst ey;obtain⟨z,hd,vs,rel,dd⟩:=j6 I.hok e;refine wpAny_in_of (oZ ry) hd dd.mapOf ?_;rw[<-(rel.val k).gR,<-l];exact h _ (I.tok _)
 ·subst ey;cases (show u=Value.ref b from ry);obtain⟨z,hd,xs,rel,dd⟩:=o6 I.hok e;refine wpAny_in_heap (tupleKind_room_in1 hu) (ly I.hok eb) hd dd ?_;have q:=(rel.val k).gR;rw[Option.isSome_map]at q;rw[<-q,<-l];exact h _ (I.tok _)
theorem FU{Q:Value->Shared->Prop}(hu:A.units+1<cLine)(I:Inv X kb σ H s)(g:dP H a y o)(ry:RelV y u)(h:∀s',Inv X kb σ H s'->Q (.bool (!o.isSome)) s'):
  wpAny (model X.prog X.w) A (compareOp .NotIn u (.ref a)) Q E s:=by
 rcases g with ⟨kvs,k,e,ey,l⟩ | ⟨kvs,k,b,e,ey,eb,l⟩
 ·subst ey;obtain⟨z,hd,vs,rel,dd⟩:=j6 I.hok e;refine wpAny_notIn_of (oZ ry) hd dd.mapOf ?_;rw[<-(rel.val k).gR,<-l];exact h _ (I.tok _)
 ·subst ey;cases (show u=Value.ref b from ry);obtain⟨z,hd,xs,rel,dd⟩:=o6 I.hok e;refine wpAny_notIn_heap (tupleKind_room_in1 hu) (ly I.hok eb) hd dd ?_;have q:=(rel.val k).gR;rw[Option.isSome_map]at q;rw[<-q,<-l];exact h _ (I.tok _)
theorem oA{h':Heap}{t':Nat}{ob:HO}(I:Inv X kb σ H s)(mu:NY (H a))(hs:Heap.SameBut a s.heap h')(he:∃q,h'.get? a=some q)(new:bJ X.prog X.w (upd H a ob) h' a ob):
  Inv X kb σ (upd H a ob) {s with heap:=h',toks:=t'}:=
 I.write (x:=a) (e:=a) mu (.inl rfl) (fun b q hb z=>(hs.2 b hb).trans z) he new
theorem wW{P:Program}{w:World}{H':Hp}{h':Heap}{kvs:List (Key×V)}{vs:List (Key×Value)}(z:kvs.length<=em)(hd:(a==sysModules)=false)(rel:KV kvs vs)(dd:h'.DictOf (cQ P w) a vs):
  bJ P w H' h' a (.dK kvs):=⟨z,hd,vs,rel,dd⟩
theorem AF{H':Hp}{Q:Unit->Shared->Prop}(hu:A.units+1<cLine)(I:Inv X kb σ H s)(g:lA H a y v H')(ry:RelV y u)(rv:RelV v r)(h:∀s',Inv X kb σ H' s'->Q () s'):
  wpAny (model X.prog X.w) A (setItem (.ref a) u r) Q E s:=by
 rcases g with ⟨kvs,k,e,ey,l,eH⟩ | ⟨kvs,k,b,e,ey,eb,l,eH⟩
 ·subst ey eH;obtain⟨z,hd,vs,rel,dd⟩:=Iy I.hok e;have hz:vs.length<=em:=by rw[<-rel.length];exact z
  have hl:(putK kvs k v).length<=em:=by have:=cU kvs k v;omega
  refine wpAny_setItem_pairs (hsz:=hz) (oZ ry) dd fun h' AG hs=>h _ ?_;have he:∃q,h'.get? a=some q:=let ⟨q,_,_,hq,_⟩:=AG;⟨q,hq⟩;exact oA I (by rw[e];exact True.intro) hs he (wW hl hd (rel.put k rv) AG)
 ·subst ey eH;cases (show u=Value.ref b from ry);obtain⟨z,hd,xs,rel,dd⟩:=Oy I.hok e;have hz:xs.length<=em:=by rw[<-Paired.length rel];exact z
  have hl:(putK kvs k v).length<=em:=by have:=cU kvs k v;omega
  refine wpAny_setItem_heap (hsz:=hz) (tupleKind_room_in1 hu) (ly I.hok eb) dd fun h' AG hs=>h _ ?_;obtain⟨q,es,ep,hq,h2,h3,h4,_,h5⟩:=AG;refine oA I (by rw[e];exact True.intro) hs ⟨q,hq⟩ ⟨hl,hd,_,(rel.put k eb rv).keeps fun c ys ec=>?_,q,es,ep,hq,h2,h3,h4,h5⟩;rw[az (jy ec e (fun z=>nomatch z))];exact ec
variable {kvs:List (Key×V)}{k:Key}
theorem Oz{Q:Value->Shared->Prop}(I:Inv X kb σ H s)(e:Rd H a (.dK kvs))(h:∀t s',Inv X kb σ H s'->Q (.int kvs.length t) s'):wpAny (model X.prog X.w) A (call (.builtin "len") [.ref a]) Q E s:=by obtain⟨z,hd,vs,rel,dd⟩:=j6 I.hok e;refine call_len_dict hd dd (by rw[<-rel.length];rw[sizeLine_eq]at z;omega) ?_;rw[<-rel.length];exact h _ _ (I.tok _)
end
def JZ(i:Expr):Prop:=∀ov iv,subscripted i false ov iv=operate [ov,iv] (getItem ov iv)
theorem yZ{prog:Program}{w:World}{A:Around}{E:Value->Shared->Prop}{s:Shared}{env:Env}{value slice:Expr}{pos:Pos}{T id:String}{Q:Value->Shared->Prop}
  (hl:typeLookup (.type T) "__getitem__"=pure (some (.builtin id))) (hs:JZ slice)
  (h:wpAny (model prog w) A (eval value env) (fun o s₁=>wpAny (model prog w) A (eval slice env) (fun i s₂=>s₂.TypeIs o T/\wpAny (model prog w) A (getItem o i) Q E s₂) E s₁) E s):
  wpAny (model prog w) A (eval (.Subscript value slice pos) env) Q E s:=by
 refine Subscript_ (en h (fun o s₁ h₁=>en h₁ (fun i s₂ h₂=>?_) fun _ _ x=>x) fun _ _ x=>x);obtain⟨hT,h₂⟩:=h₂;unfold subscriptTail;refine de ?_;rw[getitemInPython_of_ne hT.not_modules];refine de (wpAny_specialOf hT hl ?_);have fin:wpAny (model prog w) A (subscripted slice false o i) (fun r s₃=>wpAny (model prog w) A (letTemporaryGo value o r>>=fun _=>pure r) Q E s₃) E s₂:=by rw[hs o i];exact wpAny_operating (en h₂ (fun r s₃ h₃=>de (wpAny_letTemporaryGo (dL h₃))) fun _ _ x=>x)
 first
  | exact dL (de fin)
  | exact de (dL (de fin))
  | exact de fin
theorem u5{X:Cx}{kb:List (Addr×Obj)}{σ:St}{H:Hp}{s:Shared}{a:Addr}{y:V}{o:Option V}(I:Inv X kb σ H s)(g:dP H a y o):s.TypeIs (.ref a) "dict":=by
 rcases g with ⟨kvs,k,e,_,_⟩ | ⟨kvs,k,b,e,_,_,_⟩
 ·obtain⟨_,_,vs,_,dd⟩:=j6 I.hok e;exact dd.typeIs
 ·obtain⟨_,_,xs,_,dd⟩:=o6 I.hok e;exact dd.typeIs
inductive OB(x:V)(Q:VK)(y:V)(H:Hp):Prop
 | mk (a v) (_:x=.ref a) (_:dP H a y (some v)) (_:Q v H)
def OD(td ty:TE):TE:=fun σ H Q=>td σ H fun x H1=>ty σ H1 (OB x Q)
inductive Ui(y:V)(Q:VK)(x:V)(H:Hp):Prop
 | mk (a o) (_:x=.ref a) (_:dP H a y o) (_:Q (.bl o.isSome) H)
def Uj(ty td:TE):TE:=fun σ H Q=>ty σ H fun y H1=>td σ H1 (Ui y Q)
inductive FV(y:V)(Q:VK)(x:V)(H:Hp):Prop
 | mk (a o) (_:x=.ref a) (_:dP H a y o) (_:Q (.bl (!o.isSome)) H)
def FW(ty td:TE):TE:=fun σ H Q=>ty σ H fun y H1=>td σ H1 (FV y Q)
def OG(td ty tv:TE):TS:=fun D σ H=>tv σ H fun v H1=>td σ H1 fun x H2=>ty σ H2 fun y H3=>∃a H4,x=.ref a/\lA H3 a y v H4/\D.nx σ H4
section
variable {X:Cx}{o i e value:Expr}{pos pos' tpos:Pos}{td ty tv:TE}
theorem c9(hu:X.A.units+1<cLine)(ho:PE X o td)(hi:PE X i ty)(hs:JZ i):PE X (.Subscript o i pos) (OD td ty):=by intro kb s σ H Q I h;refine yZ PySem.F.slot_dict_getitem.lookup hs (cz (ho kb s σ H _ I h) fun u s1 ⟨x,H1,I1,rx,q1⟩=>cz (hi kb s1 σ H1 _ I1 q1) fun iv s2 ⟨y,H2,I2,ry,a,v,ex,g,q2⟩=>?_);subst ex;obtain rfl:u=Value.ref a:=rx;exact⟨u5 I2 g,AB hu I2 g ry fun w' s3 I3 AA=>⟨v,H2,I3,AA,q2⟩⟩
theorem CN(hu:X.A.units+1<cLine)(hi:PE X i ty)(ho:PE X o td):PC X .In i o (Uj ty td):=by intro kb s σ H Q I h;refine cz (hi kb s σ H _ I h) fun iv s1 ⟨y,H1,I1,ry,q1⟩=>cz (ho kb s1 σ H1 _ I1 q1) fun u s2 ⟨x,H2,I2,rx,a,ov,ex,g,q2⟩=>?_;subst ex;obtain rfl:u=Value.ref a:=rx;exact Uh hu I2 g ry fun s3 I3=>⟨.bl ov.isSome,H2,I3,rfl,q2⟩
theorem lC(hu:X.A.units+1<cLine)(hi:PE X i ty)(ho:PE X o td):PC X .NotIn i o (FW ty td):=by intro kb s σ H Q I h;refine cz (hi kb s σ H _ I h) fun iv s1 ⟨y,H1,I1,ry,q1⟩=>cz (ho kb s1 σ H1 _ I1 q1) fun u s2 ⟨x,H2,I2,rx,a,ov,ex,g,q2⟩=>?_;subst ex;obtain rfl:u=Value.ref a:=rx;exact FU hu I2 g ry fun s3 I3=>⟨.bl (!ov.isSome),H2,I3,rfl,q2⟩
theorem iq(hu:X.A.units+1<cLine)(ho:PE X o td)(hi:PE X i ty)(hv:PE X value tv)(hs:swapsWith value (some (.Subscript o i pos')) pos.line X.env=pure false):
  PS X (.Assign [.Subscript o i pos'] value pos) (OG td ty tv):=by
 intro kb s σ H D I h;refine wpAny_Assign_Subscript (cz (hv kb s σ H _ I h) fun r s1 ⟨v,H1,I1,rv,q1⟩=>cz (ho kb s1 σ H1 _ I1 q1) fun u s2 ⟨x,H2,I2,rx,q2⟩=>cz (hi kb s2 σ H2 _ I2 q2) fun iv s3 ⟨y,H3,I3,ry,a,H4,ex,g,q3⟩=>?_) hs;subst ex;obtain rfl:u=Value.ref a:=rx;exact AF hu I3 g ry rv fun s4 I4=>⟨σ,H4,I4,q3⟩
theorem u6{P:Program}{w:World}{H:Hp}(h:Heap)(hb:sysModules<h.objs.size):bJ P w H (h.push {cls:=.type "dict",data:=.dict #[]}) h.objs.size (.dK []):=
 ⟨Nat.zero_le _,beq_eq_false_iff_ne.mpr (Ne.symm (kt hb)),[],.nil,Heap.DictOf.new h⟩
def J0:TE:=fun _ H Q=>∀p,H p=none->Q (.ref p) (upd H p (.dK []))
theorem gS:PE X (.Dict [] [] pos) J0:=fun kb s σ H Q I h=>
 wpAny_Dict_empty ⟨.ref s.heap.objs.size,_,I.laid (a:=s.heap.objs.size) (o:=.dK []) (t':=s.toks) (fun _ _ q=>fg _ q) (ki _) (u6 s.heap I.big),rfl,h _ (I.hok.fresh (ki _))⟩
end
def wX:List (TE×TE)->St->Hp->(List (V×V)->Hp->Prop)->Prop
 | [],_,H,Q=>Q [] H
 | (tk,tv)::r,σ,H,Q=>tk σ H fun x H1=>tv σ H1 fun y H2=>wX r σ H2 fun ps H3=>Q ((x,y)::ps) H3
abbrev VV:List (V×V)->List (Value×Value)->Prop:=Paired fun p q=>RelV p.1 q.1/\RelV p.2 q.2
def OI(X:Cx)(pos:Pos)(keys:List (Option Expr))(values:List Expr)(uK:List (TE×TE)):Prop :=
 ∀(kb:List (Addr×Obj)) (s:Shared) (σ:St) (H:Hp) (Q:List (V×V)->Hp->Prop),Inv X kb σ H s->wX uK σ H Q->
  wpAny (model X.prog X.w) X.A (evalPairs (pairTrees keys values X.env pos)) (fun vs s'=>∃ps H',Inv X kb σ H' s'/\VV ps vs/\Q ps H') X.xe s
theorem FX{X:Cx}{pos:Pos}:OI X pos [] [] []:=fun kb s σ H Q I h=>pairTrees_nil_walk ⟨[],H,I,.nil,h⟩
theorem CO{X:Cx}{pos:Pos}{k v:Expr}{ks:List (Option Expr)}{vs:List Expr}{tk tv:TE}{uK:List (TE×TE)}(hk:PE X k tk)(hv:PE X v tv)(hr:OI X pos ks vs uK):
  OI X pos (some k::ks) (v::vs) ((tk,tv)::uK):=fun kb s σ H Q I h=>
 pairTrees_cons_walk (cz (hk kb s σ H _ I h) fun u s1 ⟨x,H1,I1,rx,q1⟩=>cz (hv kb s1 σ H1 _ I1 q1) fun w2 s2 ⟨y,H2,I2,ry,q2⟩=>
  cz (hr kb s2 σ H2 _ I2 q2) fun ws s3 ⟨ps,H3,I3,rel,q3⟩=>⟨(x,y)::ps,H3,I3,.cons ⟨rx,ry⟩ rel,q3⟩)
def lE(kvs more:List (Key×V)):List (Key×V):=more.foldl (fun acc kv=>putK acc kv.1 kv.2) kvs
theorem KV.merge:∀{more:List (Key×V)} {rs:List (Key×Value)} {kvs:List (Key×V)} {vs:List (Key×Value)},KV more rs->KV kvs vs->KV (lE kvs more) (merged vs rs):=by
 intro more rs kvs vs r;unfold KV at r
 induction r generalizing kvs vs with
 | nil=>intro q;exact q
 | @cons p q ps qs h t ih=>
  intro r0;have e:KV (putK kvs p.1 p.2) (stored vs q.1 q.2):=by have:=r0.put p.1 h.2;rw[<-h.1];exact this
  exact ih e
theorem jB:∀(more kvs:List (Key×V)),(lE kvs more).length<=kvs.length+more.length
 | [],kvs=>by show kvs.length<=kvs.length+0;omega
 | p::r,kvs=>by have h1:=jB r (putK kvs p.1 p.2);have h2:=cU kvs p.1 p.2;show(lE (putK kvs p.1 p.2) r).length<=_;rw[ci];omega
theorem o7{P:Program}{w:World}:∀{kvs:List (Key×V)} {ws:List (Value×Value)},VV (kvs.map fun kv=>(kV kv.1,kv.2)) ws->∃rs,Carries (cQ P w) ws rs/\KV kvs rs
 | [],_,r=>by rw[List.map_nil]at r;cases r;exact⟨[],True.intro,.nil⟩
 | p::kvs,_,r=>by
  rw[cp]at r;cases r with
  | @cons a b as bs h t=>
   obtain⟨rs,c,q⟩:=o7 (P:=P) (w:=w) t;obtain⟨b1,b2⟩:=b;exact⟨(p.1,b2)::rs,⟨oZ h.1,rfl,c⟩,.cons ⟨rfl,h.2⟩ q⟩
def Iz(uK:List (TE×TE)):TE:=fun σ H Q=>∀p,H p=none->wX uK σ (upd H p (.dK [])) fun ps H2=>H2 p=some (.dK [])/\∃kvs:List (Key×V),ps=kvs.map (fun kv=>(kV kv.1,kv.2))/\kvs.length<=15/\Q (.ref p) (upd H2 p (.dK (lE [] kvs)))
theorem FY{X:Cx}{pos:Pos}{keys:List (Option Expr)}{values:List Expr}{uK:List (TE×TE)}(h:OI X pos keys values uK)(hall:keys.all (·.isSome)=true)(hl:keys.length=values.length)(h0:keys≠ [])
  (h15:keys.length<=15):PE X (.Dict keys values pos) (Iz uK):=by
 intro kb s σ H Q I q;have hn:=I.hok.fresh (ki s.heap.objs.size);have I1:=I.laid (a:=s.heap.objs.size) (o:=.dK []) (h':=s.heap.push {cls:=.type "dict",data:=.dict #[]}) (t':=s.toks) (fun _ _ q=>fg _ q) (ki _) (u6 s.heap I.big);refine wpAny_Dict_walk (knd:=cQ X.prog X.w) hall hl h0 h15 (cz (h kb _ σ _ _ I1 (q _ hn)) fun ws s2 ⟨ps,H2,I2,rel,e,kvs,ep,lk,q2⟩=>?_);subst ep;obtain⟨rs,c,rk⟩:=o7 (P:=X.prog) (w:=X.w) rel;obtain⟨z,hd,vs0,r0,dd⟩:=Iy I2.hok e;cases r0;refine⟨rs,c,dd,fun h' AG hs=>⟨.ref s.heap.objs.size,_,?_,rfl,q2⟩⟩;have hz:(lE [] kvs).length<=em:=by have h1:=jB kvs [];rw[List.length_nil]at h1;rw[sizeLine_eq];omega
 have he:∃q,h'.get? s.heap.objs.size=some q:=let ⟨q,_,_,hq,_⟩:=AG;⟨q,hq⟩;exact oA I2 (by rw[e];exact True.intro) hs he (wW hz hd (rk.merge .nil) AG)
structure M1(X:Cx)(o:Expr)(m:Str)(apos:Pos)(e:Expr)(cpos:Pos):Prop where
 base:attributeBase o m X.env (eval o X.env)=eval o X.env
 few:((backTo cpos (starEach [e] X.env)).all (fun x=>!x.1)&&(backToKw cpos (keywordEach [] X.env)).all (fun x=>x.1.isSome)
  &&decide (([e]:List Expr).length+([]:List Keyword).length+(if ([]:List Keyword).isEmpty then 0 else 1)<30))=true
 line:(apos.endLine==cpos.line)=true
 trees:backTo cpos (starEach [e] X.env)=[(false,eval e X.env)]
structure M2(X:Cx)(o:Expr)(m:Str)(apos:Pos)(e f:Expr)(cpos:Pos):Prop where
 base:attributeBase o m X.env (eval o X.env)=eval o X.env
 few:((backTo cpos (starEach [e,f] X.env)).all (fun x=>!x.1)&&(backToKw cpos (keywordEach [] X.env)).all (fun x=>x.1.isSome)
  &&decide (([e,f]:List Expr).length+([]:List Keyword).length+(if ([]:List Keyword).isEmpty then 0 else 1)<30))=true
 line:(apos.endLine==cpos.line)=true
 trees:backTo cpos (starEach [e,f] X.env)=[(false,eval e X.env),(false,eval f X.env)]
def YJ(H:Hp)(a:Addr):Prop:=(∃kvs,Rd H a (.dK kvs))\/∃kvs,Rd H a (.dT kvs)
theorem J1{X:Cx}{kb:List (Addr×Obj)}{σ:St}{H:Hp}{s:Shared}{a:Addr}(I:Inv X kb σ H s)(d:YJ H a):
  s.TypeIs (.ref a) "dict"/\(∀b,Value.ref a=.ref b->∃ob,s.heap.get? b=some ob/\ob.dict=none)/\(a==sysModules)=false:=by
 rcases d with ⟨kvs,e⟩ | ⟨kvs,e⟩
 ·obtain⟨_,hd,vs,_,dd⟩:=j6 I.hok e;refine⟨dd.typeIs,fun b q=>?_,hd⟩;cases q;obtain⟨ob,_,_,h1,h2,_⟩:=dd;exact⟨ob,h1,h2.2.1⟩
 ·obtain⟨_,hd,xs,_,dd⟩:=o6 I.hok e;refine⟨dd.typeIs,fun b q=>?_,hd⟩;cases q;obtain⟨ob,_,_,h1,h2,_⟩:=dd;exact⟨ob,h1,h2.2.1⟩
section
variable {X:Cx}{kb:List (Addr×Obj)}{σ:St}{H:Hp}{s:Shared}{a:Addr}{y d:V}{u r:Value}{o:Option V}{A:Around}{E:Value->Shared->Prop}
theorem J2{Q:Value->Shared->Prop}(hu:A.units+1<cLine)(I:Inv X kb σ H s)(g:dP H a y o)(ry:RelV y u)(h:∀w' s',Inv X kb σ H s'->RelV (o.getD .non) w'->Q w' s'):
  wpAny (model X.prog X.w) A (call (.builtin "dict.get") [.ref a,u]) Q E s:=by
 rcases g with ⟨kvs,k,e,ey,l⟩ | ⟨kvs,k,b,e,ey,eb,l⟩
 ·subst ey;obtain⟨z,hd,vs,rel,dd⟩:=j6 I.hok e;refine call_meetsIn PySem.F.slot_dict_get dd.typeIs PySem.F.entry_dict_get (PySem.F.args_dict_get_2 _ _) (meets_dict_get (cQ X.prog X.w) a (oZ ry) hd) ⟨_,dd.mapOf,h _ _ (I.tok _) ?_⟩;rw[l];exact(rel.val k).getD rfl
 ·subst ey;cases (show u=Value.ref b from ry);obtain⟨z,hd,xs,rel,dd⟩:=o6 I.hok e;refine call_meetsIn PySem.F.slot_dict_get dd.typeIs PySem.F.entry_dict_get (PySem.F.args_dict_get_2 _ _) (meetsH_dict_get (tupleKind (cQ X.prog X.w)) a b hd) ⟨tupleKind_room_in1 hu,k,xs,ly I.hok eb,dd,h _ _ (I.tok _) ?_⟩;rw[l];exact(rel.val k).getD rfl
end
def J3(td ty:TE):TE:=fun σ H Q=>td σ H fun x H1=>∃a,x=.ref a/\YJ H1 a/\ty σ H1 fun y H2=>∃o,dP H2 a y o/\Q (o.getD .non) H2
section
variable {X:Cx}{o e f:Expr}{apos cpos:Pos}{td ty tx:TE}
theorem CP(hu:X.A.units+1<cLine)(ho:PE X o td)(he:PE X e ty)(m:M1 X o "get" apos e cpos):PE X (.Call (.Attribute o "get" apos) [e] [] cpos) (J3 td ty):=by intro kb s σ H Q I h;refine wpAny_Call_method m.base m.few m.line PySem.F.plainAttrs_dict PySem.F.slot_dict_get PySem.F.type_dict_get (cz (ho kb s σ H _ I h) fun u s1 ⟨x,H1,I1,rx,a,ex,d,q1⟩=>?_);subst ex;obtain rfl:u=Value.ref a:=rx;obtain⟨t1,t2,_⟩:=J1 I1 d;refine⟨t1,t2,?_⟩;rw[m.trees];refine Calls.callWith_builtin rfl (Calls.evalArgs_plain (Calls.spliced_cons (cz (he kb s1 σ H1 _ I1 q1) fun iv s2 ⟨y,H2,I2,ry,ov,g,q2⟩=>Calls.spliced_nil ?_)));exact J2 hu I2 g ry fun w' s3 I3 AA=>⟨_,H2,I3,AA,q2⟩
variable {kb:List (Addr×Obj)}{σ:St}{H:Hp}{s:Shared}{a:Addr}{kvs:List (Key×V)}{A:Around}{E:Value->Shared->Prop}
theorem CQ{Q:Value->Shared->Prop}(I:Inv X kb σ H s)(e:Rd H a (.dK kvs))(h:∀p s',H p=none->Inv X kb σ (upd H p (.dK kvs)) s'->Q (.ref p) s'):wpAny (model X.prog X.w) A (call (.type "dict") [.ref a]) Q E s:=by obtain⟨z,hd,vs,rel,dd⟩:=j6 I.hok e;refine kt_call_dict hd dd (by rw[<-rel.length];exact z) fun h' AG hs=>?_;refine h _ _ (I.hok.fresh (ki _)) (I.laid (a:=s.heap.objs.size) (o:=.dK kvs) (t':=s.toks) (fun b q hq=>?_) (ki _) (wW z (beq_eq_false_iff_ne.mpr (Ne.symm (kt I.big))) rel AG));exact(hs.2 b (kt (fw hq))).trans (fg _ hq)
variable {y:V}{u:Value}
end
end L2
namespace YK
open PySem PySem.W PySem.Calls PyProof.Rows
theorem mY{P:Params}{h:Heap}:∀(ns:List Int) (vs:List Value),WellAll P h vs (ns.map WData.int)->IntsAre vs ns:=by
 intro ns
 induction ns with
 | nil=>
  intro vs w;rw[List.map_nil]at w;cases w;exact .nil
 | cons n ns ih=>
  intro vs w;rw[cp]at w;cases w with
  | cons a b=>
   cases a;exact .cons _ _ (ih _ b)
theorem AH{l:OpenLaw}{n:Nat}(hn:l.most=some n){P:Params}{h:Heap}{args:List WData}{vals:List Value}
  (hpre:l.row.toRowW.claim.pre args=true) (hwl:WellAll P h vals args):
  ∃a vs ns,vals=[Value.ref a]/\args=[WData.list (ns.map WData.int)]/\h.get? a=some {cls:=.type "list",data:=.seq vs.toArray}/\IntsAre vs ns/\ns.length<=n:=by
 have hsh:WShape.hasAll [] args [.list .int]=true:=(pre_splitW hpre).1;have hc:l.pre.holds [] {args:=args}=true:=(pre_splitW hpre).2;obtain⟨d,r,rfl,h1,h2⟩:=hasAllW_cons hsh;obtain rfl:=hasAllW_nil h2;obtain⟨xs,rfl,h3⟩:=hasW_list h1;obtain⟨ns,rfl⟩:=items_int h3;have hlen:ns.length<=n:=by
  unfold OpenLaw.pre at hc;have h4:(WTm.not (.lt (.lit (.int (n:Int))) (.len (.arg 0)))).holds [] {args:=[.list (ns.map .int)]}=true:=by have h4:=(holds_andW hc).1;rw[hn]at h4;exact h4
  have h5:=condW_of h4 (w_not (w_lt w_lit (w_len_list (w_arg rfl))));rw[List.length_map]at h5;refine Nat.le_of_not_lt fun q=>?_;have q':(n:Int)< ((ns.length:Nat):Int):=by omega
  first
   | (rw[decide_eq_true q']at h5;exact absurd h5 (by decide))
   | (simp at h5;omega)
 cases hwl with
 | cons w1 w2=>
  cases w2;cases w1 with
  | list ho hall=>exact⟨_,_,ns,rfl,rfl,ho,mY ns _ hall,hlen⟩
theorem AI(l:OpenLaw)(args:List WData):l.row.toRowW.claim.post args (.bool true) args=true :=
 postW_of (r:=l.row.toRowW) (X:=(true==true))
  (show WShape.has [] (.bool true) .bool=true by first | rfl | decide | simp[WShape.has,WShape.arms,WShape.armsAll])
  (show(WTm.eq .res (.lit (.bool true))).value [] {args:=args,res:=some (.bool true),after:=args}=some (.bool (true==true))from w_eq_bool (w_res rfl) w_lit) rfl
theorem u7{l:OpenLaw}{n:Nat}{q:Program}{loose:List Str}{XP:(Str->Option Value)->Heap->Prop}{YP:World->Heap->Prop}{d:DefRec}
  (hn:l.most=some n) (hdf:d.params.defaults=[])
  (call:∀(w:World) (s₀ s₁:Shared) (mg mb:Str->Option Value) (fa:Addr) (o:Obj) (pm cd doc:Value) (a:Addr) (vs:List Value) (ns:List Int),
   Ground q loose [] XP w s₀ mg mb s₁.heap->YP w s₁.heap->
   s₁.heap.get? fa=some o->o.data=.func (docDef d.name d.params d.body d.scope pm cd doc)->s₁.heap.CodeRec cd d.name->mg d.name=some (.ref fa)->
   s₁.heap.get? a=some {cls:=.type "list",data:=.seq vs.toArray}->IntsAre vs ns->ns.length<=n->s₁.gens=#[]->
   codeAny (model l.prog w) callerA (.call (.ref fa) ⟨[.ref a],[]⟩) (fun r s'=>r=.ok (.ret (.bool true))/\OldK s₁.heap s'.heap/\s'.os=s₁.os/\AllBare s'.gens) s₁):
  WalkO q loose XP YP l.row.toRowW d [] (fun f vs=>PySem.call f vs):=by
 intro w s₀ s₁ mg mb G Y fa o pm cd doc dV kV ho hd hcd hD hmg hg args vals as hpre hlay hrd hwl hlo;obtain rfl:dV=.none:=Dflts.none hD hdf;obtain rfl:kV=.none:=Dflts.noKw hD;obtain⟨a,vs,ns,rfl,rfl,hobj,hints,hlen⟩:=AH hn hpre hwl;refine enter_call (codeAny_mono (call w s₀ s₁ mg mb fa o pm cd doc a vs ns G Y ho (fd_plain hd) hcd hmg hobj hints hlen hg) fun r s' hq=>?_);obtain⟨rfl,h2,h3,h4⟩:=hq;exact⟨.inl ⟨.bool true,.bool true,[],rfl,fun _=>rfl,.bool true,AI l _,fun _=>⟨List.Pairwise.nil,fun _ hm=>(nomatch hm)⟩⟩,h2,h3,h4⟩
section
variable {prog:Program}{w:World}{A:Around}{E:Value->Shared->Prop}{s:Shared}{K:Frag}
end
end YK
namespace L2
open PySem PySem.Spec PyProof.Rows
theorem jm:∀{vs:List Value} {ns:List Int},IntsAre vs ns->Vals (ns.map V.int) vs
 | _,_,.nil=>.nil
 | _,_,.cons n t h=>.cons ⟨t,rfl⟩ (jm h)
def Only(H:Hp):Prop:=∀b,H b=none\/∃o xs,H b=some (.jg o (.lst xs))
theorem CT{P:Program}{w:World}{K:gt}{mg mb:Str->Option Value}{CX:Ay}{k:Nat}{fa a:Addr}{fd:el}{x:Str}{sp:Sp}{s₁:Shared}{vs:List Value}{ns:List Int}
  (KX:K.In s₁.heap) (hns:s₁.heap.Ns eh mg) (hb:s₁.heap.Ns builtinsNs mb) (hbb:∀x:Str,x≠ "__name__"->mb x=bootBuiltins x) (hlim:s₁.heap.NoLimit) (hg:s₁.gens=#[])
  (ha:s₁.heap.get? a=some {cls:=.type "list",data:=.seq vs.toArray}) (hi:IntsAre vs ns) (hl:ns.length<=em) (hr:dU k callerA)
  (F:∀base:Heap,K.In base->base.Ns eh mg->aN P w K mg base CX k fa fd [x] sp) (hbind:∀(s:Shared) (u:Value),BindsTo s fd ⟨[u],[]⟩ [(x,u)])
  (hsp:∀H:Hp,Only H->aR K H a (ns.map V.int)->sp [.ref a] H (fun v _=>v=.bl true) fun _ _ _=>False)
  (Uk:∀H e s',CX [] H s₁ (fun _ _ _=>False) e s'->False):
  codeAny (model P w) callerA (.call (.ref fa) ⟨[.ref a],[]⟩) (fun r s'=>r=.ok (.ret (.bool true))/\OldK s₁.heap s'.heap/\s'.os=s₁.os/\AllBare s'.gens) s₁:=by
 have rv:=jm hi;have lenV:=hi.length;have core:∀H:Hp,Only H->aR K H a (ns.map V.int)->ji P w H s₁.heap->(∀b,H b≠none->b=a)->(H a≠none->K.lookup a=none)->
   codeAny (model P w) callerA (.call (.ref fa) ⟨[.ref a],[]⟩) (fun r s'=>r=.ok (.ret (.bool true))/\OldK s₁.heap s'.heap/\s'.os=s₁.os/\AllBare s'.gens) s₁:=by
  intro H hO hS hok hA hK;have y6:∀{b:Addr} {o:Obj},s₁.heap.get? b=some o->H b=none->(sv s₁.heap H).get? b=some o:=fun e n=>Cg e n;have Oq:∀{b:Addr} {o:Obj} {es:Array DictEntry} {ep:Nat},s₁.heap.get? b=some o->o.data=.dict es ep->H b=none:=fun {b o es ep} e d=>by
   cases q:H b with
   | none=>rfl
   | some u=>
    have e':b=a:=hA b (by rw[q];simp);subst e';rw[ha]at e;cases e;have d':Data.seq vs.toArray _=Data.dict es ep:=d;cases d'
  have R3:∀{b:Addr} {m:Str->Option Value},s₁.heap.Ns b m->(sv s₁.heap H).Ns b m:=fun {b m} ⟨o,es,ep,e,d,r⟩=>⟨o,es,ep,y6 e (Oq e d),d,r⟩
  have YL:K.In (sv s₁.heap H):=fun b o e=>y6 (KX b o e) (by
   cases q:H b with
   | none=>rfl
   | some u=>
    have e':b=a:=hA b (by rw[q];simp);subst e'
    rw[hK (by rw[q];simp)]at e;cases e)
  have hM:Mod K mg (sv s₁.heap H):=⟨YL,R3 hns,⟨mb,R3 hb,hbb⟩,let ⟨mc,h1,h2⟩:=hlim;⟨mc,R3 h1,h2⟩⟩;have e0:wM P w K mg (sv s₁.heap H) callerA [] s₁ H:=⟨rfl,hM,fun b o e=>FG e,Nat.le_of_eq (Ap _ _),trivial,fun b hb=>absurd (show b∈([]:List Addr)from hb) (by simp),hok,.of_eq hg⟩;refine codeAny_mono ((F _ YL (R3 hns)).run callerA [] s₁ H ⟨[.ref a],[]⟩ [.ref a] [.ref a] _ _ hr e0 (hbind s₁ (.ref a)) (.cons rfl .nil) (hsp H hO hS)) fun r s' h=>?_;cases r with
  | error e=>exact(Uk H e s' h).elim
  | ok fl=>
   cases fl with
   | next=>exact False.elim h
   | brk=>exact False.elim h
   | cont=>exact False.elim h
   | ret u=>
    obtain⟨v,H',os,bare,un,hok',r',q⟩:=h;have q':v=.bl true:=q;subst q';obtain rfl:u=Value.bool true:=r';refine⟨rfl,OldK.of_keep fun b o e=>?_,os,bare⟩;cases q:H b with
    | none=>exact un.keep b o e q (by intro z;exact absurd (show b∈([]:List Addr)from z) (by simp)) (by simp)
    | some u=>
     rcases hO b with z | ⟨ob,xs,z⟩
     ·rw[q]at z;cases z
     ·have z2:=un.mV b ob _ z;obtain⟨e1,_⟩:=hok b _ z;obtain⟨e2,_⟩:=hok' b _ z2;rw[e]at e1;cases e1;exact e2
 cases hk:K.lookup a with
 | some o=>
  have e:=KX a o hk;rw[ha]at e;cases e;refine core (fun _=>none) (fun _=>.inl rfl) (.inr ⟨_,vs.toArray,_,hk,rfl,rfl,rfl,by rw[ar,lenV];exact hl,by simpa using rv⟩) (fun b u z=>by have z':(none:Option HO)=some u:=z;cases z') (fun b z=>absurd rfl z) fun z=>absurd rfl z
 | none=>
  refine core (fun b=>if b=a then some (.jg {cls:=.type "list",data:=.seq vs.toArray} (.lst (ns.map V.int)))else none) (fun b=>?_) (.inl (.inr ⟨{cls:=.type "list",data:=.seq vs.toArray},if_pos rfl⟩)) (fun b u z=>?_) (fun b z=>?_) fun _=>hk
  ·by_cases hb:b=a
   ·exact .inr ⟨_,_,if_pos hb⟩
   ·exact .inl (if_neg hb)
  ·by_cases hb:b=a
   ·have z':=(if_pos hb).symm.trans z;cases z';subst hb;exact⟨ha,by rw[List.length_map];exact hl,vs,_,rv,ha⟩
   ·have z':=(if_neg hb).symm.trans z;cases z'
  ·by_cases hb:b=a
   ·exact hb
   ·exact absurd (if_neg hb) z
theorem y8{l:PySem.W.OpenLaw}{n k:Nat}{q:Program}{loose:List Str}{XP:(Str->Option Value)->Heap->Prop}{YP:World->Heap->Prop}{d:DefRec}{K:Params->gt}{CX:World->Ay}{sp:World->Sp}{x:Str}
  (hn:l.most=some n) (hn2:n<=em) (hdf:d.params.defaults=[]) (hr:dU k callerA)
  (hY:∀(w:World) (h:Heap),YP w h->(K w.params).In h)
  (F:∀(w:World) (mg:Str->Option Value) (fa:Addr) (h:Heap),(K w.params).In h->h.Ns eh mg->mg d.name=some (.ref fa)->
   ∃fd:el,(∀(s:Shared) (u:Value),BindsTo s fd ⟨[u],[]⟩ [(x,u)])/\
    ∀base:Heap,(K w.params).In base->base.Ns eh mg->aN l.prog w (K w.params) mg base (CX w) k fa fd [x] (sp w))
  (hsp:∀(w:World) (H:Hp) (a:Addr) (ns:List Int),ns.length<=n->Only H->aR (K w.params) H a (ns.map V.int)->sp w [.ref a] H (fun v _=>v=.bl true) fun _ _ _=>False)
  (Uk:∀(w:World) (H:Hp) (s:Shared) (e:Value) (s':Shared),CX w [] H s (fun _ _ _=>False) e s'->False):
  PySem.W.WalkO q loose XP YP l.row.toRowW d [] (fun f vs=>PySem.call f vs):=by
 refine YK.u7 hn hdf fun w s₀ s₁ mg mb fa o pm cd doc a vs ns G Y ho hd hcd hmg hobj hints hlen hg=>?_;have KX:=hY w _ Y;obtain⟨fd,hb,hF⟩:=F w mg fa _ KX G.T.g hmg;exact CT KX G.T.g G.T.b G.T.builtins G.T.nolimit hg hobj hints (li hlen hn2) hr hF hb (fun H hO hS=>hsp w H a ns hlen hO hS) fun H e s'=>Uk w H s₁ e s'
open PySem PySem.Spec PyProof.Rows
def inClass(s:Stmt)(j:Nat):Stmt:=match s with
 | .ClassDef _ _ _ body _ _ _ _ _ _ _=>body.getD j (.Pass ⟨0,0,0,0⟩)
 | _=>.Pass ⟨0,0,0,0⟩
def cV(s:Stmt):Arguments:=match s with
 | .FunctionDef _ a _ _ _ _ _ _ _ _=>a
 | _=>{posonlyargs:=[],args:=[],vararg:=none,kwonlyargs:=[],kw_defaults:=[],kwarg:=none,defaults:=[]}
def cE(s:Stmt):List Stmt:=match s with
 | .FunctionDef _ _ b _ _ _ _ _ _ _=>b
 | _=>[]
def ao(s:Stmt):Scope:=match s with
 | .FunctionDef _ _ _ _ _ _ sc _ _ _=>sc
 | _=>{kind:=.function,names:=[],isGenerator:=false,isCoroutine:=false}
abbrev bu:Ay:=fun _ _ _ _ _ _=>False
abbrev E0:XK:=fun _ _ _=>False
theorem aQ{X:Cx}:Passes bu X E0:=fun _ _ _ _ _ _ _ h=>h.elim
structure cy(K:gt)(x qual:Str)(st:Stmt)(f:Addr)(fd:el):Prop where
 ex:∃(oc:Value) (od:Option Addr) (kV doc pm:Value) (an:Option Addr) (J4 ct:Value) (osl:Array (Option Value)),
  fd=PySem.W.fnOf x qual (cV st) (cE st) (ao st) .none kV doc pm an J4 ct/\K.lookup f=some ⟨oc,od,.func fd,osl⟩/\PySem.W.codeIn K J4 qual=true
 kp:PySem.W.keepIn K (.ref f)=true
section
variable {P:Program}{w:World}{K:gt}{mg:Str->Option Value}{base:Heap}
theorem cy.ok{x qual:Str}{st:Stmt}{f:Addr}{fd:el}{N ps:List Str}{k:Nat}{sp:Sp}(F:cy K x qual st f fd)(S:aM N ps (ao st))(len:∀vs H Q E,sp vs H Q E->vs.length=ps.length)
  (hbody:∀(J4:Value) (A:Around) (outer:List Env) (s:Shared) (H:Hp) (vs:List V) (Q:VK) (E:XK),dU k (A.deeper (envOfC qual (ao st) s.heap.objs.size f J4))->sp vs H Q E->
   ∃t,qJ (gi bu P w K mg base N qual (ao st) f J4 A outer s H E).wo (cE st) t/\t {nx:=fun _ H'=>Q .non H',rt:=Q} (start N vs) H):aN P w K mg base bu (k+1) f fd ps sp:=by
 obtain⟨oc,od,kV,doc,pm,an,J4,ct,osl,rfl,lk,hcd⟩:=F.ex;refine Iu lk hcd S len fun A outer s H vs Q E hr hsp=>?_;obtain⟨t,h,q⟩:=hbody J4 A outer s H vs Q E hr hsp;exact⟨t,h.wo,q⟩
theorem cy.binds{x qual:Str}{st:Stmt}{f:Addr}{fd:el}{ps:List Str}(F:cy K x qual st f fd)
  (h:∀(kV doc pm:Value) (an:Option Addr) (J4 ct:Value) (us:List Value),us.length=ps.length->bindArgs (PySem.W.fnOf x qual (cV st) (cE st) (ao st) .none kV doc pm an J4 ct) ⟨us,[]⟩=pure (ps.zip us)):Binds K fd ps []:=by
 obtain⟨oc,od,kV,doc,pm,an,J4,ct,osl,rfl,lk,hcd⟩:=F.ex;exact .all (h kV doc pm an J4 ct)
theorem aW{x qual:Str}{st:Stmt}{f:Addr}{oc:Value}{od an:Option Addr}{osl:Array (Option Value)}{kV doc pm J4 ct:Value}(l:K.lookup f=some ⟨oc,od,.func (PySem.W.fnOf x qual (cV st) (cE st) (ao st) .none kV doc pm an J4 ct),osl⟩)
  (c:PySem.W.codeIn K J4 qual=true) (k:PySem.W.keepIn K (.ref f)=true):cy K x qual st f (PySem.W.fnOf x qual (cV st) (cE st) (ao st) .none kV doc pm an J4 ct):=⟨⟨oc,od,kV,doc,pm,an,J4,ct,osl,rfl,l,c⟩,k⟩
theorem iM{A:Around}{k:Nat}(hr:dU k A):A.units+1<cLine:=kU (Nat.add_le_add_left (by decide:1<=64) _) hr.units
theorem lF{n:Nat}(h:n<=1000):n<em:=kU h (by decide)
variable {X:Cx}
theorem pv(i:Nat){x:Str}{pos:Pos}(hN:X.N[i]? =some x:=by rfl)(hv:Tw X.env.scope x:=by first | exact Or.inl rfl | exact Or.inr (Or.inl rfl) | exact Or.inr (Or.inr rfl))(hd:(x==("__debug__": Str))=false:=by decide)
  (hcd:(x==("__classdict__": Str))=false:=by decide):PE X (.Name x pos) (Aq i):=JI hN hv hd hcd
theorem cK{c A B:Prop}[Decidable c](h1:c->A)(h2:¬c->B):if c then A else B:=by
 by_cases h:c
 ·rw[if_pos h];exact h1 h
 ·rw[if_neg h];exact h2 h
def Same(H H':Hp):Prop:=∀b o,H b=some o->H' b=some o
theorem Same.refl(H:Hp):Same H H:=fun _ _ h=>h
theorem Same.trans{H H1 H2:Hp}(a:Same H H1)(b:Same H1 H2):Same H H2:=fun c o h=>b c o (a c o h)
theorem Same.free{H H':Hp}(e:Same H H'){l:Addr}(h:H' l=Option.none):H l=Option.none:=by
 cases q:H l with
 | none=>rfl
 | some o=>
  rw[e l o q]at h;cases h
theorem Same.seq{K:gt}{H H':Hp}{a:Addr}{xs:List V}(e:Same H H')(h:aR K H a xs):aR K H' a xs:=by
 rcases h with (h | ⟨o,h⟩) | h
 ·exact .inl (.inl (e _ _ h))
 ·exact .inl (.inr ⟨o,e _ _ h⟩)
 ·exact .inr h
inductive u9(xs:List V)(H:Hp)(Q:VK):Prop
 | mk (a kvs) (_:xs=[V.ref a]) (_:H a=some (.dK kvs)) (_:Q (.int kvs.length) H)
theorem AJ:eL X (.builtin "len") u9:=by intro kb s σ H xs us Q I r h;obtain⟨a,kvs,rfl,ha,q⟩:=h;obtain⟨u,rfl,ru⟩:=vals1 r;cases ru;exact Oz I (.inl ha) fun t s' I'=>⟨.int kvs.length,H,I',⟨t,rfl⟩,q⟩
end
section
variable {κ:Type}[DecidableEq κ]
end
end L2
set_option maxHeartbeats 4000000
namespace L2
open PySem PySem.Spec PyProof.Rows
def dW(env:Env)(cs:List (Str×Addr))(nk:Str×NameKind):List (Str×Addr):=
 if nk.2== .free then (nk.1,(env.cells.lookup nk.1).getD 0)::cs else cs
def va(scope:Scope)(env:Env):List (Str×Addr):=scope.names.foldl (dW env) []
theorem FZ{scope:Scope}{env:Env}(h:∀y∈scope.names,y.2=.free->∃c,env.cells.lookup y.1=some c):closureFor scope env=pure (va scope env):=by
 have all:∀(l:List (Str×NameKind)) (cs:List (Str×Addr)),(∀y∈l,y.2=.free->∃c,env.cells.lookup y.1=some c)->
   (forIn l cs (fun x r=>if (x.2==NameKind.free)=true then do let a <-cellOf env x.1;pure (ForInStep.yield ((x.1,a)::r))else pure (ForInStep.yield r)):Sem (List (Str×Addr)))=pure (l.foldl (dW env) cs):=by
  intro l
  induction l with
  | nil=>intro cs _;rfl
  | cons y r ih=>
   intro cs hy;obtain⟨n,k⟩:=y;rw[List.forIn_cons,List.foldl_cons];by_cases hk:(k==NameKind.free)=true
   ·obtain⟨c,hc⟩:=hy (n,k) List.mem_cons_self (by simpa using hk);have e1:cellOf env n=pure c:=by unfold cellOf;rw[hc]
    have e2:dW env cs (n,k)=(n,c)::cs:=by unfold dW;rw[if_pos hk,hc];rfl
    rw[e2,<-ih _ fun z hz=>hy z (List.mem_cons_of_mem _ hz)];dsimp only;rw[if_pos hk,e1];rfl
   ·have e2:dW env cs (n,k)=cs:=by unfold dW;rw[if_neg hk]
    rw[e2,<-ih _ fun z hz=>hy z (List.mem_cons_of_mem _ hz)];dsimp only;rw[if_neg hk];rfl
 have e:=all scope.names [] h;unfold closureFor va;rw[<-e];simp only[bind_pure]
theorem vb{env:Env}:∀{l:List (Str×NameKind)} {cs:List (Str×Addr)} {n:Str} {c:Addr},(∀y∈l,y.2=.free->∃c,env.cells.lookup y.1=some c)->(n,c)∈l.foldl (dW env) cs->(n,c)∈cs\/env.cells.lookup n=some c
 | [],cs,n,c,_,m=>.inl m
 | (y,k)::r,cs,n,c,h,m=>by
  rcases vb (fun z hz=>h z (List.mem_cons_of_mem _ hz)) (show(n,c)∈r.foldl (dW env) (dW env cs (y,k))from m)with q | q
  ·unfold dW at q;by_cases hk:(k==NameKind.free)=true
   ·rw[if_pos hk]at q;rcases List.mem_cons.mp q with q | q
    ·obtain⟨d,hd⟩:=h (y,k) List.mem_cons_self (by simpa using hk);have hd:env.cells.lookup y=some d:=hd;injection q with q1 q2
     subst q1;rw[hd]at q2;subst q2;exact .inr hd
    ·exact .inl q
   ·rw[if_neg hk]at q;exact .inl q
  ·exact .inr q
theorem o8{env:Env}:∀{l:List (Str×NameKind)} {cs:List (Str×Addr)} {p:Str×Addr},p∈cs->p∈l.foldl (dW env) cs
 | [],_,_,m=>m
 | (y,k)::r,cs,p,m=>by
  refine o8 (l:=r) (cs:=dW env cs (y,k)) ?_;unfold dW;split
  ·exact List.mem_cons_of_mem _ m
  ·exact m
theorem vd{env:Env}:∀{l:List (Str×NameKind)} {cs:List (Str×Addr)} {n:Str},(n,NameKind.free)∈l->∃c,(n,c)∈l.foldl (dW env) cs
 | (y,k)::r,cs,n,m=>by
  rcases List.mem_cons.mp m with q | q
  ·cases q;exact⟨(env.cells.lookup y).getD 0,o8 (l:=r) (by simp[dW])⟩
  ·exact vd (l:=r) q
theorem o9{β:Type}:∀{l:List (Str×β)} {n:Str} {c:β},(n,c)∈l->∃d,l.lookup n=some d
 | (k,v)::r,n,c,m=>by
  rw[List.lookup_cons];cases e:n==k with
  | true=>exact⟨v,rfl⟩
  | false=>
   rcases List.mem_cons.mp m with q | q
   ·cases q;simp at e
   ·exact o9 q
theorem dQ{env:Env}(hf:env.scope.kind=.function):∀{names:List (Str×NameKind)} {x:Str},names.lookup x=some .free->env.kindOf x=some .cell->
  (names.map fun(n,k)=>if (k==NameKind.free&&env.scope.kind== .function&&env.kindOf n==some .cell)then (n,NameKind.cell)else (n,k)).lookup x=some .cell
 | [],_,h,_=>by simp at h
 | (n,k)::r,x,h,hc=>by
  have ih:=@dQ env hf r x;show List.lookup x ((if (k==NameKind.free&&env.scope.kind== .function&&env.kindOf n==some .cell)=true then (n,NameKind.cell)else (n,k))::_)=_;cases hx:x==n with
  | true=>
   have e:x=n:=by simpa using hx
   subst e;simp only[List.lookup_cons,hx]at h;cases h;rw[if_pos (by rw[hf,hc];rfl)];simp[List.lookup_cons]
  | false=>
   simp only[List.lookup_cons,hx]at h;by_cases hc':(k==NameKind.free&&env.scope.kind== .function&&env.kindOf n==some .cell)=true
   ·rw[if_pos hc'];simp only[List.lookup_cons,hx];exact ih h hc
   ·rw[if_neg hc'];simp only[List.lookup_cons,hx];exact ih h hc
def mZ(sc scope:Scope)(N:List Str):List Str->List (Option Nat)->Bool
 | [],[]=>true
 | _::r,none::f=>mZ sc scope N r f
 | y::r,some i::f=>(N[i]? ==some y)&&(scope.names.lookup y==some .free)&&(sc.names.lookup y==some .cell)&&mZ sc scope N r f
 | _,_=>false
structure cC(sc scope:Scope)(N N':List Str)(fr:List (Option Nat)):Prop where
 kind:scope.kind=.function
 CU:∀y∈scope.names,y.2≠.cell
 names:∀y∈scope.names,y.2=.local->scope.names.lookup y.1=some .local
 free:∀y∈scope.names,y.2=.free->sc.names.lookup y.1=some .cell
 nd:N'.Nodup
 fr:mZ sc scope N N' fr=true
def AK(fr:List (Option Nat))(σ:St):St:=fr.map fun o=>o.bind fun i=>(σ[i]?).join
theorem pe{sc scope:Scope}{N:List Str}:∀{N':List Str} {fr:List (Option Nat)},mZ sc scope N N' fr=true->fr.length=N'.length
 | [],[],_=>rfl
 | _::r,none::f,h=>by simp only[ci];rw[pe (N':=r) (fr:=f) h]
 | y::r,some i::f,h=>by
  unfold mZ at h;simp only[Bool.and_eq_true]at h;simp only[ci];rw[pe (N':=r) (fr:=f) h.2]
 | [],_::_,h=>by simp[mZ]at h
 | _::_,[],h=>by simp[mZ]at h
theorem sQ{sc scope:Scope}{N:List Str}:∀{N':List Str} {fr:List (Option Nat)} {j i:Nat} {y:Str},mZ sc scope N N' fr=true->N'[j]? =some y->fr[j]? =some (some i)->N[i]? =some y/\scope.names.lookup y=some .free/\sc.names.lookup y=some .cell
 | [],[],_,_,_,_,h,_=>by simp at h
 | _::r,none::f,0,i,y,_,_,h=>by simp at h
 | _::r,none::f,j+1,i,y,h,h1,h2=>sQ (N':=r) (fr:=f) (j:=j) h (by simpa using h1) (by simpa using h2)
 | z::r,some k::f,0,i,y,h,h1,h2=>by
  unfold mZ at h;simp only[Bool.and_eq_true,beq_iff_eq]at h;have e1:z=y:=by simpa using h1
  have e2:k=i:=by simpa using h2
  subst e1 e2;exact⟨h.1.1.1,h.1.1.2,h.1.2⟩
 | z::r,some k::f,j+1,i,y,h,h1,h2=>by
  unfold mZ at h;simp only[Bool.and_eq_true]at h;exact sQ (N':=r) (fr:=f) (j:=j) h.2 (by simpa using h1) (by simpa using h2)
 | [],_::_,_,_,_,h,_,_=>by simp[mZ]at h
 | _::_,[],_,_,_,h,_,_=>by simp[mZ]at h
def dZ(X:Cx)(scope:Scope)(C:Addr)(N':List Str)(s₀:Shared)(H₀:Hp)(fp:List Addr):Cx where
 prog:=X.prog
 w:=X.w
 K:=X.K
 mg:=X.mg
 base:=X.base
 A:=X.A
 N:=N'
 s₀:=s₀
 H₀:=H₀
 env:=compEnvC scope (va scope X.env) C X.env
 outer:=X.stack
 stack:=X.stack
 ex:=fp
 calm:=true
 fn:=fun _=>false
 pn:=[]
 xe:=fun _ _=>False
section
variable {X:Cx}{scope:Scope}{N':List Str}{fr:List (Option Nat)}{kb:List (Addr×Obj)}{σ:St}{H:Hp}{s:Shared}{fp:List Addr}
theorem Inv.block{h1:Heap}{t1:Nat}{m:Str->Option Value}(S:cC X.env.scope scope X.N N' fr)(hc:X.calm=true)(I:Inv X kb σ H s)(hf:∀b∈fp,oP X kb H b)(hlt:∀b∈fp,b<s.heap.objs.size)
  (hns:h1.Ns s.heap.objs.size m) (old:∀b o,s.heap.get? b=some o->h1.get? b=some o):
  Inv (dZ X scope s.heap.objs.size N' s H fp) [] (AK fr σ) H {s with heap:=h1,toks:=t1}:=by
 have hfree:∀y∈scope.names,y.2=.free->∃c,X.env.cells.lookup y.1=some c:=fun y hy e=>I.ok.has y.1 (.inl (S.free y hy e));have cl1:∀y c,(va scope X.env).lookup y=some c->X.env.cells.lookup y=some c:=fun y c e=>by
  rcases vb (cs:=[]) hfree (PySem.mem_of_lookup e)with q | q
  ·exact absurd q (by simp)
  ·exact q
 have has:∀y,((relabel scope X.env).names.lookup y=some .cell\/(relabel scope X.env).names.lookup y=some .free)->∃c,(va scope X.env).lookup y=some c:=fun y hy=>by
  have q:(y,NameKind.free)∈scope.names:=by
   have m:∃k,(k=NameKind.cell\/k=NameKind.free)/\(y,k)∈(relabel scope X.env).names:=by
    rcases hy with hy | hy
    ·exact⟨_,.inl rfl,PySem.mem_of_lookup hy⟩
    ·exact⟨_,.inr rfl,PySem.mem_of_lookup hy⟩
   obtain⟨k,hk,m⟩:=m;obtain⟨⟨n,k0⟩,hm,e⟩:=List.mem_map.mp m;dsimp only at e;by_cases hq:(k0==NameKind.free&&X.env.scope.kind== .function&&X.env.kindOf n==some .cell)=true
   ·rw[if_pos hq]at e;simp only[Bool.and_eq_true,beq_iff_eq]at hq;injection e with e1 e2
    rw[<-e1,<-hq.1.1];exact hm
   ·rw[if_neg hq]at e;injection e with e1 e2
    subst e1 e2;rcases hk with hk | hk
    ·exact absurd hk (S.CU _ hm)
    ·rw[<-hk];exact hm
  obtain⟨c,mc⟩:=vd (env:=X.env) (cs:=[]) q;exact o9 mc
 have ltC:∀y c,X.env.cells.lookup y=some c->c<s.heap.objs.size:=fun y c e=>by obtain⟨v,q⟩:=I.cell y c e;exact q.lt
 refine⟨⟨I.ok.mod,S.kind,I.ok.glob,I.ok.blt,ki _,fun x y c e1 e2=>I.ok.inj x y c (cl1 x c e1) (cl1 y c e2),has,fun x c e _=>absurd e (by simp[dZ]),fun _=>I.ok.hd hc,I.ok.frames,.inl rfl,
   fun b hb=>⟨kt (hlt b hb),fun x c e=>(hf b hb).2.2.2.2.1 x c (cl1 x c e)⟩,I.bs,li I.ok.FH I.sz,fun b o e hb=>?_,fun b hb z=>?_,I.stack,I.sy⟩,
  rfl,I.bare,Un.kept old,⟨m,hns,fun i x v e1 e2 e3=>?_⟩,fun x c e=>?_,I.fresh,fun x c e=>I.iJ x c (cl1 x c e),fun p hp=>absurd hp (by simp[dZ]),I.hok.kept old,?_⟩
 ·rcases(hf b hb).2.2.2.1 with z | z
  ·exact I.ok.Ci b o e z
  ·exact absurd (Nat.lt_of_lt_of_le (fw e) (li I.ok.FH z)) (Nat.lt_irrefl _)
 ·rcases List.mem_cons.mp (I.sx b z)with q | q
  ·exact(hf b hb).2.1 q
  ·exact(hf b hb).2.2.1 q
 ·
  have e2:(AK fr σ)[i]? =some (some v):=e2;unfold AK at e2;rw[ag]at e2;cases q:fr[i]? with
  | none=>rw[q]at e2;cases e2
  | some o=>
   rw[q]at e2;cases o with
   | none=>cases e2
   | some j=>
    have e2:(σ[j]?).join=some v:=Option.some.inj e2;have e4:σ[j]? =some (some v):=by
     cases r:σ[j]? with
     | none=>rw[r]at e2;cases e2
     | some w=>rw[r]at e2;exact congrArg some e2
    obtain⟨f1,f2,f3⟩:=sQ S.fr e1 q;obtain⟨m0,_,hl⟩:=I.loc;obtain⟨u,r,l⟩:=hl j x v f1 e4 (.inr (.inl f3));refine⟨u,r,.inr ⟨.inl (dQ I.ok.kind f2 f3),?_⟩⟩;obtain⟨c,hc⟩:=has x (.inl (dQ I.ok.kind f2 f3));rcases l with ⟨k,_⟩ | ⟨_,c',hc',ho⟩
    ·have k:X.env.scope.names.lookup x=some .local:=k;rw[f3]at k;cases k
    ·have e:c=c':=Option.some.inj ((cl1 x c hc).symm.trans hc');subst e;obtain⟨o,ho,hd⟩:=ho;exact⟨c,hc,o,old c o ho,hd⟩
 ·obtain⟨v,o,ho,hd⟩:=I.cell x c (cl1 x c e);exact⟨v,o,old c o ho,hd⟩
 ·show(AK fr σ).length=N'.length;unfold AK;rw[List.length_map];exact pe S.fr
end
def Nq(X:Cx)(ifs:List Expr)(t:TT):Prop :=
 ∀(kb:List (Addr×Obj)) (s:Shared) (σ:St) (H:Hp) (Q:Bool->Hp->Prop),Inv X kb σ H s->t σ H Q->
  wpAny (model X.prog X.w) X.A (forIn ifs true fun c r=>if r=true then do let ok <-isTrue c X.env (eval c X.env);pure (ForInStep.yield ok)else pure (ForInStep.yield r)) (TP X kb σ Q) X.xe s
def Ul:TT:=fun _ H Q=>Q true H
theorem df{X:Cx}:Nq X [] Ul:=fun _ _ _ H _ I q=>wpAny_tests_nil ⟨H,I,q⟩
theorem j7{X:Cx}{c:Expr}{t:TT}(h:PT X c t):Nq X [c] t:=fun kb s σ H Q I q=>wpAny_tests_one (h kb s σ H Q I q)
theorem sR{prog:Program}{w:World}{A:Around}{R:Result->Shared->Prop}{s:Shared}{elt target iter:Expr}{ifs:List Expr}{scope:Scope}{pos:Pos}{it acc:Value}{env:Env}(I:Nat->Shared->Prop)
  (turn:∀n s,I n s->wpAny (model prog w) A (pyNext it) (fun r s₁=>match r with
   | none=>R (.ok .next) s₁
   | some v=>wpAny (model prog w) A (letOwnedTupleGo target it v) (fun _ s₀=>wpAny (model prog w) A (assign target env v) (fun _ s₂=>
     wpAny (model prog w) A (forIn ifs true fun c r=>if r=true then do let ok <-isTrue c env (eval c env);pure (ForInStep.yield ok)else pure (ForInStep.yield r)) (fun ok s₃=>
      if ok=true then wpAny (model prog w) A (eval elt env) (fun x s₄=>
       wpAny (model prog w) A (call (.builtin "list.append") [acc,x]) (fun _ s₅=>∃m,m<n/\I m s₅) (fun _ _=>False) s₄) (fun _ _=>False) s₃
      else ∃m,m<n/\I m s₃) (fun _ _=>False) s₂) (fun _ _=>False) s₀) (fun _ _=>False) s₁) (fun _ _=>False) s)
  (n:Nat) (h:I n s):
  codeAny (model prog w) A (.compLoop (.ListComp elt [⟨target,iter,ifs,0⟩] scope pos) 0 it acc env) R s:=by
 refine codeAny_loop rfl I (fun n s hI=>?_) n h;show wpAny _ A ((compTurn (.ListComp elt [⟨target,iter,ifs,0⟩] scope pos) 0 it acc env).onRaise (fun x=>do noteFrame x env;theTreesLotGoes x)) _ _ s;refine wpAny_noted ?_;rw[compTurn_list];refine de (wpAny_standAt (de (en (turn n s hI) (fun r s₁ h₁=>?_) fun _ _ h'=>h'.elim)));cases r with
 | none=>exact dL h₁
 | some v=>
  refine de (en h₁ (fun _ s₀ h₀=>?_) fun _ _ h'=>h'.elim);refine de (en h₀ (fun _ s₂ h₂=>de (en h₂ (fun ok s₃ h₃=>?_) fun _ _ h'=>h'.elim)) fun _ _ h'=>h'.elim);cases ok with
  | false=>exact dL ⟨rfl,h₃⟩
  | true=>
   exact de (de (en h₃ (fun x s₄ h₄=>de (en h₄ (fun _ s₅ h₅=>dL (dL ⟨rfl,h₅⟩)) fun _ _ h'=>h'.elim)) fun _ _ h'=>h'.elim))
def CV(fr:List (Option Nat))(wi:TI)(g:TG)(tt:TT)(te:TE):TE:=fun σ H Q=>wi σ H fun J H1=>∀D,H1 D=none->
 ∃W:Nat->Nat->St->List V->Hp->Prop,(∃m,W 0 m (AK fr σ) [] (upd H1 D (.lst [])))/\∀i m σ ys H,W i m σ ys H->
  (J.stop i H/\Q (.ref D) H)\/(J.go i H/\∃N:St->List V->Hp->Prop,(∀σ' ys' H',N σ' ys' H'->∃m',m'<m/\W (i+1) m' σ' ys' H')/\∀x H',J.B3 i H x H'->g x σ H' fun σ2 H2=>tt σ2 H2 fun b H3=>
   if b=true then te σ2 H3 fun v H4=>H4 D=some (.lst ys)/\ys.length<em/\N σ2 (ys++ [v]) (upd H4 D (.lst (ys++ [v])))
   else N σ2 ys H3)
theorem vf{X:Cx}{elt tg iter:Expr}{ifs:List Expr}{scope:Scope}{pos cpos:Pos}{wi:TI}{g:TG}{tt:TT}{te:TE}{N':List Str}{fr:List (Option Nat)}(S:cC X.env.scope scope X.N N' fr)(hc:X.calm=true)(hi:PI X tg iter wi)
  (hg:∀C s0 H0 fp,PG (dZ X scope C N' s0 H0 fp) tg g) (ht:∀C s0 H0 fp,Nq (dZ X scope C N' s0 H0 fp) ifs tt) (he:∀C s0 H0 fp,PE (dZ X scope C N' s0 H0 fp) elt te)
  (hs:∀x,foldedSetIterable iter X.env x=pure x) {kb:List (Addr×Obj)} {s:Shared} {σ:St} {H:Hp} {Q:VK} (I:Inv X kb σ H s) (h:CV fr wi g tt te σ H Q) (use:Option (Value->Sem Unit)) (QQ:Value->Shared->Prop)
  (fin:∀(D C:Addr) (H5:Hp) (s6:Shared),Inv X kb σ H5 s6->Q (.ref D) H5->H5 C=none->C≠X.env.locals->X.s₀.heap.objs.size<=C->(∀x c,X.env.cells.lookup x=some c->c≠C)->(∀p∈X.pn++kb,p.1≠C)->(∃m,s6.heap.Ns C m)->
   compPost (model X.prog X.w) X.A X.xe use QQ (.ref D) C (.ok .next) s6):
  wpAny (model X.prog X.w) X.A (comprehension (.ListComp elt [⟨tg,iter,ifs,0⟩] scope pos) scope X.env cpos (newList []) false (eval iter X.env) use) QQ X.xe s:=by
 have hfree:∀y∈scope.names,y.2=.free->∃c,X.env.cells.lookup y.1=some c:=fun y hy e=>I.ok.has y.1 (.inl (S.free y hy e));refine wpAny_comprehension_free (use:=use) rfl hs (FZ hfree) S.kind S.names (cz (hi kb s σ H _ I h) fun v s1 h1=>cz h1 fun itv s2 h2=>?_);obtain⟨it,fp,tn,J,H2,e,I2,T,st2,f2,hD⟩:=h2;subst e;obtain⟨W,⟨m0,w0⟩,turn⟩:=hD s2.heap.objs.size I2.fresh;refine wpAny_newObj_type ?_;have I3:Inv X kb σ (upd H2 s2.heap.objs.size (.lst [])) {s2 with heap:=s2.heap.push {cls:=.type "list",data:=.seq ([]:List Value).toArray},toks:=s2.toks}:=I2.JX (ys:=[]) .nil (Nat.zero_le _)
 revert I3
 generalize eD:s2.heap.objs.size=D at*;generalize e3:({s2 with heap:=s2.heap.push {cls:=.type "list",data:=.seq ([]:List Value).toArray},toks:=s2.toks}:Shared)=s3;intro I3;have k3:∀b o,s2.heap.get? b=some o->s3.heap.get? b=some o:=fun b o e=>by rw[<-e3];exact fg _ e
 refine wpAny_newFunctionEnv S.CU (by intro y hy;simp at hy) (fun h4 hns hsb=>?_) S.kind;have old:∀b o,s3.heap.get? b=some o->h4.get? b=some o:=fun b o e=>hsb.extBut b o (kt (fw e)) (fg _ e);have fD:∀b∈fp,b≠D:=fun b hb z=>by obtain⟨o,ho,_⟩:=T.obj _ _ st2 b hb;exact absurd (fw ho) (by rw[z,eD];exact Nat.lt_irrefl _)
 have f3:∀b∈fp,oP X kb (upd H2 D (.lst [])) b:=fun b hb=>⟨by rw[az (fD b hb)];exact(f2 b hb).1,(f2 b hb).2⟩;have l3:∀b∈fp,b<s3.heap.objs.size:=fun b hb=>by obtain⟨o,ho,_⟩:=T.obj _ _ st2 b hb;exact fw (k3 b o ho)
 have I4:=Inv.block (t1:=s3.toks+([]:List (Str×Value)).length) (scope:=scope) S hc I3 f3 l3 hns old;generalize eX:dZ X scope s3.heap.objs.size N' s3 (upd H2 D (.lst [])) fp=X' at I4;have Gc:tn 0 h4:=T.keep _ _ _ st2 fun b hb o e=>old b o (k3 b o e);have stat:∀{H':Hp},(∀b∈fp,H' b=none)->∀b∈fp,oP X' [] H' b:=fun {H'} hn b hb=>by
  subst eX;refine⟨hn b hb,kt (l3 b hb),?_,.inl hb,?_,fun p hp=>absurd hp (by simp[dZ])⟩
  ·exact I4.ok.Cj b hb
  ·exact(I4.ok.Tx b hb).2
 show codeAny _ _ (.compStart _ 0 (.ref it) (.ref D) (compEnvC scope (va scope X.env) s3.heap.objs.size X.env)) (compPost _ _ _ use _ (.ref D) s3.heap.objs.size) _;have hX:X'.prog=X.prog/\X'.w=X.w/\X'.K=X.K/\X'.A=X.A/\X'.calm=true/\X'.env=compEnvC scope (va scope X.env) s3.heap.objs.size X.env/\X'.xe=(fun _ _=>False)/\X'.s₀=s3/\X'.H₀=upd H2 D (.lst [])/\X'.fs=frs X.stack/\X'.ex=fp:=by subst eX;exact⟨rfl,rfl,rfl,rfl,rfl,rfl,rfl,rfl,rfl,rfl,rfl⟩
 have hg':PG X' tg g:=by subst eX;exact hg _ _ _ _
 have ht':Nq X' ifs tt:=by subst eX;exact ht _ _ _ _
 have he':PE X' elt te:=by subst eX;exact he _ _ _ _
 clear eX;obtain⟨x1,x2,x3,x4,x5,x6,x7,x8,x9,x10,x11⟩:=hX;have loop:codeAny (model X.prog X.w) X.A (.compLoop (.ListComp elt [⟨tg,iter,ifs,0⟩] scope pos) 0 (.ref it) (.ref D) (compEnvC scope (va scope X.env) s3.heap.objs.size X.env))
   (compPost (model X.prog X.w) X.A X.xe use QQ (.ref D) s3.heap.objs.size) {s3 with heap:=h4,toks:=s3.toks+([]:List (Str×Value)).length}:=by
  refine sR (fun n s'=>∃i σ' ys H',Inv X' [] σ' H' s'/\tn i s'.heap/\(∀b∈fp,H' b=none)/\W i n σ' ys H') ?_ m0 ⟨0,_,[],_,I4,Gc,fun b hb=>(f3 b hb).1,w0⟩;rintro n s5 ⟨i,σ5,ys,H5,I5,wq,RY,w5⟩;rcases turn i n σ5 ys H5 w5 with ⟨stop,qn⟩ | ⟨go,N,hN,step⟩
  ·have z:=T.done X' x1 x2 x3 x5 i [] s5 σ5 H5 (fun _ _=>False) I5 (stat RY) wq stop;rw[x4]at z;refine cz z fun r s6 ⟨hr,I6⟩=>?_;subst hr;obtain⟨mm,YM,_⟩:=I6.loc;have hL:X'.env.locals=s3.heap.objs.size:=by rw[x6];rfl
   rw[hL]at YM;have nC:H5 s3.heap.objs.size=none:=by have:=I6.free;rw[hL]at this;exact this
   have base:=I6.base;rw[x8,x9,x10,x11]at base;have hok:ji X.prog X.w H5 s6.heap:=by have q:=I6.hok;rw[x1,x2]at q;exact q
   have os:s6.os=s3.os:=by have:=I6.os;rw[x8]at this;exact this
   have IX:Inv X kb σ H5 s6:=I3.call' os base hok I6.bare fun b hb=>⟨(f3 b hb).2.2.2.1,(f3 b hb).2.1,(f3 b hb).2.2.2.2.1,(f3 b hb).2.2.2.2.2⟩;refine fin D s3.heap.objs.size H5 s6 IX qn nC (Nat.ne_of_gt I3.lt) I3.sz (fun x c e=>?_) (fun p hp=>?_) ⟨mm,YM⟩
   ·obtain⟨v,q⟩:=I3.cell x c e;exact kt q.lt
   ·exact kt (fw (I3.pin p hp).1)
  ·have z:=T.item X' x1 x2 x3 x5 i [] s5 σ5 H5 (fun _ _=>False) I5 (stat RY) wq go;rw[x4]at z;refine cz z fun r s6 ⟨u,hr,h6⟩=>?_;subst hr;refine cz h6 fun _ s7 ⟨x,H7,I7,r7,y7,Um,fr7⟩=>?_;have I7':=I7.pinned (stat fr7) (T.obj _ _ Um);have again:∀{σ':St} {H':Hp} {s':Shared},Inv X' ([]++oQ fp s7.heap) σ' H' s'->Inv X' [] σ' H' s'/\tn (i+1) s'.heap/\∀b∈fp,H' b=none:=fun {σ' H' s'} J=>by refine⟨J.jZ,T.keep _ _ _ Um fun b hb o e=>(J.pin (b,o) (List.mem_append_right _ (List.mem_append_right _ (ig hb e)))).1,fun b hb=>?_⟩;obtain⟨o,e,d⟩:=T.obj _ _ Um b hb;exact(J.pin (b,o) (List.mem_append_right _ (List.mem_append_right _ (ig hb e)))).2.1
   have z:=hg' _ s7 σ5 H7 x u _ I7' r7 (step x H7 y7);rw[x1,x2,x4,x6,x7]at z;refine cz z fun _ s8 ⟨σ8,H8,I8,q8⟩=>?_;have z:=ht' _ s8 σ8 H8 _ I8 q8;rw[x1,x2,x4,x6,x7]at z;refine cz z fun b s9 ⟨H9,I9,q9⟩=>?_;cases b with
   | false=>
    rw[if_neg lm]at q9 ⊢;obtain⟨m',hm,w9⟩:=hN _ _ _ q9;obtain⟨a1,a2,a3⟩:=again I9;exact⟨m',hm,i+1,σ8,ys,H9,a1,a2,a3,w9⟩
   | true=>
    rw[if_pos rfl]at q9 ⊢;have z:=he' _ s9 σ8 H9 _ I9 q9;rw[x1,x2,x4,x6,x7]at z;refine cz z fun v' qN ⟨y,YN,I10,r10,Uo,hz,w10⟩=>?_;have z:=eY (X:=X') _ qN σ8 YN (.ref D) [y] (.ref D) [v'] (fun _ H'=>N σ8 (ys++ [y]) H') I10 rfl (.cons r10 .nil) ⟨D,ys,y,rfl,rfl,Uo,hz,w10⟩;rw[x1,x2,x4,x7]at z;refine cz z fun _ pj ⟨_,H11,I11,_,w11⟩=>?_;obtain⟨m',hm,w11⟩:=hN _ _ _ w11;obtain⟨a1,a2,a3⟩:=again I11;exact⟨m',hm,i+1,σ8,_,H11,a1,a2,a3,w11⟩
 exact codeAny_compStart_list loop (T.self _ 0 _ _ _ Gc loop)
theorem cW{X:Cx}{elt tg iter:Expr}{ifs:List Expr}{scope:Scope}{pos:Pos}{wi:TI}{g:TG}{tt:TT}{te:TE}{N':List Str}{fr:List (Option Nat)}(S:cC X.env.scope scope X.N N' fr)(hc:X.calm=true)(hi:PI X tg iter wi)
  (hg:∀C s0 H0 fp,PG (dZ X scope C N' s0 H0 fp) tg g) (ht:∀C s0 H0 fp,Nq (dZ X scope C N' s0 H0 fp) ifs tt) (he:∀C s0 H0 fp,PE (dZ X scope C N' s0 H0 fp) elt te)
  (hs:∀x,foldedSetIterable iter X.env x=pure x:=by intro _;rfl):PE X (.ListComp elt [⟨tg,iter,ifs,0⟩] scope pos) (CV fr wi g tt te):=by
 intro kb s σ H Q I h;rw[eval_ListComp];refine vf S hc hi hg ht he hs I h none _ fun D C H5 s6 IX q nC c1 c2 c3 c4 hm=>?_;obtain⟨m,hm⟩:=hm;refine⟨m,hm,fun h' hs'=>⟨.ref D,H5,IX.turned (t':=s6.toks) (it:=C) (fun b o hb e=>hs'.extBut b o hb e) nC c1 (.inr c2) c3 c4,rfl,q⟩⟩
theorem oC{X:Cx}{elt tg iter:Expr}{ifs:List Expr}{scope:Scope}{pos spos py:Pos}{y:Str}{i:Nat}{wi:TI}{g:TG}{tt:TT}{te:TE}{N':List Str}{fr:List (Option Nat)}(hN:X.N.Nodup)(hy:X.N[i]? =some y)(hl:X.env.scope.names.lookup y=some .local)
  (S:cC X.env.scope scope X.N N' fr) (hc:X.calm=true) (hi:PI X tg iter wi)
  (hg:∀C s0 H0 fp,PG (dZ X scope C N' s0 H0 fp) tg g) (ht:∀C s0 H0 fp,Nq (dZ X scope C N' s0 H0 fp) ifs tt) (he:∀C s0 H0 fp,PE (dZ X scope C N' s0 H0 fp) elt te)
  (hs:∀x,foldedSetIterable iter X.env x=pure x:=by intro _;rfl) (hsw:swapsWith (.ListComp elt [⟨tg,iter,ifs,0⟩] scope pos) (some (.Name y py)) spos.line X.env=pure true:=by rfl):
  PS X (.Assign [.Name y py] (.ListComp elt [⟨tg,iter,ifs,0⟩] scope pos) spos) (Cw (CV fr wi g tt te) (iL i)):=by
 intro kb s σ H D I h;rw[exec_Assign_Name_used _ _ _ _ hsw];refine de (wpAny_standAt (de ?_));show wpAny _ X.A (do let _ <-comprehension (.ListComp elt [⟨tg,iter,ifs,0⟩] scope pos) scope X.env _ (newList []) false (eval iter X.env) (some (assign (.Name y py) X.env))) _ _ s;refine de (cz (vf S hc hi hg ht he hs I h (some (assign (.Name y py) X.env)) (fun _ s'=>SP X kb D .next s') fun L C H5 s6 IX q nC c1 c2 c3 c4 hm=>?_) fun _ s' hq=>dL (dL hq));obtain⟨m,hm⟩:=hm;show wpAny _ X.A (assign (.Name y py) X.env (.ref L)) _ _ _;refine wpAny_assign_Name (rM IX hN hy (.inl hl) (show RelV (.ref L) (Value.ref L)from rfl) (fun s7 I7 hch=>?_) (.inr hl));obtain⟨a,hsb,ha⟩:=hch;have hCa:C≠a:=by
  rcases ha with ha | ha
  ·rw[ha];exact c1
  ·exact(c3 _ _ ha).symm
 refine⟨m,hm.at' (fun o e=>(hsb.2 C hCa).trans e),fun h' hs'=>⟨_,H5,I7.turned (t':=s7.toks) (it:=C) (fun b o hb e=>hs'.extBut b o hb e) nC c1 (.inr c2) c3 c4,q⟩⟩
theorem pq{lo:Int}{n:Nat}{g:TG}{tt:TT}{te:TE}{R:Hp->Prop}{D:Addr}{σ0:St}{H0:Hp}(Pv:Nat->St->List V->Hp->Prop)(h0:Pv 0 σ0 [] H0)
  (hs:∀i σ ys H,i<n->Pv i σ ys H->g (.int (lo+i)) σ H fun σ2 H2=>tt σ2 H2 fun b H3=>
   if b=true then te σ2 H3 fun v H4=>H4 D=some (.lst ys)/\ys.length<em/\Pv (i+1) σ2 (ys++ [v]) (upd H4 D (.lst (ys++ [v])))else Pv (i+1) σ2 ys H3)
  (hd:∀σ ys H,Pv n σ ys H->R H):
  ∃W:Nat->Nat->St->List V->Hp->Prop,(∃m,W 0 m σ0 [] H0)/\∀i m σ ys H,W i m σ ys H->
   ((FI lo n).stop i H/\R H)\/((FI lo n).go i H/\∃N:St->List V->Hp->Prop,(∀σ' ys' H',N σ' ys' H'->∃m',m'<m/\W (i+1) m' σ' ys' H')/\∀x H',(FI lo n).B3 i H x H'->g x σ H' fun σ2 H2=>tt σ2 H2 fun b H3=>
    if b=true then te σ2 H3 fun v H4=>H4 D=some (.lst ys)/\ys.length<em/\N σ2 (ys++ [v]) (upd H4 D (.lst (ys++ [v])))else N σ2 ys H3):=by
 refine⟨fun i m σ ys H=>m=n-i/\i<=n/\Pv i σ ys H,⟨n,by simp,Nat.zero_le _,h0⟩,?_⟩;rintro i m σ ys H ⟨rfl,hi,p⟩;by_cases hlt:i<n
 ·refine .inr ⟨hlt,Pv (i+1),fun σ' ys' H' p'=>⟨n- (i+1),by omega,rfl,hlt,p'⟩,fun x H' y=>?_⟩;obtain⟨e,y⟩:=y;subst e y;exact hs i σ ys _ hlt p
 ·have e:i=n:=by omega
  subst e;exact .inl ⟨ki _,hd σ ys H p⟩
theorem cO{K:gt}{a:Addr}{xs:List V}{g:TG}{tt:TT}{te:TE}{R:Hp->Prop}{D:Addr}{σ0:St}{H0:Hp}(Pv:Nat->St->List V->Hp->Prop)(h0:Pv 0 σ0 [] H0)(hl:∀i σ ys H,i<=xs.length->Pv i σ ys H->aR K H a xs)
  (hs:∀i x σ ys H,xs[i]? =some x->Pv i σ ys H->g x σ H fun σ2 H2=>tt σ2 H2 fun b H3=>
   if b=true then te σ2 H3 fun v H4=>H4 D=some (.lst ys)/\ys.length<em/\Pv (i+1) σ2 (ys++ [v]) (upd H4 D (.lst (ys++ [v])))else Pv (i+1) σ2 ys H3)
  (hd:∀σ ys H,Pv xs.length σ ys H->R H):
  ∃W:Nat->Nat->St->List V->Hp->Prop,(∃m,W 0 m σ0 [] H0)/\∀i m σ ys H,W i m σ ys H->
   ((Im K a).stop i H/\R H)\/((Im K a).go i H/\∃N:St->List V->Hp->Prop,(∀σ' ys' H',N σ' ys' H'->∃m',m'<m/\W (i+1) m' σ' ys' H')/\∀x H',(Im K a).B3 i H x H'->g x σ H' fun σ2 H2=>tt σ2 H2 fun b H3=>
    if b=true then te σ2 H3 fun v H4=>H4 D=some (.lst ys)/\ys.length<em/\N σ2 (ys++ [v]) (upd H4 D (.lst (ys++ [v])))else N σ2 ys H3):=by
 refine⟨fun i m σ ys H=>m=xs.length-i/\i<=xs.length/\Pv i σ ys H,⟨xs.length,by simp,Nat.zero_le _,h0⟩,?_⟩;rintro i m σ ys H ⟨rfl,hi,p⟩;have q:=hl i σ ys H hi p;by_cases hlt:i<xs.length
 ·refine .inr ⟨⟨xs,xs[i],q,by simp[hlt]⟩,Pv (i+1),fun σ' ys' H' p'=>⟨xs.length- (i+1),by omega,rfl,hlt,p'⟩,fun x H' y=>?_⟩;obtain⟨e,y⟩:=y;subst e;exact hs i x σ ys _ (y xs q) p
 ·have e:i=xs.length:=by omega
  subst e;exact .inl ⟨⟨xs,q,ki _⟩,hd σ ys H p⟩
end L2
namespace SF
open PySem
def qO(xs:Array Nat):Prop:=∀i k,i<k->k<xs.size->xs.getD i 0<xs.getD k 0
theorem CW{xs:Array Nat}{i a b:Nat}(h:i<xs.size):xs.getD i a=xs.getD i b:=by simp[Array.getD,h]
theorem Gd{xs:Array Nat}{j:Nat}(hr:qO xs):∀(f lo hi:Nat),lo<=hi->hi<=xs.size->hi-lo<=f->(∀i,i<lo->xs.getD i 0<j)->(∀i,hi<=i->i<xs.size->j<=xs.getD i 0)->
  SetTable.below.go xs j f lo hi<=xs.size/\(∀i,i<SetTable.below.go xs j f lo hi->xs.getD i 0<j)/\∀i,SetTable.below.go xs j f lo hi<=i->i<xs.size->j<=xs.getD i 0:=by
 intro f
 induction f with
 | zero=>
  intro lo hi h1 h2 h3 h4 h5;have e:lo=hi:=by omega
  subst e;exact⟨h2,h4,h5⟩
 | succ f ih=>
  intro lo hi h1 h2 h3 h4 h5;unfold SetTable.below.go;by_cases hlt:lo<hi
  ·rw[if_pos hlt];have m1:(lo+hi)/2<hi:=by omega
   have m2:lo<=(lo+hi)/2:=by omega
   dsimp only;rw[CW (b:=0) (Nat.lt_of_lt_of_le m1 h2)];by_cases hm:xs.getD ((lo+hi)/2) 0<j
   ·rw[if_pos hm];refine ih _ _ (by omega) h2 (by omega) (fun i hi'=>?_) h5;rcases Nat.lt_or_ge i ((lo+hi)/2)with q | q
    ·exact Nat.lt_trans (hr i _ q (by omega)) hm
    ·have e:i=(lo+hi)/2:=by omega
     rw[e];exact hm
   ·rw[if_neg hm];refine ih _ _ m2 (by omega) (by omega) h4 (fun i hi' hs=>?_);rcases Nat.lt_or_ge ((lo+hi)/2) i with q | q
    ·exact li (Nat.not_lt.mp hm) (Nat.le_of_lt (hr _ i q hs))
    ·have e:i=(lo+hi)/2:=by omega
     rw[e];exact Nat.not_lt.mp hm
  ·rw[if_neg hlt];have e:lo=hi:=by omega
   subst e;exact⟨h2,h4,h5⟩
theorem pz{xs:Array Nat}{j:Nat}(hr:qO xs):SetTable.below xs j<=xs.size/\(∀i,i<SetTable.below xs j->xs.getD i 0<j)/\∀i,SetTable.below xs j<=i->i<xs.size->j<=xs.getD i 0 :=
 Gd hr xs.size 0 xs.size (Nat.zero_le _) (ki _) (ki _) (fun i h=>absurd h (Nat.not_lt_zero _)) (fun i h1 h2=>absurd (Nat.lt_of_lt_of_le h2 h1) (Nat.lt_irrefl _))
theorem below_at{xs:Array Nat}(hr:qO xs){i s:Nat}(h1:∀k,k<i->xs.getD k 0<s)(h2:i<xs.size->s<=xs.getD i 0)(hi:i<=xs.size):SetTable.below xs s=i:=by
 obtain⟨b1,b2,b3⟩:=pz (j:=s) hr;rcases Nat.lt_trichotomy (SetTable.below xs s) i with q | q | q
 ·have:=b3 _ (ki _) (by omega);have:=h1 _ q;omega
 ·exact q
 ·have:=b2 i q;have:=h2 (by omega);omega
theorem lG{xs:Array Nat}:qO xs↔xs.toList.Pairwise (· < ·):=by
 rw[List.pairwise_iff_getElem];constructor
 ·intro h i k hi hk hik;have h':=h i k hik (by simpa using hk);have hi':i<xs.size:=by simpa using hi
  have hk':k<xs.size:=by simpa using hk
  simpa[Array.getD,hi',hk'] using h'
 ·intro h i k hik hk;have hi:i<xs.size:=Nat.lt_trans hik hk;have h':=h i k (by simpa using hi) (by simpa using hk) hik;simpa[Array.getD,hi,hk] using h'
theorem vg{xs:Array Nat}{j:Nat}(hr:qO xs)(hn:∀i,i<xs.size->xs.getD i 0≠j):qO (SetTable.insertAt xs (SetTable.below xs j) j):=by
 obtain⟨b1,b2,b3⟩:=pz (j:=j) hr;rw[lG,SetTable.toList_insertAt];have hp:=lG.mp hr;have take:∀a∈xs.toList.take (SetTable.below xs j),a<j:=fun a ha=>by
  obtain⟨i,hi,e⟩:=List.getElem_of_mem ha;have hi':i<SetTable.below xs j/\i<xs.size:=by rw[List.length_take]at hi;simp at hi;omega
  have:=b2 i hi'.1;rw[<-e,List.getElem_take];simpa[Array.getD,hi'.2] using this
 have drop:∀a∈xs.toList.drop (SetTable.below xs j),j<a:=fun a ha=>by
  obtain⟨i,hi,e⟩:=List.getElem_of_mem ha;have hi':SetTable.below xs j+i<xs.size:=by rw[List.length_drop]at hi;simp at hi;omega
  have h1:=b3 (SetTable.below xs j+i) (Nat.le_add_right _ _) hi';have h2:=hn _ hi';rw[<-e,List.getElem_drop];have h3:j<xs.getD (SetTable.below xs j+i) 0:=by omega
  simpa[Array.getD,hi'] using h3
 refine List.pairwise_append.mpr ⟨hp.sublist (List.take_sublist _ _),List.pairwise_cons.mpr ⟨drop,hp.sublist (List.drop_sublist _ _)⟩,fun a ha b hb=>?_⟩;rcases List.mem_cons.mp hb with e | hb
 ·rw[e];exact take a ha
 ·exact Nat.lt_trans (take a ha) (drop b hb)
structure pA(t:SetTable):Prop where
 R4:t.dummies=#[]
 up:t.plain=true->qO t.place
theorem CY{t:SetTable}(h:t.dummies=#[])(j:Nat):t.slot j≠.dummy:=by
 unfold SetTable.slot;dsimp only;split
 ·intro z;cases z
 ·have e:SetTable.has t.dummies j=false:=by rw[h];simp[SetTable.has]
  rw[if_neg (by rw[e];exact lm)];intro z;cases z
theorem wY{t:SetTable}(h:t.dummies=#[]){f:Nat->Int}{x:Int}:∀(n:Nat) (p:SetTable.Probe) {j:Nat} {d:Option Nat},SetTable.probe.go t f x n p=some (.empty j d)->t.slot j=.empty/\d=p.dummy:=by
 intro n
 induction n with
 | zero=>intro p j d e;cases e
 | succ n ih=>
  intro p j d e;unfold SetTable.probe.go at e;cases q:t.slot p.j with
  | empty=>
   rw[q]at e;cases e;exact⟨q,rfl⟩
  | dummy=>exact absurd q (CY h _)
  | live i=>
   rw[q]at e;dsimp only at e;have adv:(t.advance p).dummy=p.dummy:=by unfold SetTable.advance;split<;>rfl
   split at e
   ·cases e
   ·have:=ih _ e;rw[adv]at this;exact this
theorem CZ{t:SetTable}(hr:qO t.place){j:Nat}(h:t.slot j=.empty):∀i,i<t.place.size->t.place.getD i 0≠j:=by
 intro i hi e;have hb:SetTable.below t.place j=i:=below_at hr (fun k hk=>by rw[<-e];exact hr k i hk hi) (fun _=>by rw[e];exact ki _) (Nat.le_of_lt hi);have q:t.place[SetTable.below t.place j]? =some j:=by rw[hb,<-e];simp[Array.getD,hi]
 unfold SetTable.slot at h;dsimp only at h;rw[if_pos (by rw[q];simp)]at h;cases h
theorem eM(t:SetTable)(n:Nat):pA (t.standIn n)/\(t.standIn n).led=t.led:=⟨⟨rfl,fun h=>by cases h⟩,rfl⟩
theorem wZ{t:SetTable}(es:Array (Int×Value))(h:Int)(x:Value)(I:pA t):pA (layNew t es h x).2.1/\(layNew t es h x).2.1.led=t.led:=by
 unfold layNew;cases e:t.freeSlot h with
 | none=>exact eM _ _
 | some p=>
  obtain⟨slot,wd⟩:=p;dsimp only;unfold SetTable.freeSlot at e;cases q:t.probe (fun _=>h+1) h (t.probeStart h)with
  | none=>rw[q]at e;cases e
  | some m=>
   rw[q]at e;cases m with
   | candidate a b c=>cases e
   | empty j d=>
    obtain⟨h1,h2⟩:=wY I.R4 _ _ q;have h2:d=none:=h2;subst h2;have e1:j=slot:=by have:=congrArg Prod.fst (Option.some.inj e);exact this
    subst e1;have key:pA (t.put j).1/\(t.put j).1.led=t.led:=by
     refine⟨⟨?_,fun hp=>?_⟩,rfl⟩
     ·show(if SetTable.has t.dummies j then _ else t.dummies)=#[];rw[if_neg (by rw[I.R4];simp[SetTable.has])];exact I.R4
     ·exact vg (I.up hp) (CZ (I.up hp) h1)
    unfold SetTable.orStandIn;split
    ·exact key
    ·exact⟨(eM _ _).1,(eM _ _).2.trans key.2⟩
theorem vh{β:Type}(g:Nat->Option β):∀l:List Nat,(l.filterMap fun j=>(g j).map (j,·)).map (·.1)=l.filter fun j=>(g j).isSome
 | []=>rfl
 | a::r=>by
  have ih:=vh g r;cases e:g a with
  | none=>simp[List.filterMap_cons,e,ih]
  | some b=>simp[List.filterMap_cons,e,ih]
theorem sT{t:SetTable}(es:Array (Int×Value))(n:Nat):pA (relayAll t es n).2.1/\(relayAll t es n).2.1.led=t.led:=by
 unfold relayAll;cases e:t.relaid (es.map (·.1)) n with
 | none=>exact eM _ _
 | some p=>
  obtain⟨t',order⟩:=p;dsimp only;split
  ·unfold SetTable.relaid SetTable.laid at e;cases q:SetTable.layClean (SetTable.sizeAbove n-1) (es.map (·.1))with
   | none=>rw[q]at e;cases e
   | some owner=>
    rw[q]at e;have e:=congrArg Prod.fst (Option.some.inj e);dsimp only at e;subst e;refine⟨⟨rfl,fun _=>?_⟩,rfl⟩;rw[lG];dsimp only;have z:=vh (fun j=>owner.getD j none) (List.range (SetTable.sizeAbove n-1+1));rw[z];exact List.pairwise_lt_range.sublist List.filter_sublist
  ·exact eM _ _
theorem jH{α:Type}:∀(l:List α) (i:Nat) (h:i<l.length),List.Perm (l[i]::l.eraseIdx i) l
 | a::r,0,_=>List.Perm.refl _
 | a::r,i+1,h=>by have q:=jH r i (by simpa using h);show List.Perm (r[i]'(by simpa using h)::a::r.eraseIdx i) (a::r);exact(List.Perm.swap _ _ _).trans (q.cons a)
theorem y9{α:Type}(next:Nat->Nat):∀(n k:Nat) (left:List α) (out:Array α),n=left.length->List.Perm (pickOrder.go next n k left out).toList (out.toList++left)
 | 0,k,left,out,h=>by
  have e:left=[]:=List.eq_nil_of_length_eq_zero h.symm;subst e;simp[pickOrder.go]
 | n+1,k,left,out,h=>by unfold pickOrder.go;have hlt:next k % left.length<left.length:=Nat.mod_lt _ (by omega);have e:left[next k % left.length]? =some left[next k % left.length]:=ac hlt;rw[e];dsimp only;refine(y9 next n (k+1) _ _ (by rw[List.length_eraseIdx,if_pos hlt];omega)).trans ?_;rw[Array.toList_push,List.append_assoc];refine List.Perm.append_left _ ?_;show List.Perm (left[next k % left.length]::left.eraseIdx (next k % left.length)) left;exact jH _ _ hlt
theorem AO{α:Type}(next:Nat->Nat)(xs:Array α):List.Perm (pickOrder next xs).toList xs.toList:=by have:=y9 next xs.size 0 xs.toList #[] (by simp);simpa[pickOrder] using this
end SF
namespace SF
open PySem PySem.Calls PyProof.Rows
theorem bz:Slot "set_iterator" "__next__" "set_iterator.__next__":=
 .of (owner :="set_iterator") (n :="__next__") (by rw[typeLookup_type,builtinLookup_eq_fast];kernel_rfl) (by decide+kernel) (by decide+kernel) (by decide+kernel)
  (by first | exact .inl (by decide+kernel) | exact .inr (by decide+kernel)) (by rw[isSubtype_type];kernel_rfl)
theorem eE:entryFor table "set_iterator.__next__"=some Builtin.«set_iterator.__next__»:=entryFor_of_tree (by kernel_rfl)
theorem eV(a:Value):argsOk "set_iterator.__next__" ⟨[a],[]⟩:=by unfold argsOk;kernel_rfl
theorem pC:entryFor table "set.__iter__"=some Builtin.«frozenset.__iter__» :=
 entryFor_alias (id' :="frozenset.__iter__") (by kernel_rfl) rfl (by decide+kernel) (by kernel_rfl)
section
variable {prog:Program}{w:World}{A:Around}{E:Value->Shared->Prop}{s:Shared}
def dk(h:Heap)(a:Addr)(es:Array (Int×Value))(ep:Nat)(t:SetTable):Prop:=∃o,h.get? a=some o/\o.ExactSet/\o.data=.set es ep t
def jI(h:Heap)(I:Addr)(first:Value)(i:Nat)(a:Addr)(n ep:Nat):Prop :=
 ∃o,h.get? I=some o/\o.cls=.type "set_iterator"/\o.data=.fields #[first,.int i 0,.ref a,.int n 0,.int ep 0]
theorem jI.typeIs{I:Addr}{first:Value}{i:Nat}{a:Addr}{n ep:Nat}(x:jI s.heap I first i a n ep):s.TypeIs (.ref I) "set_iterator":=let ⟨o,ho,hc,_⟩:=x;⟨o,ho,hc⟩
theorem C0{a I:Addr}{es:Array (Int×Value)}{ep:Nat}{t:SetTable}{sl i:Nat}{v:Value}{sl':Nat}{Q:Option Value->Shared->Prop}
  (hs:dk s.heap a es ep t) (hf:t.fits es.size=true) (hi:jI s.heap I (.int sl 0) i a es.size ep)
  (hN:∀(s:Shared) (A:Around) (E:Value->Shared->Prop) (R:Option (Value×Nat)->Shared->Prop),dk s.heap a es ep t->R (some (v,sl')) s->wpAny (model prog w) A (setNext a sl i ep) R E s)
  (hQ:∀h',jI h' I (.int sl' 0) (i+1) a es.size ep->Heap.SameBut I s.heap h'->Q (some v) {s with heap:=h'}):wpAny (model prog w) A (pyNext (.ref I)) Q E s:=by
 obtain⟨o,ho,hc,hd⟩:=id hi;obtain⟨oa,hoa,hex,hda⟩:=id hs;unfold pyNext
 refine de (wpAny_attempt (wpAny_callSpecial?_slot (name:=Str.ofString "__next__") hi.typeIs bz
  (ff bz hi.typeIs eE ?_ (eV _))))
 unfold Builtin.«set_iterator.__next__»;refine de (dL ?_);refine de (wpAny_fieldsOf ho hd ?_);dsimp only;refine de (wpAny_setEntries_of hoa hda hf ?_);rw[if_neg (by simp)];simp only[lv];refine de (hN s _ _ _ hs ?_);dsimp only;refine de (wpAny_setField ho hd (by simp) ?_);have ho1:=Heap.get?_update_self (Obj.mapFields (·.setIfInBounds 0 (rawInt (sl':Int)))) ho (Obj.isFreed_of_fields (Obj.data_mapFields hd _));have hd1:=Obj.data_mapFields hd (·.setIfInBounds 0 (rawInt (sl':Int)));refine de (wpAny_setField ho1 hd1 (by simp) ?_);have ho2:=Heap.get?_update_self (Obj.mapFields (·.setIfInBounds 1 (rawInt ((i:Int)+1)))) ho1 (Obj.isFreed_of_fields (Obj.data_mapFields hd1 _));have hd2:=Obj.data_mapFields hd1 (·.setIfInBounds 1 (rawInt ((i:Int)+1)));refine dL ⟨_,rfl,dL (hQ _ ⟨_,ho2,?_,?_⟩ ((Heap.SameBut.update ..).trans (Heap.SameBut.update ..)))⟩
 ·rw[Obj.cls_mapFields,Obj.cls_mapFields];exact hc
 ·rw[hd2];simp[rawInt]
theorem end_int{a I:Addr}{es:Array (Int×Value)}{ep:Nat}{t:SetTable}{sl i:Nat}{Q:Option Value->Shared->Prop}(hh:A.handled=none)
  (hs:dk s.heap a es ep t) (hf:t.fits es.size=true) (hi:jI s.heap I (.int sl 0) i a es.size ep)
  (hN:∀(s:Shared) (A:Around) (E:Value->Shared->Prop) (R:Option (Value×Nat)->Shared->Prop),dk s.heap a es ep t->R none s->wpAny (model prog w) A (setNext a sl i ep) R E s)
  (hQ:∀h',Heap.ExtBut I s.heap h'->Q none {s with heap:=h'}):wpAny (model prog w) A (pyNext (.ref I)) Q E s:=by
 obtain⟨o,ho,hc,hd⟩:=id hi;obtain⟨oa,hoa,hex,hda⟩:=id hs;unfold pyNext
 refine de (wpAny_attempt (wpAny_callSpecial?_slot (name:=Str.ofString "__next__") hi.typeIs bz
  (ff bz hi.typeIs eE ?_ (eV _))))
 unfold Builtin.«set_iterator.__next__»;refine de (dL ?_);refine de (wpAny_fieldsOf ho hd ?_);dsimp only;refine de (wpAny_setEntries_of hoa hda hf ?_);rw[if_neg (by simp)];simp only[lv];refine de (hN s _ _ _ hs ?_);dsimp only;refine de (wpAny_setField ho hd (by simp) ?_);refine de ?_;simp only[newExc,newTuple];refine de (wpAny_newObj_type ?_ (by size_fits));refine de (m:=firstArgMember _ _) (wpAny_of_eq (a:=Value.none) (by first | rfl | (simp only[firstArgMember];rfl)) ?_);refine wpAny_newObj_type ?_ (by size_fits);simp only[raiseNew];refine de (wpAny_handled ?_);rw[show A.in1.handled=none from hh];refine de (dL (wpAny_throw ?_));refine de (wpAny_isInstance (T :="StopIteration") (b:=true) ⟨_,fm _ rfl,rfl⟩ isSubtype_stop ?_);exact dL (hQ _ (((Heap.SameBut.update ..).extBut.push _).push _))
theorem w6{a I T:Addr}{es:Array (Int×Value)}{ep:Nat}{t:SetTable}{i p:Nat}{ps:Array Value}{k:Nat}{tk:Tok}{oT:Obj}{c:Int}{v:Value}{Q:Option Value->Shared->Prop}
  (hs:dk s.heap a es ep t) (hf:t.fits es.size=true) (hi:jI s.heap I (.ref T) i a es.size ep) (hT:s.heap.get? T=some oT) (hTd:oT.data=.seq ps k) (hp:ps[i]? =some (.int p tk)) (hv:es[p]? =some (c,v))
  (hQ:∀h',jI h' I (.ref T) (i+1) a es.size ep->Heap.SameBut I s.heap h'->Q (some v) {s with heap:=h'}):wpAny (model prog w) A (pyNext (.ref I)) Q E s:=by
 obtain⟨o,ho,hc,hd⟩:=id hi;obtain⟨oa,hoa,hex,hda⟩:=id hs;unfold pyNext
 refine de (wpAny_attempt (wpAny_callSpecial?_slot (name:=Str.ofString "__next__") hi.typeIs bz
  (ff bz hi.typeIs eE ?_ (eV _))))
 unfold Builtin.«set_iterator.__next__»;refine de (dL ?_);refine de (wpAny_fieldsOf ho hd ?_);dsimp only;refine de (wpAny_setEntries_of hoa hda hf ?_);rw[if_neg (by simp)];simp only[lv];refine de ?_;unfold seqItems?;refine de (wpAny_load hT ?_);rw[hTd];refine dL ?_;dsimp only;rw[hp];dsimp only;refine de ?_;unfold setNextDrawn;refine de (wpAny_setState_of hoa hda hf ?_);dsimp only;rw[if_neg (by simp)];simp only[lv];rw[hv];refine dL ?_;refine de (wpAny_setField ho hd (by simp) ?_);have ho2:=Heap.get?_update_self (Obj.mapFields (·.setIfInBounds 1 (rawInt ((i:Int)+1)))) ho (Obj.isFreed_of_fields (Obj.data_mapFields hd _));have hd2:=Obj.data_mapFields hd (·.setIfInBounds 1 (rawInt ((i:Int)+1)));refine dL ⟨_,rfl,dL (hQ _ ⟨_,ho2,?_,?_⟩ (Heap.SameBut.update ..))⟩
 ·rw[Obj.cls_mapFields];exact hc
 ·rw[hd2];simp[rawInt]
theorem AQ{a I T:Addr}{es:Array (Int×Value)}{ep:Nat}{t:SetTable}{i:Nat}{ps:Array Value}{k:Nat}{oT:Obj}{Q:Option Value->Shared->Prop}(hh:A.handled=none)
  (hs:dk s.heap a es ep t) (hf:t.fits es.size=true) (hi:jI s.heap I (.ref T) i a es.size ep) (hT:s.heap.get? T=some oT) (hTd:oT.data=.seq ps k) (hp:ps[i]? =none)
  (hQ:∀h',Heap.ExtBut I s.heap h'->Q none {s with heap:=h'}):wpAny (model prog w) A (pyNext (.ref I)) Q E s:=by
 obtain⟨o,ho,hc,hd⟩:=id hi;obtain⟨oa,hoa,hex,hda⟩:=id hs;unfold pyNext
 refine de (wpAny_attempt (wpAny_callSpecial?_slot (name:=Str.ofString "__next__") hi.typeIs bz
  (ff bz hi.typeIs eE ?_ (eV _))))
 unfold Builtin.«set_iterator.__next__»;refine de (dL ?_);refine de (wpAny_fieldsOf ho hd ?_);dsimp only;refine de (wpAny_setEntries_of hoa hda hf ?_);rw[if_neg (by simp)];simp only[lv];refine de ?_;unfold seqItems?;refine de (wpAny_load hT ?_);rw[hTd];refine dL ?_;dsimp only;rw[hp];dsimp only;refine de (wpAny_setField ho hd (by simp) ?_);have ho1:=Heap.get?_update_self (Obj.mapFields (·.setIfInBounds 0 (rawInt 0))) ho (Obj.isFreed_of_fields (Obj.data_mapFields hd _));have hd1:=Obj.data_mapFields hd (·.setIfInBounds 0 (rawInt 0));refine de (wpAny_setField ho1 hd1 (by simp) ?_);refine de ?_;simp only[newExc,newTuple];refine de (wpAny_newObj_type ?_ (by size_fits));refine de (m:=firstArgMember _ _) (wpAny_of_eq (a:=Value.none) (by first | rfl | (simp only[firstArgMember];rfl)) ?_);refine wpAny_newObj_type ?_ (by size_fits);simp only[raiseNew];refine de (wpAny_handled ?_);rw[show A.in1.handled=none from hh];refine de (dL (wpAny_throw ?_));refine de (wpAny_isInstance (T :="StopIteration") (b:=true) ⟨_,fm _ rfl,rfl⟩ isSubtype_stop ?_);exact dL (hQ _ ((((Heap.SameBut.update ..).trans (Heap.SameBut.update ..)).extBut.push _).push _))
theorem j8{a:Addr}{es:Array (Int×Value)}{ep:Nat}{t:SetTable}{sl i:Nat}{R:Option (Value×Nat)->Shared->Prop}(hb:w.params.followText "set-order"=true)
  (hs:dk s.heap a es ep t) (hf:t.fits es.size=true) (h:R (((pickOrder (w.params.setOrder a ep) es)[i]?).map fun e=>(e.2,sl)) s):wpAny (model prog w) A (setNext a sl i ep) R E s:=by
 obtain⟨o,ho,hex,hd⟩:=id hs;unfold setNext setsByText;refine de (wpAny_setState_of ho hd hf ?_);dsimp only;refine de (de (wpAny_askSetting (dL ?_)));rw[if_pos (show(⟨(model prog w).prog,(model prog w).w.params⟩:Setting).params.followText "set-order"=true from hb),if_neg (by simp)];refine de ?_;unfold setWalk setsByText;refine de (wpAny_setState_of ho hd hf ?_);dsimp only;refine de (de (wpAny_askSetting (dL ?_)));rw[if_pos (show(⟨(model prog w).prog,(model prog w).w.params⟩:Setting).params.followText "set-order"=true from hb)];exact de (wpAny_askSetting (dL (dL h)))
theorem jC{a:Addr}{es:Array (Int×Value)}{ep:Nat}{t:SetTable}{sl i:Nat}{R:Option (Value×Nat)->Shared->Prop}(hb:w.params.followText "set-order"=false)(hp:(!t.plain&&decide (es.size>1))=false)(hl:t.led=true)
  (hs:dk s.heap a es ep t) (hf:t.fits es.size=true)
  (h:R (match es[SetTable.below t.place sl]?,t.place[SetTable.below t.place sl]? with | some (_,x),some j=>some (x,j+1) | _,_=>none) s):wpAny (model prog w) A (setNext a sl i ep) R E s:=by
 obtain⟨o,ho,hex,hd⟩:=id hs;unfold setNext setsByText;refine de (wpAny_setState_of ho hd hf ?_);dsimp only;refine de (de (wpAny_askSetting (dL ?_)));rw[if_neg (show ¬(⟨(model prog w).prog,(model prog w).w.params⟩:Setting).params.followText "set-order"=true from by show ¬w.params.followText "set-order"=true;rw[hb];exact lm)];refine wpAny_ite_split (fun hab=>absurd (show(!t.plain&&decide (es.size>1))=true from hab) (by rw[hp];exact lm)) (fun _=>?_);refine de ?_;show wpAny (model prog w) A (if (!t.led&& !es.isEmpty)=true then unsupported "set:maker-not-led"else pure ()) _ _ s;rw[if_neg (by rw[hl];simp)];exact dL (dL h)
theorem sU{src:Source}{n:Nat}{Q:Nat->Shared->Prop}(hn:0<n)(h:∀i d,i<n->Q i {s with drawn:=d}):wpAny (model prog w) A (choose src n) Q E s:=fun _ _ _=>
 ⟨Nat.ne_of_gt hn,h _ _ (Nat.mod_lt _ hn)⟩
theorem iY:∀(n:Nat) (l:List Nat) (s:Shared) {Q:List Nat->Shared->Prop},n=l.length->(∀r d,List.Perm r l->Q r {s with drawn:=d})->wpAny (model prog w) A (drawOrder n l) Q E s
 | 0,l,s,Q,hn,h=>by
  have e:l=[]:=List.eq_nil_of_length_eq_zero hn.symm;subst e;exact dL (h [] s.drawn (List.Perm.refl _))
 | n+1,[],s,Q,hn,h=>by cases hn
 | n+1,x::r,s,Q,hn,h=>by unfold drawOrder;refine de (sU (by simp) fun i d hi=>?_);have e:(x::r)[i]? =some (x::r)[i]:=ac hi;rw[e];dsimp only;refine de (iY n _ _ (by rw[List.length_eraseIdx,if_pos hi];omega) fun q d' hq=>dL ?_);exact h _ d' ((hq.cons _).trans (jH _ _ hi))
structure SI(prog:Program)(w:World)(s:Shared)(a:Addr)(es:Array (Int×Value))(ep:Nat)(t:SetTable):Prop where
 hs:dk s.heap a es ep t
 fit:t.fits es.size=true
 inv:pA t
 led:w.params.followText "set-order"=true\/t.led=true
theorem dk.typeIs{a:Addr}{es:Array (Int×Value)}{ep:Nat}{t:SetTable}(x:dk s.heap a es ep t):s.TypeIs (.ref a) "set":=let ⟨o,ho,hc,_⟩:=x;⟨o,ho,hc.1⟩
theorem dk.lt{h:Heap}{a:Addr}{es:Array (Int×Value)}{ep:Nat}{t:SetTable}(x:dk h a es ep t):a<h.objs.size:=let ⟨o,ho,_⟩:=x;fw ho
theorem dk.at{h h':Heap}{a:Addr}{es:Array (Int×Value)}{ep:Nat}{t:SetTable}(x:dk h a es ep t)(e:∀o,h.get? a=some o->h'.get? a=some o):dk h' a es ep t:=let ⟨o,ho,r⟩:=x;⟨o,e _ ho,r⟩
theorem jI.at{h h':Heap}{I:Addr}{first:Value}{i:Nat}{a:Addr}{n ep:Nat}(x:jI h I first i a n ep)(e:∀o,h.get? I=some o->h'.get? I=some o):jI h' I first i a n ep:=let ⟨o,ho,r⟩:=x;⟨o,e _ ho,r⟩
theorem j9:Slot "set_iterator" "__iter__" "set_iterator.__iter__":=
 .of (owner :="set_iterator") (n :="__iter__") (by rw[typeLookup_type,builtinLookup_eq_fast];kernel_rfl) (by decide+kernel) (by decide+kernel) (by decide+kernel)
  (by first | exact .inl (by decide+kernel) | exact .inr (by decide+kernel)) (by rw[isSubtype_type];kernel_rfl)
theorem C1{a:Addr}{es:Array (Int×Value)}{ep:Nat}{t:SetTable}{Q:Value->Shared->Prop}(S:SI prog w s a es ep t)(hsz:es.size<=em)
  (h1:(w.params.followText "set-order"=true\/(!t.plain&&decide (es.size>1))=false)->Q (.ref s.heap.objs.size) {s with heap:=s.heap.push {cls:=.type "set_iterator",data:=.fields #[.int 0 0,.int 0 0,.ref a,.int es.size 0,.int ep 0]}})
  (h2:∀(r:List Nat) (d:Drawn),List.Perm r (List.range es.size)->Q (.ref (s.heap.objs.size+1)) {s with drawn:=d,heap:=(s.heap.push {cls:=.type "tuple",data:=.seq ((r.map fun(i:Nat)=>rawInt i).toArray)}).push {cls:=.type "set_iterator",data:=.fields #[.ref s.heap.objs.size,.int 0 0,.ref a,.int es.size 0,.int ep 0]}}):
  wpAny (model prog w) A (pyIter (.ref a)) Q E s:=by
 obtain⟨o,ho,hex,hd⟩:=id S.hs;refine wpAny_pyIter_slot S.hs.typeIs PySem.F.slot_set_iter (ff PySem.F.slot_set_iter S.hs.typeIs pC ?_ (PySem.F.args_set_iter_1 _));unfold Builtin.«frozenset.__iter__» Builtin.Frozenset.slot0;refine de (de (dL (dL ?_)));refine de ?_;unfold Builtin.Frozenset.sizeOf;refine de (wpAny_setEntries_of ho hd S.fit (dL ?_));refine de ?_;unfold setDrawn setsByText;refine de (wpAny_setState_of ho hd S.fit ?_);dsimp only;refine de (de (wpAny_askSetting (dL ?_)));refine dL ?_;dsimp only;by_cases hb:w.params.followText "set-order"=true
 ·refine wpAny_ite_split (fun hab=>?_) (fun _=>?_)
  ·have hab:(!w.params.followText "set-order"&&_)=true:=hab;rw[hb]at hab;exact absurd hab (by simp)
  ·refine de (dL ?_);refine de (wpAny_setEpoch_of ho hd S.fit ?_);refine de (wpAny_newObj_type ?_);exact dL ⟨_,rfl,"set_iterator",_,⟨_,fm _ rfl,rfl⟩,bz.lookup,h1 (.inl hb)⟩
 ·have hb':w.params.followText "set-order"=false:=by simpa using hb
  refine wpAny_ite_split (fun hab=>?_) (fun hab=>?_)
  ·refine de (iY _ _ _ (by simp) fun r d hr=>?_);refine de (wpAny_newObj_type ?_ ?_)
   ·refine de (wpAny_setEpoch_of (fg _ ho) hd S.fit ?_);refine de (wpAny_newObj_type ?_);have hz:=h2 r d hr;rw[<-size_push' s.heap {cls:=.type "tuple",data:=.seq ((r.map fun(i:Nat)=>rawInt i).toArray)}]at hz;exact dL ⟨_,rfl,"set_iterator",_,⟨_,fm _ rfl,rfl⟩,bz.lookup,hz⟩
   ·have hl:r.length=es.size:=by rw[hr.length_eq,List.length_range]
    show(List.map _ r).toArray.size<=_;rw[ar,List.length_map,hl];omega
  ·refine de (dL ?_);refine de (wpAny_setEpoch_of ho hd S.fit ?_);refine de (wpAny_newObj_type ?_);refine dL ⟨_,rfl,"set_iterator",_,⟨_,fm _ rfl,rfl⟩,bz.lookup,h1 (.inr ?_)⟩;have hab:¬((!w.params.followText "set-order"&&(!t.plain&&decide (es.size>1)))=true):=hab;rw[hb']at hab;simpa using hab
theorem qP:entryFor table "set_iterator.__iter__"=some Builtin.«dict_keyiterator.__iter__» :=
 entryFor_alias (id' :="dict_keyiterator.__iter__") (by kernel_rfl) rfl (by decide+kernel) (by kernel_rfl)
theorem sV(a:Value):argsOk "set_iterator.__iter__" ⟨[a],[]⟩:=by unfold argsOk;kernel_rfl
theorem za{I:Addr}{first:Value}{i:Nat}{a:Addr}{n ep:Nat}{Q:Value->Shared->Prop}(hi:jI s.heap I first i a n ep)(h:Q (.ref I) s):wpAny (model prog w) A (pyIter (.ref I)) Q E s:=by refine wpAny_pyIter_slot hi.typeIs j9 (ff j9 hi.typeIs qP ?_ (sV _));show wpAny _ _ (ret (.ref I)) _ _ s;exact dL ⟨_,rfl,"set_iterator",_,hi.typeIs,bz.lookup,h⟩
theorem rY(hh:A.handled=none){a I:Addr}(hne:a≠I){es:Array (Int×Value)}{ep:Nat}{t:SetTable}(hf:t.fits es.size=true)(order:List Value)(hl:order.length=es.size)(sl:Nat->Nat)
  (hN:∀(i:Nat) (v:Value),order[i]? =some v->∀(s:Shared) (A:Around) (E:Value->Shared->Prop) (R:Option (Value×Nat)->Shared->Prop),dk s.heap a es ep t->R (some (v,sl (i+1))) s->wpAny (model prog w) A (setNext a (sl i) i ep) R E s)
  (hE:∀(s:Shared) (A:Around) (E:Value->Shared->Prop) (R:Option (Value×Nat)->Shared->Prop),dk s.heap a es ep t->R none s->wpAny (model prog w) A (setNext a (sl es.size) es.size ep) R E s):
  Walks prog w A I [I,a] [I] es.size (fun i v=>order[i]? =some v) (fun i h=>dk h a es ep t/\jI h I (.int (sl i) 0) i a es.size ep) where
 sub:=fun b hb=>by simp at hb;simp[hb]
 frame:=fun _ _ _ st hk=>⟨st.1.at fun o e=>hk a (by simp) o e,st.2.at fun o e=>hk I (by simp) o e⟩
 item:=fun i s Q E hi st hQ=>by obtain⟨v,hv⟩:∃v,order[i]? =some v:=⟨order[i]'(by omega),by simp[hl,hi]⟩;refine C0 st.1 hf st.2 (hN i v hv) fun h' h1 h2=>?_;exact hQ v h' s.toks hv ⟨st.1.at fun o e=>h2.extBut a o hne e,h1⟩ fun b o hb e=>h2.extBut b o (fun z=>hb (by simp[z])) e
 done:=fun s Q E st hQ=>end_int hh st.1 hf st.2 hE fun h' he=>hQ h' s.toks fun b o hb e=>he b o (fun z=>hb (by simp[z])) e
 self:=fun _ _ _ _ st hQ=>za st.2 hQ
theorem vi(hh:A.handled=none){a I T:Addr}(hne:a≠I)(hnT:T≠I){es:Array (Int×Value)}{ep:Nat}{t:SetTable}(hf:t.fits es.size=true)(r:List Nat)(hr:List.Perm r (List.range es.size)){oT:Obj}(hTd:oT.data=.seq ((r.map fun(i:Nat)=>rawInt i).toArray)):
  Walks prog w A I [I,a,T] [I] es.size (fun i v=>(r.map fun p=>((es[p]?).getD default).2)[i]? =some v) (fun i h=>dk h a es ep t/\jI h I (.ref T) i a es.size ep/\h.get? T=some oT) where
 sub:=fun b hb=>by simp at hb;simp[hb]
 frame:=fun _ _ _ st hk=>⟨st.1.at fun o e=>hk a (by simp) o e,st.2.1.at fun o e=>hk I (by simp) o e,hk T (by simp) _ st.2.2⟩
 item:=fun i s Q E hi st hQ=>by
  have hl:r.length=es.size:=by rw[hr.length_eq,List.length_range]
  have hi':i<r.length:=by omega
  have hp:r[i] <es.size:=List.mem_range.mp (hr.mem_iff.mp (bi hi'));have e1:r[i]? =some r[i]:=ac hi';have e2:es[r[i]]? =some (es[r[i]].1,es[r[i]].2):=by simp[hp]
  have hv:(r.map fun p=>((es[p]?).getD default).2)[i]? =some es[r[i]].2:=by rw[ag,e1];show some ((es[r[i]]?).getD default).2=_;rw[e2];rfl
  refine w6 (p:=r[i]) (tk:=0) st.1 hf st.2.1 st.2.2 hTd (by simp[rawInt,e1]) e2 fun h' h1 h2=>?_;exact hQ _ h' s.toks hv ⟨st.1.at fun o e=>h2.extBut a o hne e,h1,h2.extBut T _ hnT st.2.2⟩ fun b o hb e=>h2.extBut b o (fun z=>hb (by simp[z])) e
 done:=fun s Q E st hQ=>by
  have hl:r.length=es.size:=by rw[hr.length_eq,List.length_range]
  exact AQ hh st.1 hf st.2.1 st.2.2 hTd (by simp[hl]) fun h' he=>hQ h' s.toks fun b o hb e=>he b o (fun z=>hb (by simp[z])) e
 self:=fun _ _ _ _ st hQ=>za st.2.1 hQ
def J5(t:SetTable)(i:Nat):Nat:=if i=0 then 0 else t.place.getD (i-1) 0+1
theorem vj{t:SetTable}(hr:qO t.place){i:Nat}(hi:i<=t.place.size):SetTable.below t.place (J5 t i)=i:=by
 unfold J5;cases i with
 | zero=>exact below_at hr (fun k hk=>absurd hk (Nat.not_lt_zero _)) (fun _=>by simp) (Nat.zero_le _)
 | succ i=>
  rw[if_neg (by omega)];show SetTable.below t.place (t.place.getD i 0+1)=i+1;refine below_at hr (fun k hk=>?_) (fun h=>hr i (i+1) (Nat.lt_succ_self _) h) hi;rcases Nat.lt_or_ge k i with q | q
  ·have:=hr k i q (by omega);omega
  ·have e:k=i:=by omega
   rw[e];omega
theorem w8(hh:A.handled=none){a:Addr}{es:Array (Int×Value)}{ep:Nat}{t:SetTable}{Q:Value->Shared->Prop}(S:SI prog w s a es ep t)(hsz:es.size<=em)
  (h:∀(I:Addr) (fp:List Addr) (order:List Value) (St:Nat->Heap->Prop) (h':Heap) (d:Drawn),List.Perm order (es.toList.map (·.2))->(∀b∈fp,b<h'.objs.size)->s.heap.objs.size<=I->I∈fp->(∀b∈fp,b=a\/s.heap.objs.size<=b)->Walks prog w A I fp [I] es.size (fun i v=>order[i]? =some v) St->St 0 h'->
   (∀b o,s.heap.get? b=some o->h'.get? b=some o)->Q (.ref I) {s with heap:=h',drawn:=d}):wpAny (model prog w) A (pyIter (.ref a)) Q E s:=by
 have hlt:@LT.lt Nat _ a s.heap.objs.size:=S.hs.lt;have hpl:t.place.size=es.size:=by have:=S.fit;simp only[SetTable.fits,Bool.and_eq_true,beq_iff_eq]at this;exact this.1
 refine C1 S hsz (fun hm=>?_) (fun r d hr=>?_)
 ·have hI:a≠s.heap.objs.size:=kt hlt;have YQ:∀b∈ [s.heap.objs.size,a],b< (s.heap.push {cls:=.type "set_iterator",data:=.fields #[.int 0 0,.int 0 0,.ref a,.int es.size 0,.int ep 0]}).objs.size:=fun b hb=>by
   rw[size_push'];simp at hb;rcases hb with e | e
   ·rw[e];exact Nat.lt_succ_self _
   ·rw[e];exact Nat.lt_succ_of_lt hlt
  have st0:dk (s.heap.push {cls:=.type "set_iterator",data:=.fields #[.int 0 0,.int 0 0,.ref a,.int es.size 0,.int ep 0]}) a es ep t:=S.hs.at fun o e=>fg _ e;have YR:jI (s.heap.push {cls:=.type "set_iterator",data:=.fields #[.int 0 0,.int 0 0,.ref a,.int es.size 0,.int ep 0]}) s.heap.objs.size (.int (0:Nat) 0) 0 a es.size ep:=⟨_,fm _ rfl,rfl,rfl⟩;by_cases hb:w.params.followText "set-order"=true
  ·have hp:=AO (w.params.setOrder a ep) es;have hpl':(pickOrder (w.params.setOrder a ep) es).size=es.size:=by rw[<-Array.length_toList,hp.length_eq,Array.length_toList]
   refine h s.heap.objs.size _ ((pickOrder (w.params.setOrder a ep) es).toList.map (·.2)) _ _ s.drawn (hp.map _) YQ (ki _) (by simp) (fun b hb=>by simp at hb;rcases hb with e | e<;>subst e<;>simp)
    (rY hh hI S.fit _ (by rw[List.length_map,Array.length_toList];exact hpl') (fun _=>0) (fun i v hv s' A' E' R hs' hR=>?_) (fun s' A' E' R hs' hR=>?_)) ⟨st0,YR⟩ (fun b o e=>fg _ e)
   ·refine j8 hb hs' S.fit ?_;rw[ag,Array.getElem?_toList]at hv;cases q:(pickOrder (w.params.setOrder a ep) es)[i]? with
    | none=>rw[q]at hv;cases hv
    | some x=>rw[q]at hv;cases hv;exact hR
   ·refine j8 hb hs' S.fit ?_;rw[Array.getElem?_eq_none (by omega)];exact hR
  ·have hb':w.params.followText "set-order"=false:=by simpa using hb
   have hp:(!t.plain&&decide (es.size>1))=false:=hm.resolve_left hb;have qQ:t.led=true:=S.led.resolve_left hb;have hr:qO t.place:=by
    cases q:t.plain with
    | true=>exact S.inv.up q
    | false=>
     rw[q]at hp;intro i k hik hk;have:¬es.size>1:=by simpa using hp
     omega
   refine h s.heap.objs.size _ (es.toList.map (·.2)) _ _ s.drawn (List.Perm.refl _) YQ (ki _) (by simp) (fun b hb=>by simp at hb;rcases hb with e | e<;>subst e<;>simp)
    (rY hh hI S.fit _ (by rw[List.length_map,Array.length_toList]) (J5 t) (fun i v hv s' A' E' R hs' hR=>?_) (fun s' A' E' R hs' hR=>?_)) ⟨st0,YR⟩ (fun b o e=>fg _ e)
   ·refine jC hb' hp qQ hs' S.fit ?_;rw[ag,Array.getElem?_toList]at hv;cases q:es[i]? with
    | none=>rw[q]at hv;cases hv
    | some x=>
     rw[q]at hv;cases hv;have hi:i<es.size:=by
      rcases Nat.lt_or_ge i es.size with z | z
      ·exact z
      ·rw[Array.getElem?_eq_none z]at q;cases q
     have e2:t.place[i]? =some (t.place.getD i 0):=by simp[Array.getD,hpl,hi]
     rw[vj hr (by omega),q,e2];exact hR
   ·refine jC hb' hp qQ hs' S.fit ?_;rw[vj hr (by omega),Array.getElem?_eq_none (ki _)];exact hR
 ·have hl:r.length=es.size:=by rw[hr.length_eq,List.length_range]
  have k1:∀b o,s.heap.get? b=some o->((s.heap.push {cls:=.type "tuple",data:=.seq ((r.map fun(i:Nat)=>rawInt i).toArray)}).push {cls:=.type "set_iterator",data:=.fields #[.ref s.heap.objs.size,.int 0 0,.ref a,.int es.size 0,.int ep 0]}).get? b=some o:=fun b o e=>
   fg _ (fg _ e)
  have hs2:(s.heap.push {cls:=.type "tuple",data:=.seq ((r.map fun(i:Nat)=>rawInt i).toArray)}).objs.size=s.heap.objs.size+1:=size_push' _ _;have e1:(r.map fun p=>((es[p]?).getD default).2).Perm (es.toList.map (·.2)):=by
   refine(hr.map _).trans ?_;have:(List.range es.size).map (fun p=>((es[p]?).getD default).2)=es.toList.map (·.2):=by
    apply List.ext_getElem
    ·simp
    ·intro i h1 h2;simp at h1 h2;simp[h1]
   rw[this]
  refine h (s.heap.objs.size+1) _ _ _ _ d e1 (fun b hb=>?_) (Nat.le_succ _) ?_ (fun b hb=>?_) (vi (T:=s.heap.objs.size) (oT:={cls:=.type "tuple",data:=.seq ((r.map fun(i:Nat)=>rawInt i).toArray)}) hh (kt (Nat.lt_succ_of_lt hlt)) (kt (Nat.lt_succ_self _)) S.fit r hr rfl)
   ⟨S.hs.at fun o e=>k1 a o e,⟨{cls:=.type "set_iterator",data:=.fields #[.ref s.heap.objs.size,.int 0 0,.ref a,.int es.size 0,.int ep 0]},?_,rfl,rfl⟩,?_⟩ k1
  ·rw[size_push',hs2];simp at hb;rcases hb with e | e | e
   ·rw[e];exact Nat.lt_succ_self _
   ·rw[e];exact Nat.lt_succ_of_lt (Nat.lt_succ_of_lt hlt)
   ·rw[e];exact Nat.lt_succ_of_lt (Nat.lt_succ_self _)
  ·simp
  ·simp at hb;rcases hb with e | e | e
   ·exact .inr (by rw[e];exact Nat.le_succ _)
   ·exact .inl e
   ·exact .inr (by rw[e];exact ki _)
  ·rw[show s.heap.objs.size.succ=_ from hs2.symm];exact fm _ rfl
  ·exact fg _ (fm _ rfl)
theorem C2(hT:s.TypeIs (.ref r) "set"){Q:Bool->Shared->Prop}(h:Q false s):wpAny (model prog w) A (Builtin.List.listLengthHint (.ref r)) Q E s:=by
 unfold Builtin.List.listLengthHint;refine de (wpAny_specialOf hT PySem.F.slot_set_len.lookup ?_);generalize hid:("set.__len__": String)=id0
 wp_delta
 rw[show splitId id0=some ("set","__len__")from by subst hid;decide+kernel];subst hid;refine de (wpAny_isInstance (T :="set") (b:=true) hT (by rw[isSubtype_type];kernel_rfl) ?_);refine wpAny_ite_split (fun hab=>absurd hab (by decide)) (fun _=>?_);refine wpAny_ite_split (fun _=>?_) (fun hab=>absurd (by decide+kernel) hab);refine de (wpAny_typeOf hT ?_);exact dL h
theorem xc(hh:A.handled=none){a S:Addr}{es:Array (Int×Value)}{ep:Nat}{t:SetTable}{R:Result->Shared->Prop}(hS:SI prog w s a es ep t)(hsz:es.size<=em)(hne:S≠a)(res:Value)(c0:Nat)
  (hL:s.heap.get? S=some {cls:=.type "list",data:=.seq #[] c0})
  (hR:∀h' d tk (acc:Array Value) (order:List Value) c',(∀b o,b≠S->s.heap.get? b=some o->h'.get? b=some o)->h'.get? S=some {cls:=.type "list",dict:=none,data:=.seq acc c',slots:=#[]}->
   List.Perm order (es.toList.map (·.2))->acc.toList=order->R (.ok (.ret res)) {s with heap:=h',toks:=tk,drawn:=d}):
  wpAny (model prog w) A.in1 (Builtin.List.listExtendWith (.ref S) (.ref a) res)
   (fun fin s'=>match fin with | .done f=>R (.ok f) s' | .again c'=>c'.quiet=true/\codeAny (model prog w) A c' R s') (fun e s'=>R (.error e) s') s:=by
 unfold Builtin.List.listExtendWith;refine de (wpAny_typeOf (T :="set") hS.hs.typeIs ?_);have h1:Builtin.List.listSameRef (.ref S) (.ref a)=false:=by simp[Builtin.List.listSameRef,hne]
 rw[if_neg (by rw[h1];decide)];refine de (w8 (A:=A.in1) hh hS hsz fun I fp order St h' d hp hfl hI hIm hfp W st hk=>?_);have Up:=fw hL;have hSf:S∉fp:=fun hm=>by
  rcases hfp S hm with e | e
  ·exact hne e
  ·exact absurd (Nat.lt_of_lt_of_le Up e) (Nat.lt_irrefl _)
 have hol:order.length=es.size:=by rw[hp.length_eq,List.length_map,Array.length_toList]
 have key:∀(h2:Heap) (c1 tk:Nat),St 0 h2->(∀b o,b≠S->s.heap.get? b=some o->h2.get? b=some o)->h2.get? S=some {cls:=.type "list",data:=.seq #[] c1}->
   codeAny (model prog w) A (.builtin "list.extend.loop" ⟨[.ref S,.ref I,res],[]⟩) R {s with heap:=h2,toks:=tk,drawn:=d}:=by
  intro h2 c1 tk hst hk2 hS1;refine codeAny_extend_loopS W.toS hsz S hSf res es.size 0 _ #[] c1 rfl (Nat.zero_le _) hst hS1 (ItemsOf.nil _) fun s' acc' c' hm hS' hacc=>?_;rw[Moved.eq_with hm];refine hR s'.heap d s'.toks acc' order c' (fun b o hb e=>hm.heap b o (fun hmem=>?_) (hk2 b o hb e)) hS' hp ?_
  ·rcases List.mem_cons.mp hmem with e' | hmem
   ·exact hb e'
   ·rw[bd.mp hmem]at e;exact absurd (fw e) (Nat.not_lt.mpr hI)
  ·apply List.ext_getElem?;intro i;rw[Array.getElem?_toList];cases q:acc'[i]? with
   | none=>
    have:acc'.size<=i:=by
     rcases Nat.lt_or_ge i acc'.size with z | z
     ·rw[Array.getElem?_eq_getElem z]at q;cases q
     ·exact z
    rw[hacc.1]at this;rw[List.getElem?_eq_none (by omega)]
   | some v=>exact(hacc.2 i v q).symm
 refine de (wpAny_holding (C2 (s:={s with heap:=h',drawn:=d}) (dk.typeIs (s:={s with heap:=h',drawn:=d}) (hS.hs.at fun o e=>hk a o e)) ?_));have hS1:=hk _ _ hL;refine wpAny_ite_split (fun _=>?_) (fun _=>dL ⟨plainId_quiet PySem.F.plain_extend_loop _,key _ c0 _ st (fun b o _ e=>hk b o e) hS1⟩);refine de (wpAny_rule ?_);refine de ?_;show wpAny _ _ (updateSeq S (·.push .none)>>=fun _=>updateSeq S (·.pop)) _ _ _;refine de (wpAny_updateSeq hS1 rfl ?_);have hS2:=Heap.get?_update_self (Obj.mapSeq (·.push Value.none)) hS1 rfl;refine wpAny_updateSeq (hz:=by seq_fits) hS2 rfl ?_;have IA:=Heap.get?_update_self (Obj.mapSeq (·.pop)) hS2 rfl;refine dL ⟨plainId_quiet PySem.F.plain_extend_loop _,key _ _ _ ?_ (fun b o hb e=>?_) IA⟩
 ·refine W.frame 0 _ _ st fun b hb o e=>?_;have hbS:b≠S:=fun h=>hSf (h▸hb);exact(Heap.get?_update_other _ _ (Ne.symm hbS)).trans ((Heap.get?_update_other _ _ (Ne.symm hbS)).trans e)
 ·exact(Heap.get?_update_other _ _ (Ne.symm hb)).trans ((Heap.get?_update_other _ _ (Ne.symm hb)).trans (hk b o e))
theorem vk(hh:A.handled=none){a:Addr}{es:Array (Int×Value)}{ep:Nat}{t:SetTable}{R:List Value->Shared->Prop}(hS:SI prog w s a es ep t)(hsz:es.size<=em)
  (h:∀h' d tk (order:List Value),s.heap.objs.size<h'.objs.size->(∀b o,s.heap.get? b=some o->h'.get? b=some o)->List.Perm order (es.toList.map (·.2))->R order {s with heap:=h',toks:=tk,drawn:=d}):
  wpAny (model prog w) A (collect (.ref a)) R E s:=by
 have hlt:@LT.lt Nat _ a s.heap.objs.size:=hS.hs.lt;unfold collect;refine de (wpAny_runValue (codeAny_builtin entry_proto_collect' ?_));rw[Around.under_plainId PySem.F.plain_proto_collect _];show wpAny _ A.in1 (newList [] >>=fun l=>again (.builtin "list.__iadd__" ⟨[l,.ref a],[]⟩)) _ _ s;refine de (wpAny_newObj_type ?_);refine dL ⟨plainId_quiet PySem.F.plain_list_iadd _,codeAny_builtin entry_list_iadd' ?_⟩;rw[Around.under_plainId PySem.F.plain_list_iadd _];have hS1:(s.heap.push {cls:=.type "list",data:=.seq ([]:List Value).toArray}).get? s.heap.objs.size=some {cls:=.type "list",data:=.seq #[]}:=fm _ rfl;show wpAny _ A.in1 (Builtin.List.listExtendWith (.ref s.heap.objs.size) (.ref a) (.ref s.heap.objs.size)) _ _ _;have S':SI prog w {s with heap:=s.heap.push {cls:=.type "list",data:=.seq ([]:List Value).toArray}} a es ep t:=⟨hS.hs.at fun o e=>fg _ e,hS.fit,hS.inv,hS.led⟩
 have key:=xc (A:=A) (R:=fun(q:Result) (s':Shared)=>∃(h':Heap) (d:Drawn) (tk:Nat) (acc:Array Value) (order:List Value) (c':Nat),q=.ok (.ret (.ref s.heap.objs.size))/\s'={s with heap:=h',toks:=tk,drawn:=d}/\
   (∀b o,s.heap.get? b=some o->h'.get? b=some o)/\h'.get? s.heap.objs.size=some {cls:=.type "list",dict:=none,data:=.seq acc c',slots:=#[]}/\List.Perm order (es.toList.map (·.2))/\acc.toList=order)
  hh S' hsz (Nat.ne_of_gt hlt) (.ref s.heap.objs.size) 0 hS1
  (fun h' d tk acc order c' hk hL hp ha=>⟨h',d,tk,acc,order,c',rfl,rfl,fun b o e=>hk b o (kt (fw e)) (fg _ e),hL,hp,ha⟩)
 refine en key (fun fin s' x=>?_) fun e s' x=>?_
 ·cases fin with
  | done f=>
   obtain⟨h',d,tk,acc,order,c',e,rfl,hk,hL,hp,ha⟩:=x;cases e;show wpAny _ A (load s.heap.objs.size>>=_) _ _ _;refine de (wpAny_load hL ?_);refine dL ?_;rw[ha];exact h h' d tk order (fw hL) hk hp
  | again c1=>
   refine⟨x.1,codeAny_mono x.2 fun q s2 y=>?_⟩;obtain⟨h',d,tk,acc,order,c',rfl,rfl,hk,hL,hp,ha⟩:=y;show wpAny _ A (load s.heap.objs.size>>=_) _ _ _;refine de (wpAny_load hL ?_);refine dL ?_;rw[ha];exact h h' d tk order (fw hL) hk hp
 ·obtain⟨_,_,_,_,_,_,e',_⟩:=x;cases e'
theorem lH:∀{us vs:List Value},List.Perm us vs->∀{ns:List Int},IntsAre vs ns->∃ms,IntsAre us ms/\List.Perm ms ns:=by
 intro us vs hp
 induction hp with
 | nil=>intro ns h;cases h;exact⟨[],.nil,.nil⟩
 | cons x _ ih=>
  intro ns h;cases h with
  | cons n t r=>
   obtain⟨ms,h1,h2⟩:=ih r;exact⟨n::ms,.cons n t h1,h2.cons _⟩
 | swap x y l=>
  intro ns h;cases h with
  | cons n t r=>
   cases r with
   | cons n' t' r'=>exact⟨_,.cons _ _ (.cons _ _ r'),List.Perm.swap _ _ _⟩
 | trans _ _ ih1 ih2=>
  intro ns h;obtain⟨ms,h1,h2⟩:=ih2 h;obtain⟨Uq,h3,h4⟩:=ih1 h1;exact⟨Uq,h3,h4.trans h2⟩
theorem xg(hh:A.handled=none){a:Addr}{es:Array (Int×Value)}{ep:Nat}{t:SetTable}{ns:List Int}{Q:Value->Shared->Prop}(hS:SI prog w s a es ep t)(hI:IntsAre (es.toList.map (·.2)) ns)(h64:ns.length<64)
  (h:∀(D:Addr) (h':Heap) (d:Drawn) (tk:Nat) (out:Array Value) (ms:List Int) (c:Nat),s.heap.objs.size<=D->(∀b o,s.heap.get? b=some o->h'.get? b=some o)->h'.get? D=some {cls:=.type "list",data:=.seq out c}->IntsAre out.toList ms->ms.Perm ns->ms.Pairwise (· <= ·)->
   Q (.ref D) {s with heap:=h',toks:=tk,drawn:=d}):
  wpAny (model prog w) A (call (.builtin "sorted") [.ref a]) Q E s:=by
 have hl:es.size=ns.length:=by rw[<-IntsAre.length hI,List.length_map,Array.length_toList]
 have hsz:es.size<=em:=by rw[hl,sizeLine_eq];omega
 refine call_function_entry kind_sorted plain_sorted entry_sorted (args_sorted1 _) ?_;unfold Builtin.«sorted»;refine de (m:=checkCount "sorted" 1 1 _) (dL ?_);refine de (vk (A:=A.in1) hh hS hsz fun h' d tk order hlt hk hp=>?_);obtain⟨ms,hms,hmp⟩:=lH hp hI;have hol:order.length=ns.length:=by rw[IntsAre.length hms,hmp.length_eq]
 refine de (wpAny_newList ?_ (by rw[hol,<-hl];exact hsz));have hD:(h'.push (seqObj "list" order.toArray 0)).get? h'.objs.size=some (seqObj "list" order.toArray 0):=fm _ rfl;refine de (wpAny_holding (ff slot_list_sort ⟨_,hD,rfl⟩ entry_list_sort (list_sort_tree hD hms (by omega) fun out Uq a1 a2 a3=>⟨_,rfl,?_⟩) (args_list_sort _)));obtain⟨c,hc⟩:=sortedHeap_at (out:=out) hD;refine dL ⟨_,rfl,h h'.objs.size _ d tk out Uq c (Nat.le_of_lt hlt) (fun b o e=>?_) hc a1 (a2.trans hmp) a3⟩;have hb:=fw (hk b o e);rw[sortedHeap_old (kt hb) (by rw[size_push'];exact Nat.lt_succ_of_lt hb)];exact fg _ (hk b o e)
def iu(prog:Program)(w:World)(h:Heap)(a:Addr)(us:List Int):Prop :=
 ∃es ep t,dk h a es ep t/\t.fits es.size=true/\pA t/\(w.params.followText "set-order"=true\/t.led=true)/\ElemsOf (intKind prog w) es.toList/\IntsAre (es.toList.map (·.2)) us/\us.Nodup
theorem iu.at{prog:Program}{w:World}{h h':Heap}{a:Addr}{us:List Int}(x:iu prog w h a us)(e:∀o,h.get? a=some o->h'.get? a=some o):iu prog w h' a us:=by obtain⟨es,ep,t,hs,r⟩:=x;exact⟨es,ep,t,hs.at e,r⟩
theorem vm:∀{vs:List Value} {us:List Int} {k:Int},IntsAre vs us->(k∈us↔∃v∈vs,Value.isInt k v=true)
 | _,_,k,.nil=>by simp
 | _,_,k,.cons n t r=>by
  have ih:=vm (k:=k) r;rw[List.mem_cons,ih];constructor
  ·rintro(e | ⟨v,hv,e⟩)
   ·subst e;exact⟨_,List.mem_cons_self,by simp[Value.isInt]⟩
   ·exact⟨v,List.mem_cons_of_mem _ hv,e⟩
  ·rintro⟨v,hv,e⟩;rcases List.mem_cons.mp hv with z | z
   ·subst z;exact .inl (by have q:n=k:=(by simpa[Value.isInt] using e);exact q.symm)
   ·exact .inr ⟨v,z,e⟩
theorem ints_snoc:∀{vs:List Value} {us:List Int} (k:Int) (t:Tok),IntsAre vs us->IntsAre (vs++ [.int k t]) (us++ [k])
 | _,_,k,t,.nil=>.cons k t .nil
 | _,_,k,t,.cons n t' r=>.cons n t' (ints_snoc k t r)
theorem zc{h:Heap}{a:Addr}{es es':Array (Int×Value)}{ep:Nat}{t t':SetTable}{us:List Int}(hs:dk h a es ep t)(hf:t'.fits es'.size=true)(hi:pA t')(hl:w.params.followText "set-order"=true\/t'.led=true)
  (hel:ElemsOf (intKind prog w) es'.toList) (hI:IntsAre (es'.toList.map (·.2)) us) (hn:us.Nodup):dk (h.update a (Obj.putSet es' t')) a es' (ep+1) t'/\iu prog w (h.update a (Obj.putSet es' t')) a us:=by
 obtain⟨o,ho,hex,hd⟩:=hs;have hg:(h.update a (Obj.putSet es' t')).get? a=some {o with data:=.set es' (ep+1) t'}:=by have z:=Heap.get?_update_self (Obj.putSet es' t') ho (by rw[putSet_of es' t' hd];rfl);rw[putSet_of es' t' hd]at z;exact z
 have q:dk (h.update a (Obj.putSet es' t')) a es' (ep+1) t':=⟨_,hg,hex,rfl⟩;exact⟨q,es',ep+1,t',q,hf,hi,hl,hel,hI,hn⟩
theorem AR{es es':Array (Int×Value)}{c:Int}{x:Value}(hp:List.Perm es'.toList (es.push (c,x)).toList):List.Perm (es'.toList.map (·.2)) (es.toList.map (·.2)++ [x]):=by refine(hp.map _).trans ?_;rw[Array.toList_push,List.map_append];exact List.Perm.refl _
theorem Ge{t:SetTable}(h:pA t):pA {t with plain:=false}:=⟨h.R4,fun z=>by cases z⟩
theorem add_int{a:Addr}{us:List Int}{k:Int}{tk:Tok}{Q:Bool->Shared->Prop}(hS:iu prog w s.heap a us)(hroom:us.length+1<scanBound)
  (h:∀(b:Bool) (h':Heap) (us':List Int),Heap.SameBut a s.heap h'->iu prog w h' a us'->(∀j,j∈us'↔j∈us\/j=k)->us'.length<=us.length+1->Q b {s with heap:=h'}):
  wpAny (model prog w) A (setAddHashed a (.int k tk) ((intKind prog w).hash k)) Q E s:=by
 obtain⟨es,ep,t,hs,hf,hi,hl,hel,hI,hn⟩:=id hS;obtain⟨o,ho,hex,hd⟩:=id hs;have hsz:es.size=us.length:=by rw[<-IntsAre.length hI,List.length_map,Array.length_toList]
 have hmem:k∈us↔∃e∈es.toList,(intKind prog w).is k e.2=true:=by
  rw[vm hI];constructor
  ·rintro⟨v,hv,e⟩;obtain⟨p,hp,rfl⟩:=List.mem_map.mp hv;exact⟨p,hp,e⟩
  ·rintro⟨p,hp,e⟩;exact⟨p.2,List.mem_map.mpr ⟨p,hp,rfl⟩,e⟩
 unfold setAddHashed setAddHashedIn;refine wpAny_holding (de (wpAny_setState_of ho hd hf ?_));dsimp only;rw[byScan_of (knd:=intKind prog w) (x:=.int k tk) rfl (by omega) hel];simp only[↓reduceIte];unfold setAddByScan;refine de ?_;refine de (wpAny_rule ?_);refine de (wpAny_setScan_of (knd:=intKind prog w) (intKind_is _ _ _ _) ho hd hf hel ?_);cases hr:List.findIdx? (fun e=>(intKind prog w).is k e.2) es.toList with
 | some j=>
  dsimp only;obtain⟨hj,hpj,_⟩:=List.findIdx?_eq_some_iff_getElem.mp hr;have hk:k∈us:=hmem.mpr ⟨es.toList[j],bi hj,hpj⟩;refine dL (dL ?_);exact h false s.heap us (Heap.SameBut.refl a s.heap) hS (fun i=>⟨.inl,fun z=>z.elim id fun e=>e▸hk⟩) (Nat.le_succ _)
 | none=>
  dsimp only;have hk:k∉us:=fun z=>by obtain⟨e,he,q⟩:=hmem.mp z;have:=List.findIdx?_eq_none_iff.mp hr e he;rw[q]at this;cases this
  have hperm:=layNew_perm t es ((intKind prog w).hash k) (.int k tk);have hfits:=layNew_fits t es ((intKind prog w).hash k) (.int k tk);have hinv:=wZ es ((intKind prog w).hash k) (.int k tk) hi;generalize hL:layNew t es ((intKind prog w).hash k) (.int k tk)=L at hperm hfits hinv ⊢;obtain⟨es1,t1,wd,gave⟩:=L;dsimp only at hperm hfits hinv ⊢;have hel1:ElemsOf (intKind prog w) es1.toList:=by have z:=hperm;rw[Array.toList_push]at z;exact(hel.push (intKind_is _ _ _ _) rfl).perm z
  obtain⟨J6,Ur,hp1⟩:=lH (AR hperm) (ints_snoc k tk hI)
  have hn1:J6.Nodup:=hp1.nodup_iff.mpr (by
   rw[List.nodup_append]
   exact⟨hn,by simp,fun x hx y hy=>by rw[bd.mp hy];rintro rfl;exact hk hx⟩)
  have hl1:J6.length=us.length+1:=by rw[hp1.length_eq,av];rfl
  have hm1:∀j,j∈J6↔j∈us\/j=k:=fun j=>by rw[hp1.mem_iff,List.mem_append,bd]
  have hsz1:es1.size=J6.length:=by rw[<-IntsAre.length Ur,List.length_map,Array.length_toList]
  have hb1:es1.size<scanBound:=by omega
  have hgw:∀(b:Bool) {s₁:Shared} {Q':Unit->Shared->Prop},Q' () s₁->wpAny (model prog w) A (match b with | true=>rule "set.scan.the-table-gave-way" | false=>pure ()) Q' E s₁ :=
   fun b s₁ Q' hq=>by cases b<;>first | exact dL hq | exact wpAny_rule hq
  refine de (hgw _ ?_);have tail:∀t2:SetTable,t2.fits es1.size=true->pA t2->(w.params.followText "set-order"=true\/t2.led=true)->∀(g:Bool->Sem Unit) (YS:Bool) (R:Option Bool->Shared->Prop),
    (∀(b:Bool) (s₁:Shared) (Q':Unit->Shared->Prop),Q' () s₁->wpAny (model prog w) A (g b) Q' E s₁)->(∀h' us',Heap.SameBut a s.heap h'->iu prog w h' a us'->us'.Perm J6->R (some true) {s with heap:=h'})->
    wpAny (model prog w) A (storeSet a es1 t2>>=fun _=>if (!YS&&t2.tooFull)=true then (g (relayAll t2 es1 (SetTable.grown es1.size)).2.2>>=fun _=>storeSet a (relayAll t2 es1 (SetTable.grown es1.size)).1 (relayAll t2 es1 (SetTable.grown es1.size)).2.1>>=fun _=>pure (some true))else pure (some true)) R E s:=by
   intro t2 f2 i2 l2 g YS R hg hR;refine de (wpAny_storeSet_of ho hd ?_ (fits_of_scanBound hb1));obtain⟨q1,q2⟩:=zc (prog:=prog) (w:=w) hs f2 i2 l2 hel1 Ur hn1;have YT:=Heap.SameBut.update s.heap a (Obj.putSet es1 t2);split
   ·have rp:=relayAll_perm t2 es1 (SetTable.grown es1.size);have rf:=relayAll_fits t2 es1 (SetTable.grown es1.size);have ri:=sT (t:=t2) es1 (SetTable.grown es1.size);generalize relayAll t2 es1 (SetTable.grown es1.size)=Rl at rp rf ri ⊢;obtain⟨es2,t3,gave2⟩:=Rl;dsimp only at rp rf ri ⊢;obtain⟨us2,hI2,hp2⟩:=lH (rp.map (·.2)) Ur;refine de (hg _ _ _ ?_);obtain⟨o1,ho1,hex1,hd1⟩:=id q1;have e2:es2.size=es1.size:=by rw[<-Array.length_toList,rp.length_eq,Array.length_toList]
    refine de (wpAny_storeSet_of ho1 hd1 ?_ (fits_of_scanBound (by rw[e2];exact hb1)));obtain⟨_,q3⟩:=zc (prog:=prog) (w:=w) q1 rf ri.1 (l2.imp id fun z=>ri.2.trans z) (hel1.perm rp) hI2 (hp2.nodup_iff.mpr hn1);exact dL (hR _ us2 (YT.trans (Heap.SameBut.update _ a _)) q3 hp2)
   ·exact dL (hR _ J6 YT q2 (List.Perm.refl _))
  have fin:∀h' us',Heap.SameBut a s.heap h'->iu prog w h' a us'->us'.Perm J6->Q true {s with heap:=h'}:=fun h' us' x1 x2 x3=>
   h true h' us' x1 x2 (fun j=>by rw[x3.mem_iff];exact hm1 j) (by rw[x3.length_eq,hl1];exact ki _)
  have J7:w.params.followText "set-order"=true\/t1.led=true:=hl.imp id fun z=>hinv.2.trans z;split
  ·refine de ?_;rw[hashByValue_scannable 8 (x:=.int k tk) rfl];refine dL ?_;refine tail _ ?_ ?_ ?_ _ wd _ ?_ fun h' us' x1 x2 x3=>?_
   ·split
    ·exact hfits
    ·exact SetTable.fits_plain_off hfits
   ·split
    ·exact hinv.1
    ·exact Ge hinv.1
   ·split
    ·exact J7
    ·exact J7
   ·intro b s₁ Q' hq;cases b<;>first | exact dL hq | exact wpAny_rule hq
   ·exact dL (fin h' us' x1 x2 x3)
  ·refine de (dL ?_);simp only[↓reduceIte];refine tail _ hfits hinv.1 J7 _ wd _ ?_ fun h' us' x1 x2 x3=>?_
   ·intro b s₁ Q' hq;cases b<;>first | exact dL hq | exact wpAny_rule hq
   ·exact dL (fin h' us' x1 x2 x3)
theorem mq{R:Result->Shared->Prop}{I:Addr}{fp wr:List Addr}{G:Array GenState->Array GenState->Prop}{n:Nat}{P:Nat->Value->Prop}{St:Nat->Shared->Prop}(W:WalksS prog w A.in1 I fp wr G n P St)(S:Addr)(hSf:S∉fp)
  (val:Nat->Int) (hval:∀i v,P i v->∃t,v=.int (val i) t) (hb:n+1<scanBound):
  ∀(k i:Nat) (s:Shared) (us:List Int),n-i=k->i<=n->St i s->iu prog w s.heap S us->us.length<=i->(∀j,j∈us↔∃m,m<i/\val m=j)->
   (∀s' us',Moved (S::wr) G s s'->iu prog w s'.heap S us'->us'.length<=n->(∀j,j∈us'↔∃m,m<n/\val m=j)->R (.ok (.ret .none)) s')->
   codeAny (model prog w) A (.builtin "set.update.loop" ⟨[.ref S,.ref I],[]⟩) R s:=by
 have hSw:S∉wr:=fun h=>hSf (W.sub _ h);have hsub:∀b∈wr,b∈S::wr:=fun b hb=>List.mem_cons_of_mem _ hb;intro k
 induction k with
 | zero=>
  intro i s us hk hi hst hS hlen hmem hR;have hin:i=n:=by omega
  subst hin;refine codeAny_builtin PyProof.Rows.F.entry_set_update_loop ?_;rw[Around.under_plainId PyProof.Rows.F.plain_set_update_loop _];show wpAny _ A.in1 (pyNext (.ref I)>>=_) _ _ s;refine de (W.done s _ _ hst fun s' hm=>?_);show wpAny _ A.in1 (ret Value.none) _ _ s';exact dL (hR s' us (hm.mono hsub) (hS.at fun o e=>hm.heap S o hSw e) hlen hmem)
 | succ k ih=>
  intro i s us hk hi hst hS hlen hmem hR;have hlt:i<n:=by omega
  refine codeAny_builtin PyProof.Rows.F.entry_set_update_loop ?_;rw[Around.under_plainId PyProof.Rows.F.plain_set_update_loop _];show wpAny _ A.in1 (pyNext (.ref I)>>=_) _ _ s;refine de (W.item i s _ _ hlt hst fun v s' hP hst' hm=>?_);obtain⟨t,rfl⟩:=hval i v hP;have hS':iu prog w s'.heap S us:=hS.at fun o e=>hm.heap S o hSw e;show wpAny _ A.in1 (holding [Value.int (val i) t] (setAdd S (.int (val i) t))>>=_) _ _ s';refine de (wpAny_holding ?_);unfold setAdd;refine wpAny_holding ?_;refine de ((intKind prog w).pyHash (k:=val i) (intKind_is _ _ _ _) ?_);refine add_int (s:={s' with toks:=s'.toks+1}) hS' (by omega) fun b h' us' hsb hS2 hm2 hl2=>?_;refine dL ⟨plainId_quiet PyProof.Rows.F.plain_set_update_loop _,ih (i+1) _ us' (by omega) hlt (W.frame _ s' _ _ hst' (Nat.le_succ _) fun b hb o e=>?_) hS2 (by omega) (fun j=>?_) fun s'' Us hm'' hS'' hl'' hmem''=>?_⟩
  ·rw[hsb.2 b (fun h:b=S=>hSf (by rw[<-h];exact hb))];exact e
  ·rw[hm2,hmem];constructor
   ·rintro(⟨m,h1,h2⟩ | e)
    ·exact⟨m,by omega,h2⟩
    ·exact⟨i,by omega,e.symm⟩
   ·rintro⟨m,h1,h2⟩;rcases Nat.lt_or_ge m i with q | q
    ·exact .inl ⟨m,q,h2⟩
    ·have e:m=i:=by omega
     subst e;exact .inr h2.symm
  ·refine hR s'' Us (Moved.trans W.gtrans ((hm.mono hsub).then_heap (Nat.le_succ _) fun b o hb e=>?_) hm'') hS'' hl'' hmem'';rw[hsb.2 b (fun h:b=S=>hb (by rw[h];exact List.mem_cons_self))];exact e
theorem zf(a:Value){Q₁:Value->Shared->Prop}
  (h:Q₁ (.ref s.heap.objs.size) {s with heap:=s.heap.push {cls:=.type "set",dict:=none,data:=.set #[] 0 (.fresh 0 0 (!w.params.followText "set-order"))}}):
  codeAny (model prog w) A (.call (.builtin "set.__new__") ⟨[.type "set",a],[]⟩) (wants Q₁ E) s:=by
 refine codeAny_of_tree ?_;show wpAny _ A.in1 (do checkBuiltinCall "set.__new__" ⟨[.type "set",a],[]⟩;again (.builtin "set.__new__" ⟨[.type "set",a],[]⟩)) _ _ s;refine de (wpAny_of_eq (PySem.F.newCall_set_1 a) (dL ⟨plainId_quiet PySem.F.plain_set_new _,codeAny_builtin PySem.F.entry_set_new ?_⟩));rw[Around.under_plainId PySem.F.plain_set_new _];unfold Builtin.«set.__new__» Builtin.Frozenset.newClass;have hsub:=sub_set_self;obtain⟨hp,g,d,tk,os⟩:=s;dsimp only
 wp_walk
 refine wpAny_askSetting (dL ?_);dsimp only;simp only[newObj];refine de (wpAny_alloc (dL ?_));exact dL h
set_option maxHeartbeats 8000000 in
theorem C3{l:Addr}{items:Array Value}{ns:List Int}{Q:Value->Shared->Prop}(hh:A.handled=none)(hl:s.heap.IsList l items)(hi:IntsAre items.toList ns)(hb:items.size+1<scanBound)
  (h:∀(h':Heap) (tk:Nat) (us:List Int),iu prog w h' s.heap.objs.size us->us.length<=ns.length->(∀j,j∈us↔j∈ns)->(∀b o,b<s.heap.objs.size->s.heap.get? b=some o->h'.get? b=some o)->Q (.ref s.heap.objs.size) {s with heap:=h',toks:=tk}):
  wpAny (model prog w) A (call (.type "set") [.ref l]) Q E s:=by
 obtain⟨c,tl,hmro⟩:=PySem.F.called_set.mro;have hmade:=PySem.F.called_set.made;have hsub:=PySem.F.called_set.sub;refine wpAny_call (codeAny_of_tree ?_);show wpAny _ _ (callAny (.type "set") _) _ _ _;refine dL ⟨Code.quiet_builtin _ (by decide+kernel),codeAny_builtin PySem.F.entry_type_call ?_⟩;rw[Around.under_plain (weight_type_call_type "set" [.ref l] []) rfl];have h1:=PySem.F.called_set.notType;have h2:=PySem.F.called_set.canCreate;have hct:=PySem.F.typeCall_set_1 (.ref l);generalize qQ:(!w.params.followText "set-order")=led
 repeat (any_goals (first | assumption | wp_step))
 refine codeAny_mono (zf (prog:=prog) (w:=w) (.ref l) (E:=E) (Q₁:=fun obj s₁=>obj=.ref s.heap.objs.size/\s₁={s with heap:=s.heap.push {cls:=.type "set",dict:=none,data:=.set #[] 0 (.fresh 0 0 led)}}) (by rw[qQ];exact⟨rfl,rfl⟩)) fun r s₁ hr=>?_;have kc:w.params.followText "set-order"=true\/led=true:=by
  cases q:w.params.followText "set-order"with
  | true=>exact .inl rfl
  | false=>rw[q]at qQ;exact .inr qQ.symm
 cases r with
 | error e=>exact hr
 | ok fl=>
  cases fl with
  | next=>exact hr.elim
  | brk=>exact hr.elim
  | cont=>exact hr.elim
  | ret obj=>
   obtain⟨rfl,rfl⟩:=hr;have hS:(s.heap.push {cls:=.type "set",dict:=none,data:=.set #[] 0 (.fresh 0 0 led)}).get? s.heap.objs.size=some {cls:=.type "set",dict:=none,data:=.set #[] 0 (.fresh 0 0 led)}:=fm _ rfl;have hT:Shared.TypeIs {s with heap:=s.heap.push {cls:=.type "set",dict:=none,data:=.set #[] 0 (.fresh 0 0 led)}} (.ref s.heap.objs.size) "set":=⟨_,hS,rfl⟩;have hli:=PySem.F.called_set.init.lookup;have hbi:=PySem.F.called_set.init.bind (.ref s.heap.objs.size)
   repeat (any_goals (first | assumption | wp_step))
   refine codeAny_mono (codeAny_call_builtin (R:=wants (fun r s₂=>r=.none/\∃h' tk us,s₂={s with heap:=h',toks:=tk}/\iu prog w h' s.heap.objs.size us/\us.length<=ns.length/\(∀j,j∈us↔j∈ns)/\
     (∀b o,b<s.heap.objs.size->s.heap.get? b=some o->h'.get? b=some o)) E) PySem.F.called_set.init.plain PySem.F.entry_set_init (check_set_init_1 hT ?_)) fun r₂ s₂ hr₂=>?_
   ·obtain⟨ol,hol,hcl,nl,hdl⟩:=hl;obtain⟨ocls,odict,odata,oslots⟩:=ol;simp only at hcl hdl;subst hcl;subst hdl;have hol':(s.heap.push {cls:=.type "set",dict:=none,data:=.set #[] 0 (.fresh 0 0 led)}).get? l=some {cls:=.type "list",dict:=odict,data:=.seq items nl,slots:=oslots}:=fg _ hol;have hsls:=PySem.F.sub_list_set;have hslf:=PySem.F.sub_list_frozenset;have hne:(Value.type "list"==Value.type "dict")=false:=by decide
    have hl1:(s.heap.push {cls:=.type "set",dict:=none,data:=.set #[] 0 (.fresh 0 0 led)}).IsList l items:=⟨_,hol',rfl,nl,rfl⟩;unfold Builtin.«set.__init__» noKeywords Builtin.Frozenset.updateFrom;generalize hPI:pyIter=PI
    wp_walk
    subst hPI;refine wpAny_pyIter_list hl1 ?_;refine de (wpAny_runValue ?_);have hlS:l<s.heap.objs.size:=fw hol;have hh3:A.in1.in1.in1.handled=none:=by simp[hh]
    have hneI:l≠(s.heap.push {cls:=.type "set",dict:=none,data:=.set #[] 0 (.fresh 0 0 led)}).objs.size:=by rw[Heap.size_push];exact kt (Nat.lt_succ_of_lt hlS)
    have hSf:s.heap.objs.size∉ [(s.heap.push {cls:=.type "set",dict:=none,data:=.set #[] 0 (.fresh 0 0 led)}).objs.size,l]:=by rw[Heap.size_push];simp only[List.mem_cons,bd,List.not_mem_nil,or_false,not_or];exact⟨kt (Nat.lt_succ_self _),Nat.ne_of_gt hlS⟩
    have hval:∀(i:Nat) (v:Value),items[i]? =some v->∃t,v=.int ((fun i=>ns.getD i 0) i) t:=fun i v hv=>
     IntsAre.int_at hi i v (by rw[Array.getElem?_toList];exact hv)
    have hnl:ns.length=items.size:=by rw[<-IntsAre.length hi,Array.length_toList]
    refine mq ((Walks.list hh3 _ l hneI items).toS) s.heap.objs.size hSf (fun i=>ns.getD i 0) hval hb (items.size-0) 0 _ [] (by omega) (Nat.zero_le _)
     ⟨⟨_,fm _ rfl,rfl,rfl⟩,(hl1.push _)⟩ ?hS0 (Nat.zero_le _) (fun j=>by simp) ?hR
    case hS0=>
     have hget:((s.heap.push {cls:=.type "set",dict:=none,data:=.set #[] 0 (.fresh 0 0 led)}).push {cls:=.type "list_iterator",data:=.fields #[.ref l,.int 0 0]}).get? s.heap.objs.size
       =some {cls:=.type "set",dict:=none,data:=.set #[] 0 (.fresh 0 0 led)}:=fg _ hS
     exact⟨#[],0,.fresh 0 0 led,⟨_,hget,⟨rfl,rfl,rfl⟩,rfl⟩,by rfl,⟨rfl,fun _ i k _ hk=>by simp[SetTable.fresh]at hk⟩,kc,fun e he=>by simp at he,.nil,List.nodup_nil⟩
    case hR=>
     intro s' us hm hS' hlen hmem;obtain⟨h',g',d',tk',os'⟩:=s';have eg:g'=s.gens:=hm.gens;have ed:d'=s.drawn:=hm.drawn;have eo:os'=s.os:=hm.os;subst eg;subst ed;subst eo;show wpAny _ _ _ _ _ _;refine dL ?_;show wpAny _ _ (ret Value.none) _ _ _;refine dL ⟨rfl,h',tk',us,rfl,hS',by omega,fun j=>?_,fun b o hb e=>?_⟩
     ·rw[hmem];constructor
      ·rintro⟨m,h1,h2⟩;have hm':m<ns.length:=by omega
       rw[<-h2];show ns.getD m 0∈ns;rw[List.getD_eq_getElem?_getD,ac hm'];exact bi hm'
      ·intro hj;obtain⟨m,hm',e⟩:=List.getElem_of_mem hj;refine⟨m,by omega,?_⟩;show ns.getD m 0=j;rw[List.getD_eq_getElem?_getD,ac hm'];exact e
     have hb1:b≠s.heap.objs.size:=kt hb;have hb2:b≠(s.heap.push {cls:=.type "set",dict:=none,data:=.set #[] 0 (.fresh 0 0 led)}).objs.size:=by rw[Heap.size_push];exact kt (Nat.lt_succ_of_lt hb)
     exact hm.heap b o (by simp only[List.mem_cons,bd,List.not_mem_nil,or_false,not_or];exact⟨hb1,hb2⟩) (fg _ (fg _ e))
   ·cases r₂ with
    | error e=>exact hr₂
    | ok fl₂=>
     cases fl₂ with
     | ret r=>
      obtain⟨rfl,h',tk,us,rfl,hS',h1',h2',hk'⟩:=hr₂
      repeat (any_goals (first | assumption | wp_step))
      exact h _ _ us hS' h1' h2' hk'
     | _=>exact hr₂.elim
end
end SF
namespace L2
open PySem PySem.Spec PyProof.Rows
def qR(P:Program)(w:World)(l:Addr)(us:List Int):HO:=.ext fun h=>SF.iu P w h l us
theorem pE{P:Program}{w:World}{h:Heap}{l:Addr}{us:List Int}(x:SF.iu P w h l us):∃o,h.get? l=some o:=by obtain⟨_,_,_,⟨o,ho,_⟩,_⟩:=x;exact⟨o,ho⟩
section
variable {X:Cx}
inductive jD(K:gt)(P:Program)(w:World)(xs:List V)(H:Hp)(Q:VK):Prop
 | mk (p:Addr) (ns:List Int) (_:xs=[.ref p]) (_:aR K H p (ns.map V.int)) (_:ns.length<4000) (_:∀(l:Addr) (us:List Int),H l=none->us.length<=ns.length->us.Nodup->(∀j,j∈us↔j∈ns)->Q (.ref l) (upd H l (qR P w l us)))
theorem mr(hc:X.calm=true):eL X (.type "set") (jD X.K X.prog X.w):=by
 intro kb s σ H xs R5 Q I r h;obtain⟨p,ns,rfl,hp,hz,q⟩:=h;obtain⟨u,rfl,ru⟩:=vals1 r;cases ru;obtain⟨its,hv,pl,_⟩:=I.list hp;have hi:=intsAre_of hv;have hl:its.length=ns.length:=IntsAre.length hi;refine SF.C3 (I.ok.hd hc) (items:=its.toArray) (ns:=ns) pl.isList (by simpa using hi) (by rw[ar,hl];unfold scanBound;omega) fun h' tk us hS h1 h2 hk=>?_;have hn:us.Nodup:=by obtain⟨_,_,_,_,_,_,_,_,_,hn⟩:=hS;exact hn
 refine⟨.ref s.heap.objs.size,upd H s.heap.objs.size (qR X.prog X.w s.heap.objs.size us),I.laid (fun b o e=>hk b o (fw e) e) (ki _) ?_,rfl,q _ us I.fresh h1 hn h2⟩;exact⟨hS,pE hS,fun h1 h2 x e=>SF.iu.at x e⟩
inductive gU(P:Program)(w:World)(xs:List V)(H:Hp)(Q:VK):Prop
 | mk (p:Addr) (us:List Int) (_:xs=[.ref p]) (_:H p=some (qR P w p us)) (_:us.length<64) (_:∀(l:Addr) (ms:List Int),H l=none->ms.Perm us->ms.Pairwise (· <= ·)->Q (.ref l) (upd H l (.lst (ms.map V.int))))
theorem fq(hc:X.calm=true):eL X (.builtin "sorted") (gU X.prog X.w):=by
 intro kb s σ H xs R5 Q I r h;obtain⟨p,us,rfl,hp,hz,q⟩:=h;obtain⟨u,rfl,ru⟩:=vals1 r;cases ru;obtain⟨hS,_,_⟩:=(show bJ X.prog X.w H s.heap p (qR X.prog X.w p us)from I.hok p _ hp);obtain⟨es,ep,t,a1,a2,a3,a4,a5,a6,a7⟩:=hS;refine SF.xg (I.ok.hd hc) (ns:=us) ⟨a1,a2,a3,a4⟩ a6 hz fun D h' d tk out ms c hD hk hg hI hperm Fk=>?_;have hl:ms.length<64:=by rw[hperm.length_eq];exact hz
 have nD:H D=none:=I.hok.fresh hD;have new:bJ X.prog X.w (upd H D (.lst (ms.map V.int))) h' D (.lst (ms.map V.int)):=⟨by rw[List.length_map,sizeLine_eq];omega,out.toList,c,jm hI,by rw[hg]⟩;refine⟨.ref D,upd H D (.lst (ms.map V.int)),I.call (g':=s.gens) (d':=d) (t':=tk) (ch:=[]) (Un.laid hk hD nD) (I.hok.laid hk hD new) I.bare (fun b z=>absurd z (by simp)),rfl,q D ms nD hperm Fk⟩
inductive gk(K:gt)(xs:List V)(H:Hp)(Q:VK):Prop
 | mk (x:V) (n:String) (t:Value) (b:Bool) (_:xs=[x,.ty n]) (_:gM K H x t) (_:PySem.W.kitOne K t (.type n)=some b) (_:Q (.bl b) H)
theorem cG:eL X (.builtin "isinstance") (gk X.K):=by intro kb s σ H xs us Q I r h;obtain⟨x,n,t,b,rfl,ht,hk,q⟩:=h;obtain⟨u,v,rfl,ru,rv⟩:=vals2 r;cases rv;exact Ax I ru ht hk fun tk=>⟨.bl b,H,I.tok tk,rfl,q⟩
def C4(a b:V):Prop:=(∃p,a=.ref p/\b=.ref p)\/(∃i j,a=.int i/\b=.int j)\/∃i j,a=.str i/\b=.str j
inductive OJ(K:gt)(x:V)(y:V)(H:Hp)(Q:VK):Prop
 | mk (p q:Addr) (xs ys:List V) (_:x=.ref p) (_:y=.ref q) (_:aR K H p xs) (_:aR K H q ys) (_:(∀(i:Nat) a b,xs[i]? =some a->ys[i]? =some b->C4 a b)) (_:Q (.bl (!decide (xs=ys))) H)
theorem zg{A:Around}{s:Shared}{a b:V}{u v:Value}(h:C4 a b)(ra:RelV a u)(rb:RelV b v):SeqAt.EqAt A s u v (decide (a=b)):=by
 rcases h with ⟨p,rfl,rfl⟩ | ⟨i,j,rfl,rfl⟩ | ⟨i,j,rfl,rfl⟩
 ·cases ra;cases rb;rw[decide_eq_true rfl];exact SeqAt.EqAt.same _
 ·obtain⟨t,rfl⟩:=ra;obtain⟨t',rfl⟩:=rb;rw[sD];exact SeqAt.EqAt.int_int _ _ _ _
 ·obtain⟨t,rfl⟩:=ra;obtain⟨t',rfl⟩:=rb;rw[sE];exact SeqAt.EqAt.str_str _ _ _ _
theorem all_eq{xs ys:List V}(h:xs.length=ys.length):((List.range xs.length).all fun i=>decide (xs[i]? =ys[i]?))=decide (xs=ys):=by
 rw[Bool.eq_iff_iff,List.all_eq_true,decide_eq_true_iff];constructor
 ·intro q;apply List.ext_getElem?;intro i;rcases Nat.lt_or_ge i xs.length with z | z
  ·exact of_decide_eq_true (q i (List.mem_range.mpr z))
  ·rw[List.getElem?_eq_none z,List.getElem?_eq_none (by omega)]
 ·rintro rfl i _;simp
theorem sW(hu:X.A.units<cLine):jG X (compareOp .NotEq) (OJ X.K):=by
 intro kb s σ H x y v u Q I rx ry h;obtain⟨p,q,xs,ys,rfl,rfl,hp,hq,hc,k⟩:=h;cases rx;cases ry;obtain⟨its,hv,pl,_⟩:=I.list hp;obtain⟨its2,hv2,OL,_⟩:=I.list hq;have e1:=hv.length;have e2:=hv2.length;by_cases hl:xs.length=ys.length
 ·have key:SeqAt.RcNeAt X.A s (.ref p) (.ref q) (!(List.range its.toArray.size).all fun i=>decide (xs[i]? =ys[i]?)):=by
   refine SeqAt.RcNeAt.lists pl.isList OL.isList (by simp;omega) hu fun j h1 h2=>?_;have j1:j<xs.length:=by simp at h1;omega
   have j2:j<ys.length:=by simp at h2;omega
   have z1:xs[j]? =some xs[j]:=ac j1;have z2:ys[j]? =some ys[j]:=ac j2;obtain⟨u1,w1,r1⟩:=hv.get z1;obtain⟨u2,w2,r2⟩:=hv2.get z2;have i1:its.toArray[j]=u1:=by have:its[j]? =some its[j]:=ac (by omega);rw[this]at w1;simpa using w1
   have i2:its2.toArray[j]=u2:=by have:its2[j]? =some its2[j]:=ac (by omega);rw[this]at w2;simpa using w2
   rw[i1,i2,z1,z2];have e:decide (some xs[j]=some ys[j])=decide (xs[j]=ys[j]):=by simp
   rw[e];exact zg (hc j _ _ z1 z2) r1 r2
  rw[ar,<-e1,all_eq hl]at key;exact key _ _ _ _ ⟨.bl (!decide (xs=ys)),H,I,rfl,k⟩
 ·have key:SeqAt.RcNeAt X.A s (.ref p) (.ref q) true:=SeqAt.RcNeAt.lists_lengths pl.isList OL.isList (by simp;omega) hu;rw[decide_eq_false (fun z=>hl (by rw[z]))]at k;exact key _ _ _ _ ⟨.bl true,H,I,rfl,k⟩
inductive qS(xs:List V)(H:Hp)(Q:VK):Prop
 | mk (n:Int) (_:xs=[.int n]) (_:∀p,H p=none->Q (.ref p) (upd H p (.rng 0 n)))
theorem vn:eL X (.type "range") qS:=by intro kb s σ H xs us Q I r h;obtain⟨n,rfl,q⟩:=h;obtain⟨u,rfl,ru⟩:=vals1 r;obtain⟨t,rfl⟩:=ru;refine call_range_1 ⟨.ref s.heap.objs.size,upd H s.heap.objs.size (.rng 0 n),I.laid (fun b o e=>fg _ e) (ki _) ⟨_,_,_,fm _ rfl⟩,rfl,q _ I.fresh⟩
theorem xh{n:Nat}:∀{acc:List Value},acc.length=n->(∀(j:Nat) (v:Value),acc[j]? =some v->∃t,v=.int (j:Int) t)->Vals ((List.range n).map fun(j:Nat)=>V.int (j:Int)) acc:=by
 intro acc hl hv;subst hl;have key:∀(l:List Value) (k:Nat),(∀(j:Nat) (v:Value),l[j]? =some v->∃t,v=.int ((k+j:Nat):Int) t)->Vals ((List.range' k l.length).map fun(j:Nat)=>V.int (j:Int)) l:=by
  intro l
  induction l with
  | nil=>intro k _;exact .nil
  | cons a r ih=>
   intro k h;rw[ci,List.range'_succ,cp];obtain⟨t,ht⟩:=h 0 a rfl;refine .cons ⟨t,by simpa using ht⟩ (ih (k+1) fun j v e=>?_);obtain⟨t,ht⟩:=h (j+1) v (by simpa using e);exact⟨t,by rw[ht];congr 2;omega⟩
 rw[List.range_eq_range'];exact key acc 0 (fun j v e=>by simpa using hv j v e)
inductive ng(xs:List V)(H:Hp)(Q:VK):Prop
 | mk (p:Addr) (n:Nat) (_:xs=[.ref p]) (_:H p=some (.rng 0 n)) (_:n<=1000) (_:∀l,H l=none->Q (.ref l) (upd H l (.lst ((List.range n).map fun(j:Nat)=>V.int (j:Int)))))
theorem qT(hc:X.calm=true):eL X (.type "list") ng:=by
 intro kb s σ H xs us Q I r h;obtain⟨p,n,rfl,hp,hn,q⟩:=h;obtain⟨u,rfl,ru⟩:=vals1 r;cases ru;obtain⟨t,u,v,hr⟩:=(show bJ X.prog X.w H s.heap p (.rng 0 n)from I.hok p _ hp);refine call_list_range (a:=0) (b:=n) (c:=1) (n:=n) (I.ok.hd hc) hr (small_one (by decide) (by decide) (by omega) (by omega)) ?_ (by omega) fun h' tk acc c' hk hg hacc=>?_
 ·unfold Builtin.Range.rangeSize;simp;omega
 ·have hl:acc.toList.length=n:=by rw[Array.length_toList];exact hacc.1
  have hv:=xh (acc:=acc.toList) hl (fun j v e=>by
   obtain⟨t,ht⟩:=hacc.2 j v (by rw[<-Array.getElem?_toList];exact e)
   exact⟨t,by rw[ht];congr 1;omega⟩)
  refine⟨.ref s.heap.objs.size,_,I.laid (t':=tk) hk (ki _) (show bJ X.prog X.w _ h' _ (.lst ((List.range n).map fun(j:Nat)=>V.int (j:Int)))from⟨by rw[List.length_map,List.length_range,sizeLine_eq];omega,acc.toList,c',hv,by rw[hg]⟩),rfl,q _ I.fresh⟩
end
open PySem PySem.W PySem.Spec PySem.Calls PyProof.Rows
def C5:Option Int->Value->Bool
 | none,v=>match v with
  | .none=>true
  | _=>false
 | some i,v=>Value.isInt i v
theorem dH{k:Option Int}{v:Value}(h:C5 k v=true):(k=none/\v=.none)\/∃i t,k=some i/\v=.int i t:=by
 cases k with
 | none=>cases v<;>simp_all [C5]
 | some i=>
  obtain⟨t,e⟩:=Value.isInt_shape (show Value.isInt i v=true from h);exact .inr ⟨i,t,rfl,e⟩
def OM:Option Int->Int
 | none=>0xFCA86420
 | some i=>hashInt i
def oV:Option Int->V
 | none=>.non
 | some i=>.int i
theorem OO{k:Option Int}{u:Value}(r:RelV (oV k) u):C5 k u=true:=by
 cases k with
 | none=>
  have e:u=Value.none:=r;subst e;rfl
 | some i=>
  obtain⟨t,e⟩:=(show ∃t,u=Value.int i t from r);subst e;simp[C5,Value.isInt]
def optKind(prog:Program)(w:World):KeyKind prog w (Option Int) where
 is:=C5
 hash:=OM
 inj:=fun v a b ha hb=>by
  rcases dH ha with ⟨rfl,rfl⟩ | ⟨i,t,rfl,rfl⟩
  ·rcases dH hb with ⟨rfl,_⟩ | ⟨j,u,rfl,e⟩
   ·rfl
   ·exact nomatch e
  ·rcases dH hb with ⟨rfl,e⟩ | ⟨j,u,rfl,e⟩
   ·exact nomatch e
   ·injection e with e1 _
    rw[e1]
 byValue:=fun k v h=>by rcases dH h with ⟨rfl,rfl⟩ | ⟨i,t,rfl,rfl⟩<;>rfl
 pyHash:=fun hv h=>by
  rcases dH hv with ⟨rfl,rfl⟩ | ⟨i,t,rfl,rfl⟩
  ·exact pyHash_slot (T :="NoneType") rfl PySem.F.slot_NoneType_hash PySem.F.entry_NoneType_hash (PySem.F.args_NoneType_hash_1 _) (beq_builtin_none _) (.inl rfl) (de (dL (de (wpAny_mkInt (dL ⟨_,_,rfl,h⟩)))))
  ·exact wpAny_pyHash_int h
 eqBool:=fun hu hv h=>by
  rcases dH hu with ⟨rfl,rfl⟩ | ⟨i,t,rfl,rfl⟩
  ·rcases dH hv with ⟨rfl,rfl⟩ | ⟨j,u,rfl,rfl⟩
   ·exact SeqAt.EqAt.same _ _ _ _ _ (by simpa using h)
   ·exact SeqAt.EqAt.none_int _ _ _ _ _ _ (by simpa using h)
  ·rcases dH hv with ⟨rfl,rfl⟩ | ⟨j,u,rfl,rfl⟩
   ·exact SeqAt.EqAt.int_none _ _ _ _ _ _ (by simpa using h)
   ·have e:decide (some i=some j)=(i==j):=by by_cases z:i=j<;>simp[z]
    rw[e]at h;exact wpAny_eqBool_int h
 «strs»:=fun k x t v h=>by rcases dH h with ⟨_,e⟩ | ⟨i,u,_,e⟩<;>exact nomatch e
section
variable {X:Cx}{pos pos':Pos}{o i value:Expr}{td ty tv:TE}
inductive Ut(K:gt)(x:V)(y:V)(H:Hp)(Q:VK):Prop
 | mk (p q:Addr) (xs ys:List V) (_:x=.ref p) (_:y=.ref q) (_:aR K H p xs) (_:aR K H q ys) (_:(∀(i:Nat) a b,xs[i]? =some a->ys[i]? =some b->C4 a b\/(a=.non/\b=.non))) (_:Q (.bl (decide (xs=ys))) H)
theorem sX(hu:X.A.units<cLine):jG X (compareOp .Eq) (Ut X.K):=by
 intro kb s σ H x y v u Q I rx ry h;obtain⟨p,q,xs,ys,rfl,rfl,hp,hq,hc,k⟩:=h;cases rx;cases ry;obtain⟨its,hv,pl,_⟩:=I.list hp;obtain⟨its2,hv2,OL,_⟩:=I.list hq;have e1:=hv.length;have e2:=hv2.length;by_cases hl:xs.length=ys.length
 ·have key:SeqAt.RcAt X.A s (.ref p) (.ref q) ((List.range its.toArray.size).all fun i=>decide (xs[i]? =ys[i]?)):=by
   refine SeqAt.RcAt.lists pl.isList OL.isList (by simp;omega) hu fun j h1 h2=>?_;have j1:j<xs.length:=by simp at h1;omega
   have j2:j<ys.length:=by simp at h2;omega
   have z1:xs[j]? =some xs[j]:=ac j1;have z2:ys[j]? =some ys[j]:=ac j2;obtain⟨u1,w1,r1⟩:=hv.get z1;obtain⟨u2,w2,r2⟩:=hv2.get z2;have i1:its.toArray[j]=u1:=by have:its[j]? =some its[j]:=ac (by omega);rw[this]at w1;simpa using w1
   have i2:its2.toArray[j]=u2:=by have:its2[j]? =some its2[j]:=ac (by omega);rw[this]at w2;simpa using w2
   rw[i1,i2,z1,z2];have e:decide (some xs[j]=some ys[j])=decide (xs[j]=ys[j]):=by simp
   rw[e];rcases hc j _ _ z1 z2 with hc | ⟨ha,hb⟩
   ·exact zg hc r1 r2
   ·rw[ha]at r1 ⊢;rw[hb]at r2 ⊢;have q1:u1=Value.none:=r1;have q2:u2=Value.none:=r2;subst q1 q2;rw[decide_eq_true rfl];exact SeqAt.EqAt.same _
  rw[ar,<-e1,all_eq hl]at key;exact key _ _ _ _ ⟨.bl (decide (xs=ys)),H,I,rfl,k⟩
 ·have key:SeqAt.RcAt X.A s (.ref p) (.ref q) false:=SeqAt.RcAt.lists_lengths pl.isList OL.isList (by simp;omega) hu;rw[decide_eq_false (fun z=>hl (by rw[z]))]at k;exact key _ _ _ _ ⟨.bl false,H,I,rfl,k⟩
end
open PySem PySem.Spec PyProof.Rows
section
variable {X:Cx}{kb:List (Addr×Obj)}{σ:St}{H:Hp}{s:Shared}{h':Heap}
theorem Inv.lI{t':Nat}{its:List Addr}{a:Addr}{o:HO}(I:Inv X kb σ H s)(k:∀b u,b∉its->s.heap.get? b=some u->h'.get? b=some u)(hf:∀b∈its,oP X kb H b)
  (hp:s.heap.objs.size<=a) (new:bJ X.prog X.w (upd H a o) h' a o):Inv X kb σ (upd H a o) {s with heap:=h',toks:=t'}:=by
 have hn:H a=none:=I.hok.fresh hp;have Ik:∀b u,H b=some u->b∉its:=fun b u e z=>by rw[(hf b z).1]at e;cases e
 have nea:∀b u,s.heap.get? b=some u->b≠a:=fun b u e=>kt (Nat.lt_of_lt_of_le (fw e) hp);refine I.step (g':=s.gens) (d':=s.drawn) (ch:=its) (fun b hb=>?_) (fun b o _ _ hc e _=>k b o hc e) (fun b o _ _ hc e _=>⟨o.slots,k b o hc e⟩) (fun b u _ e n=>?_)
  (fun b o hc e=>⟨o,k b o hc e⟩) (fun b xs e=>?_) (fun b u v e=>?_) (fun b ps e=>⟨#[],?_⟩) (fun m hm=>?_) (fun b u e=>?_) I.bare
 ·obtain⟨_,f1,f2,f3,f4,f5⟩:=hf b hb;exact⟨f3,f1,f4,f5⟩
 ·rw[az (nea b u e)];exact n
 ·rw[az (bt e hn)];exact e
 ·rw[az (bt e hn)];exact e
 ·rw[az (bt e hn),e];simp
 ·obtain⟨o,es,ep,ho,r⟩:=hm;exact⟨o,es,ep,k _ o (fun z=>(hf _ z).2.1 rfl) ho,r⟩
 ·by_cases hb:b=a
  ·subst hb;rw[ai]at e;cases e;exact new
  ·rw[az hb]at e;refine(I.hok b u e).stay (fun c v hc q=>k c v ?_ q) (fun c q=>by rw[az (bt q hn)];exact q) fun c xs q=>by rw[az (bt q hn)];exact q
   rcases hc with z | z
   ·rw[z];exact Ik b u e
   ·exact Ik c _ z
theorem Inv.zh{t':Nat}{its:List Addr}(I:Inv X kb σ H s)(k:∀b u,b∉its->s.heap.get? b=some u->h'.get? b=some u)(hf:∀b∈its,oP X kb H b):Inv X kb σ H {s with heap:=h',toks:=t'}:=by
 have Ik:∀b u,H b=some u->b∉its:=fun b u e z=>by rw[(hf b z).1]at e;cases e
 refine I.step (g':=s.gens) (d':=s.drawn) (ch:=its) (fun b hb=>?_) (fun b o _ _ hc e _=>k b o hc e) (fun b o _ _ hc e _=>⟨o.slots,k b o hc e⟩) (fun b u _ e n=>n)
  (fun b o hc e=>⟨o,k b o hc e⟩) (fun b xs e=>e) (fun b u v e=>e) (fun b ps e=>⟨#[],by rw[e];simp⟩) (fun m hm=>?_) (fun b u e=>?_) I.bare
 ·obtain⟨_,f1,f2,f3,f4,f5⟩:=hf b hb;exact⟨f3,f1,f4,f5⟩
 ·obtain⟨o,es,ep,ho,r⟩:=hm;exact⟨o,es,ep,k _ o (fun z=>(hf _ z).2.1 rfl) ho,r⟩
 ·refine(I.hok b u e).stay (fun c v hc q=>k c v ?_ q) (fun _ q=>q) fun _ _ q=>q;rcases hc with z | z
  ·rw[z];exact Ik b u e
  ·exact Ik c _ z
def Ite(K:gt)(a:Addr):It :=
 ⟨fun i H=>∃xs x,aR K H a xs/\xs[i]? =some x,
   fun i H x H'=>∃t y,H t=none/\x=.ref t/\H'=upd H t (.tup [.int i,y])/\∀xs,aR K H a xs->xs[i]? =some y,
   fun i H=>∃xs,aR K H a xs/\xs.length<=i⟩
theorem AT{P:Program}{w:World}{K:gt}{elts:List Expr}{x1}{pos:Pos}(a e it:Addr)(hne:e≠it):
  Turn P w K (.Tuple elts x1 pos) (Ite K a) [e,it] e (fun i h=>(∃old,IsEnum h e it i old)/\h.IsListIter it a i) where
 mem:=by simp
 obj:=fun i h st b hb=>by
  obtain⟨⟨old,he⟩,o,eo,c,d⟩:=st;rcases List.mem_cons.mp hb with rfl | hb
  ·exact⟨_,he,fun v z=>by
    have z':Data.fields _=Data.cell v:=z
    cases z'⟩
  ·rw[bd.mp hb];exact⟨o,eo,fun v z=>by rw[d]at z;cases z⟩
 keep:=fun i h h' st k=>⟨st.1.elim fun old he=>⟨old,k e (by simp) _ he⟩,st.2.at fun o eo=>k it (by simp) o eo⟩
 item:=by
  intro X hP hw hK hc i kb s σ H E I hf st hg;subst hP hw hK;obtain⟨xs,x,hq,hx⟩:=hg;obtain⟨⟨old,he⟩,hit⟩:=st;obtain⟨its,rv,p,hz⟩:=I.list hq;obtain⟨u,hu,ru⟩:=rv.get hx;refine wpAny_pyNext_enum_item he hit p.isList (x:=u) (by simpa using hu) hne fun h1 J8 hit1 ht1 hz1 k1=>?_;refine⟨_,rfl,wpAny_letOwnedTupleGo_enum J8 fun h2 he2 hs2=>?_⟩;have OQ:s.heap.objs.size≠e:=Nat.ne_of_gt (fw he);have zi:=(hs2.2 s.heap.objs.size OQ).trans ht1;have hk:∀b o,b∉ [e,it]->s.heap.get? b=some o->h2.get? b=some o:=fun b o hb e'=>by
   have hb':b≠e/\b≠it:=by simpa using hb
   exact(hs2.2 b hb'.1).trans (k1 b o hb'.1 hb'.2 e')
  have hfr:H s.heap.objs.size=none:=I.hok.fresh (ki _);refine⟨.ref s.heap.objs.size,upd H s.heap.objs.size (.tup [.int i,x]),I.lI (t':=s.toks+1) hk hf (ki _) ?_,rfl,⟨_,x,hfr,rfl,rfl,fun ys hy=>by rw[I.iU hy hq];exact hx⟩,⟨⟨u,?_⟩,?_⟩,fun b hb=>?_⟩
  ·exact⟨by show 2<=em;decide,[.int i s.toks,u],.cons ⟨_,rfl⟩ (.cons ru .nil),⟨_,zi,rfl,_,rfl⟩⟩
  ·exact he2
  ·obtain⟨o,e1,e2⟩:=hit1;exact⟨o,(hs2.2 it (Ne.symm hne)).trans e1,e2⟩
  ·have:b≠s.heap.objs.size:=by
    rcases List.mem_cons.mp hb with rfl | hb
    ·exact Ne.symm OQ
    ·rw[bd.mp hb];obtain⟨o,e1,_⟩:=hit;exact kt (fw e1)
   rw[az this];exact(hf b hb).1
 done:=by intro X hP hw hK hc i kb s σ H E I hf st hg;subst hP hw hK;obtain⟨xs,hq,hx⟩:=hg;obtain⟨⟨old,he⟩,hit⟩:=st;obtain⟨its,rv,p,hz⟩:=I.list hq;obtain⟨f0,f1,f2,f3,f4,f5⟩:=hf it (by simp);have hl:=rv.length;exact wpAny_pyNext_enum_end (I.ok.hd hc) he hit p.isList (by simp;omega) fun h' eb=>⟨rfl,I.turned (t':=s.toks) (fun b o hb e=>eb b o hb e) f0 f1 f3 f4 f5⟩
 self:=fun _ _ _ _ _ st h=>st.1.elim fun _ he=>wpAny_pyIter_enum he h
def OS(K:gt)(ta:TA):TI:=fun σ H R=>ta σ H fun vs H1=>∃a,vs=[.ref a]/\(∃xs,aR K H1 a xs)/\R (Ite K a) H1
theorem Gf:bootBuiltins "enumerate"=some (.type "enumerate"):=by decide+kernel
theorem oE{a:Expr}{ta:TA}{p pos:Pos}{elts:List Expr}{x1}{tpos:Pos}(hg:Gl X "enumerate")(hm:X.mg "enumerate"=none)(ha:PA X [a] ta)(hs:starEach [a] X.env=[(false,eval a X.env)]:=by rfl):
  PI X (.Tuple elts x1 tpos) (.Call (.Name "enumerate" p) [a] [] pos) (OS X.K ta):=by
 intro kb s σ H R I h;refine Call_ (ib I hg hm Gf (PyProof.Rows.callWith_type1 (cz (ha pos kb s σ H _ I h) fun us s1 ⟨vs,H1,I1,r1,q1⟩=>?_) hs rfl));obtain⟨a,e,⟨xs,hq⟩,q⟩:=q1;subst e;obtain⟨u,rfl,ru⟩:=vals1 r1;cases ru;obtain⟨its,rv,p,hz⟩:=I1.list hq;refine call_enumerate_list p.isList fun h' he hit hsz hk=>?_;refine wpAny_pyIter_enum he ?_;refine⟨s1.heap.objs.size+1,[s1.heap.objs.size+1,s1.heap.objs.size],_,_,H1,rfl,I1.kept (t':=s1.toks) hk,AT a _ _ (Nat.succ_ne_self _),⟨⟨_,he⟩,hit⟩,fun b hb=>?_,q⟩;have hb':s1.heap.objs.size<=b:=by
  rcases List.mem_cons.mp hb with rfl | hb
  ·exact Nat.le_succ _
  ·rw[bd.mp hb];exact ki _
 exact I1.wC hb' (I1.hok.fresh hb')
theorem ke{K:gt}{a:Addr}{xs:List V}{g:TG}{tb:TS}{D:Ends}{σ:St}{H:Hp}(Pv:Nat->St->Hp->Prop)(h0:Pv 0 σ H)(hl:∀i σ H,i<=xs.length->Pv i σ H->aR K H a xs)
  (hs:∀i x σ H t,xs[i]? =some x->H t=none->Pv i σ H->g (.ref t) σ (upd H t (.tup [.int i,x])) fun σ2 H2=>tb {D with nx:=Pv (i+1),ct:=Pv (i+1),bk:=D.nx} σ2 H2) (hd:∀σ H,Pv xs.length σ H->D.nx σ H):
  ∃W:Nat->Nat->St->Hp->Prop,(∃m,W 0 m σ H)/\∀i m σ H,W i m σ H->
   ((Ite K a).stop i H/\D.nx σ H)\/((Ite K a).go i H/\∃N:St->Hp->Prop,(∀σ' H',N σ' H'->∃m',m'<m/\W (i+1) m' σ' H')/\∀x H',(Ite K a).B3 i H x H'->g x σ H' fun σ2 H2=>tb {D with nx:=N,ct:=N,bk:=D.nx} σ2 H2):=by
 refine⟨fun i m σ H=>m=xs.length-i/\i<=xs.length/\Pv i σ H,⟨xs.length,by simp,Nat.zero_le _,h0⟩,?_⟩;rintro i m σ H ⟨rfl,hi,p⟩;have q:=hl i σ H hi p;by_cases hlt:i<xs.length
 ·refine .inr ⟨⟨xs,xs[i],q,by simp[hlt]⟩,Pv (i+1),fun σ' H' p'=>⟨xs.length- (i+1),by omega,rfl,hlt,p'⟩,fun x H' y=>?_⟩;obtain⟨t,y,hn,e1,e2,hy⟩:=y;subst e1 e2;exact hs i y σ _ t (hy xs q) hn p
 ·have e:i=xs.length:=by omega
  subst e;exact .inl ⟨⟨xs,q,ki _⟩,hd σ H p⟩
end
open PySem PySem.W PySem.Spec PySem.Calls PyProof.Rows
def NF(X:Cx)(a:Addr):Prop:=∀o u,X.H₀ a≠some (.jg o u)
section
variable {X:Cx}{kb:List (Addr×Obj)}{σ:St}{H:Hp}{s:Shared}{a:Addr}{kvs:List (Key×V)}
variable {A:Around}
end
section
variable {prog:Program}{w:World}{K:Type}[DecidableEq K]{knd:KeyKind prog w K}{A:Around}{R:Result->Shared->Prop}
end
open PySem PySem.Spec PyProof.Rows
section
variable {X:Cx}{k:Nat}{e a:Expr}{es:List Expr}{pos:Pos}{te:TE}{t:TA}
end
def eu(K:gt)(P:Params)(a:Addr)(x:Str)(r:Option V):Prop :=
 ∃(es:Array DictEntry) (n:Nat),K.lookup a=some ⟨.type "dict",none,.dict es n,#[]⟩/\PySem.W.KeysLit P es.toList/\(a==sysModules)=false/\∃q,PySem.W.nsIn K a x=some q/\gH r q
def OU(K:gt)(P:Params)(td ty:TE):TE:=fun σ H Q=>td σ H fun x H1=>ty σ H1 fun y H2=>∃a k v,x=.ref a/\y=.str k/\eu K P a k (some v)/\Q v H2
section
variable {X:Cx}{o i:Expr}{pos:Pos}{td ty:TE}
theorem oF(ho:PE X o td)(hi:PE X i ty)(hs:JZ i):PE X (.Subscript o i pos) (OU X.K X.w.params td ty):=by intro kb s σ H Q I h;refine yZ PySem.F.slot_dict_getitem.lookup hs (cz (ho kb s σ H _ I h) fun u s1 ⟨x,H1,I1,rx,q1⟩=>cz (hi kb s1 σ H1 _ I1 q1) fun iv s2 ⟨y,H2,I2,ry,a,k,v,ex,ey,g,q2⟩=>?_);subst ex ey;obtain rfl:u=Value.ref a:=rx;obtain⟨t,rfl⟩:=ry;obtain⟨es,n,hl,hk,hm,q,hq,rq⟩:=g;obtain⟨w',hw,AA⟩:=gH.some_of (v:=v) (o:=q) rq;subst hw;have mo:=PySem.W.mapOf_K (prog:=X.prog) (w:=X.w) I2.jX hl hk;exact⟨mo.typeIs,wpAny_getItem_of (strKind_is X.prog X.w k t) mo (PySem.W.find_K hl hq) ⟨v,H2,I2.tok _,AA,q2⟩⟩
end
open PySem PySem.W PySem.Spec PySem.Calls PyProof.Rows
def Uu(K:gt)(P:Params)(a:Addr):Prop:=∃(es:Array DictEntry) (n:Nat),K.lookup a=some ⟨.type "dict",none,.dict es n,#[]⟩/\PySem.W.KeysLit P es.toList/\(a==sysModules)=false
section
variable {X:Cx}{o i:Expr}{pos:Pos}{td ty:TE}
end
open PySem PySem.Spec PyProof.Rows
def J9(K:gt)(P:Params)(td ty tx:TE):TE:=fun σ H Q=>td σ H fun x H1=>∃a,x=.ref a/\(∃es n,K.lookup a=some ⟨.type "dict",none,.dict es n,#[]⟩)/\ty σ H1 fun y H2=>tx σ H2 fun z H3=>∃k r,y=.str k/\eu K P a k r/\Q (r.getD z) H3
section
variable {X:Cx}{o e f:Expr}{apos cpos:Pos}{td ty tx:TE}
theorem C6(ho:PE X o td)(he:PE X e ty)(hf:PE X f tx)(m:M2 X o "get" apos e f cpos):PE X (.Call (.Attribute o "get" apos) [e,f] [] cpos) (J9 X.K X.w.params td ty tx):=by
 intro kb s σ H Q I h;refine wpAny_Call_method m.base m.few m.line PySem.F.plainAttrs_dict PySem.F.slot_dict_get PySem.F.type_dict_get (cz (ho kb s σ H _ I h) fun u s1 ⟨x,H1,I1,rx,a,ex,⟨es,n,hl⟩,q1⟩=>?_);subst ex;obtain rfl:u=Value.ref a:=rx;have ga:=I1.jX _ _ hl;refine⟨⟨_,ga,rfl⟩,fun b q=>?_,?_⟩
 ·cases q;exact⟨_,ga,rfl⟩
 rw[m.trees]
 refine Calls.callWith_builtin rfl (Calls.evalArgs_plain (Calls.spliced_cons (cz (he kb s1 σ H1 _ I1 q1) fun iv s2 ⟨y,H2,I2,ry,q2⟩=>
  Calls.spliced_cons (cz (hf kb s2 σ H2 _ I2 q2) fun fv s3 ⟨z,H3,I3,rz,k,r,ey,g,q3⟩=>Calls.spliced_nil ?_))))
 subst ey;obtain⟨t,rfl⟩:=ry;obtain⟨es,n,hl,hk,hm,q,hq,rq⟩:=g;have mo:=PySem.W.mapOf_K (prog:=X.prog) (w:=X.w) I3.jX hl hk;refine call_meetsIn PySem.F.slot_dict_get mo.typeIs PySem.F.entry_dict_get (PySem.F.args_dict_get_3 _ _ _) (meets_dict_get_default (strKind X.prog X.w) a (strKind_is X.prog X.w k t) hm fv) ⟨_,mo,?_⟩;rw[PySem.W.find_K hl hq];exact⟨r.getD z,H3,I3.tok _,rq.getD rz,q3⟩
def OV(t u:TS):TS:=fun D σ H=>∃J:St->Hp->Prop,t {D with nx:=J} σ H/\∀σ' H',J σ' H'->u D σ' H'
theorem zj{X:Cx}{st:Stmt}{rest:List Stmt}{t u:TS}(h1:PS X st t)(h2:qJ X rest u):qJ X (st::rest) (OV t u):=by
 intro kb s σ H D I h;obtain⟨J,h,hJ⟩:=h;refine wpAny_execs_cons (cz (h1 kb s σ H {D with nx:=J} I h) fun f s1 q=>?_);cases f with
 | next=>
  obtain⟨σ',H',I',q⟩:=q;exact h2 kb s1 σ' H' D I' (hJ _ _ q)
 | ret v=>exact q
 | brk=>exact q
 | cont=>exact q
variable {σ:St}
structure Nr(X:Cx)(st:Stmt)(t:TS):Prop where
 ps:PS X st t
structure sY(X:Cx)(b:List Stmt)(t:TS):Prop where
 ps:qJ X b t
theorem aq{st:Stmt}{t:TS}(h:PS X st t):Nr X st t:=⟨h⟩
theorem bj{c:Expr}{a b:List Stmt}{tc:TT}{t u:TS}{pos:Pos}(hc:PT X c tc)(ha:sY X a t)(hb:sY X b u):Nr X (.If c a b pos) (N6 tc t u):=⟨cS hc ha.ps hb.ps⟩
theorem aU{t:TS}(h:qJ X [] t):sY X [] t:=⟨h⟩
theorem ak{st:Stmt}{b:List Stmt}{t u:TS}(h:Nr X st t)(k:sY X b u):sY X (st::b) (uT t u):=⟨aL h.ps k.ps⟩
theorem pF{st:Stmt}{b:List Stmt}{t u:TS}(h:Nr X st t)(k:sY X b u):sY X (st::b) (OV t u):=⟨zj h.ps k.ps⟩
theorem au{st:Stmt}{t:TS}(h:Nr X st t):sY X [st] t:=⟨aJ h.ps⟩
theorem ck{b:List Stmt}{t:TS}{R:TS->Prop}(h:sY X b t)(hr:R t):∃t,qJ X b t/\R t:=⟨t,h.ps,hr⟩
end
inductive Da where
 | non | bl (b:Bool) | int (i:Int) | str (s:Str) | tup (l:List Da) | lst (l:List Da)
mutual
def Da.beq:Da->Da->Bool
 | .non,.non=>true
 | .bl a,.bl b=>a==b
 | .int a,.int b=>decide (a=b)
 | .str a,.str b=>decide (a=b)
 | .tup a,.tup b=>Da.xj a b
 | .lst a,.lst b=>Da.xj a b
 | _,_=>false
def Da.xj:List Da->List Da->Bool
 | [],[]=>true
 | a::r,b::t=>Da.beq a b&&Da.xj r t
 | _,_=>false
end
mutual
theorem Da.beq_iff:∀a b:Da,Da.beq a b=true↔a=b
 | .non,b=>by cases b<;>simp[Da.beq]
 | .bl x,b=>by cases b<;>simp[Da.beq]
 | .int x,b=>by cases b<;>simp[Da.beq]
 | .str x,b=>by cases b<;>simp[Da.beq]
 | .tup x,b=>by
  cases b<;>simp[Da.beq];exact Da.pG _ _
 | .lst x,b=>by
  cases b<;>simp[Da.beq];exact Da.pG _ _
theorem Da.pG:∀a b:List Da,Da.xj a b=true↔a=b
 | [],b=>by cases b<;>simp[Da.xj]
 | x::r,[]=>by simp[Da.xj]
 | x::r,y::t=>by simp[Da.xj];rw[Da.beq_iff x y,Da.pG r t]
end
instance:DecidableEq Da:=fun a b=>decidable_of_iff _ (Da.beq_iff a b)
inductive dY(K:gt)(H:Hp):V->Da->Prop
 | non:dY K H .non .non
 | bl (b:Bool):dY K H (.bl b) (.bl b)
 | int (i:Int):dY K H (.int i) (.int i)
 | str (x:Str):dY K H (.str x) (.str x)
 | tup {p:Addr} {xs:List V} {ds:List Da}:bp K H p xs->xs.length=ds.length->(∀(i:Nat) x d,xs[i]? =some x->ds[i]? =some d->dY K H x d)->dY K H (.ref p) (.tup ds)
 | lst {p:Addr} {xs:List V} {ds:List Da}:aR K H p xs->xs.length=ds.length->(∀(i:Nat) x d,xs[i]? =some x->ds[i]? =some d->dY K H x d)->dY K H (.ref p) (.lst ds)
inductive Da.Nb:Nat->Da->Prop
 | non {n}:Da.Nb n .non
 | int {n i}:Da.Nb n (.int i)
 | str {n i}:Da.Nb n (.str i)
 | tup {n l}:(∀d∈l,Da.Nb n d)->Da.Nb (n+1) (.tup l)
 | lst {n l}:(∀d∈l,Da.Nb n d)->Da.Nb (n+1) (.lst l)
theorem pH:∀(a b:List Da),a.length=b.length->((List.range a.length).all fun i=>decide (a[i]? =b[i]?))=decide (a=b):=fun a b h=>by
 by_cases e:a=b
 ·subst e;simp
 ·rw[decide_eq_false e];rw[Bool.eq_false_iff];intro z;apply e;apply List.ext_getElem?;intro i;by_cases hi:i<a.length
  ·have:=(List.all_eq_true.mp z) i (List.mem_range.mpr hi);exact of_decide_eq_true this
  ·rw[List.getElem?_eq_none (by omega),List.getElem?_eq_none (by omega)]
section
variable {X:Cx}{kb:List (Addr×Obj)}{σ:St}{H:Hp}{s:Shared}
theorem C7{its:List Value}{xs:List V}(r:Vals xs its){j:Nat}(h:j<its.toArray.size):∃x,xs[j]? =some x/\RelV x its.toArray[j]:=by
 have l:=r.length;have j1:j<xs.length:=by simp at h;omega
 have z1:xs[j]? =some xs[j]:=ac j1;obtain⟨u1,w1,q1⟩:=r.get z1;have e1:its.toArray[j]=u1:=by have:its[j]? =some its[j]:=ac (by omega);rw[this]at w1;simpa using w1
 exact⟨_,z1,by rw[e1];exact q1⟩
theorem kf{p:Addr}{i1 i2:Array Value}(t1:s.heap.IsTuple p i1)(t2:s.heap.IsList p i2):False:=by obtain⟨o,e,c1,n,d⟩:=t1;obtain⟨o',e',c2,n',d'⟩:=t2;rw[e]at e';cases e';rw[c1]at c2;exact absurd c2 (by decide)
theorem C8(I:Inv X kb σ H s){x:V}{a b:Da}(ha:dY X.K H x a)(hb:dY X.K H x b):a=b:=by
 induction ha generalizing b with
 | non=>cases hb;rfl
 | bl _=>cases hb;rfl
 | int _=>cases hb;rfl
 | str _=>cases hb;rfl
 | @tup p xs ds hp hl hd ih=>
  cases hb with
  | @tup q ys es hq hl2 hd2=>
   have Uv:xs=ys:=I.jj hp hq;subst Uv;refine congrArg Da.tup ?_;apply List.ext_getElem (by omega);intro j h1 h2;have g0:xs[j]? =some xs[j]:=ac (by omega);have g1:ds[j]? =some ds[j]:=ac h1;have g2:es[j]? =some es[j]:=ac h2;exact ih j _ _ g0 g1 (hd2 j _ _ g0 g2)
  | @lst q ys es hq hl2 hd2=>
   obtain⟨i1,r1,t1,_⟩:=I.tuple hp;obtain⟨i2,r2,t2,_⟩:=I.list hq;exact(kf t1 t2.isList).elim
 | @lst p xs ds hp hl hd ih=>
  cases hb with
  | @lst q ys es hq hl2 hd2=>
   have Uv:xs=ys:=I.iU hp hq;subst Uv;refine congrArg Da.lst ?_;apply List.ext_getElem (by omega);intro j h1 h2;have g0:xs[j]? =some xs[j]:=ac (by omega);have g1:ds[j]? =some ds[j]:=ac h1;have g2:es[j]? =some es[j]:=ac h2;exact ih j _ _ g0 g1 (hd2 j _ _ g0 g2)
  | @tup q ys es hq hl2 hd2=>
   obtain⟨i1,r1,t1,_⟩:=I.tuple hq;obtain⟨i2,r2,t2,_⟩:=I.list hp;exact(kf t1 t2.isList).elim
theorem jo{A:Around}{m:Nat}{xs ys:List V}{ds es:List Da}{i1 i2:List Value}(r1:Vals xs i1)(r2:Vals ys i2)(hl:xs.length=ds.length)(hl2:ys.length=es.length)
  (ih:∀(j:Nat) x d y e u v,xs[j]? =some x->ds[j]? =some d->ys[j]? =some y->es[j]? =some e->RelV x u->RelV y v->SeqAt.EqAt A s u v (decide (d=e)))
  (j:Nat) (h1:j<i1.toArray.size) (h2:j<i2.toArray.size):SeqAt.EqAt A s i1.toArray[j] i2.toArray[j] (decide (ds[j]? =es[j]?)):=by
 obtain⟨x1,z1,q1⟩:=C7 r1 h1;obtain⟨x2,z2,q2⟩:=C7 r2 h2;have k1:=(al.mp z1).1;have k2:=(al.mp z2).1;have g1:ds[j]? =some (ds[j]'(by omega)):=ac (by omega);have g2:es[j]? =some (es[j]'(by omega)):=ac (by omega);have r:=ih j x1 _ x2 _ _ _ z1 g1 z2 g2 q1 q2;have e:decide (ds[j]? =es[j]?)=decide (ds[j]'(by omega)=es[j]'(by omega)):=by rw[g1,g2];simp
 rw[e];exact r
theorem C9{xs ys:List V}{ds es:List Da}{i1 i2:List Value}(r1:Vals xs i1)(r2:Vals ys i2)(hl:xs.length=ds.length)(hl2:ys.length=es.length):
  ((List.range (min i1.toArray.size i2.toArray.size)).all (fun j=>decide (ds[j]? =es[j]?))&&i1.toArray.size==i2.toArray.size)=decide (ds=es):=by
 have l1:=r1.length;have l2:=r2.length;by_cases z:ds.length=es.length
 ·have y:=pH ds es z;have s1:i1.toArray.size=ds.length:=by simp;omega
  have s2:i2.toArray.size=ds.length:=by simp;omega
  rw[s1,s2,Nat.min_self,y];simp
 ·rw[decide_eq_false (fun y=>z (by rw[y]))];have:(i1.toArray.size==i2.toArray.size)=false:=by simp;omega
  rw[this,Bool.and_false]
theorem Dc{xs ys:List V}{ds es:List Da}{i1 i2:List Value}(r1:Vals xs i1)(r2:Vals ys i2)(hl:xs.length=ds.length)(hl2:ys.length=es.length)(z:ds.length=es.length):
  ((List.range i1.toArray.size).all (fun j=>decide (ds[j]? =es[j]?)))=decide (ds=es):=by
 have l1:=r1.length;have s1:i1.toArray.size=ds.length:=by simp;omega
 rw[s1,pH ds es z]
theorem sZ(ds es:List Da):decide (Da.tup ds=Da.tup es)=decide (ds=es):=decide_eq_decide.mpr ⟨Da.tup.inj,congrArg _⟩
theorem tf(ds es:List Da):decide (Da.lst ds=Da.lst es)=decide (ds=es):=decide_eq_decide.mpr ⟨Da.lst.inj,congrArg _⟩
theorem zk{A:Around}{n:Nat}(hu:A.units+n<cLine)(I:Inv X kb σ H s){x y:V}{a b:Da}(ha:dY X.K H x a)(hb:dY X.K H y b)(na:a.Nb n)(nb:b.Nb n){u v:Value}(ru:RelV x u)(rv:RelV y v):SeqAt.EqAt A s u v (decide (a=b)):=by
 induction ha generalizing A n y b u v with
 | non=>
  obtain rfl:u=Value.none:=ru;cases hb with
  | non=>obtain rfl:v=Value.none:=rv;exact SeqAt.EqAt.same _
  | bl _=>cases nb
  | int j=>obtain⟨t,rfl⟩:=rv;exact SeqAt.EqAt.none_int _ _
  | str j=>obtain⟨t,rfl⟩:=rv;exact SeqAt.EqAt.none_str _ _
  | tup hq=>cases rv;obtain⟨its,r1,p1,_⟩:=I.tuple hq;exact SeqAt.EqAt.none_tuple p1 (by omega)
  | lst hq=>cases rv;obtain⟨its,r1,p1,_⟩:=I.list hq;exact SeqAt.EqAt.none_list p1.isList (by omega)
 | bl _=>cases na
 | int i=>
  obtain⟨t0,rfl⟩:=ru;cases hb with
  | non=>obtain rfl:v=Value.none:=rv;exact SeqAt.EqAt.int_none _ _
  | bl _=>cases nb
  | int j=>
   obtain⟨t,rfl⟩:=rv;have:=SeqAt.EqAt.int_int (A:=A) (s:=s) i t0 j t;have e:(i==j)=decide (Da.int i=Da.int j):=by
    by_cases z:i=j
    ·subst z;simp
    ·rw[decide_eq_false (fun y=>z (Da.int.inj y))];simp[z]
   rwa [e]at this
  | str j=>obtain⟨t,rfl⟩:=rv;exact SeqAt.EqAt.int_str _ _ _ _
  | tup hq=>cases rv;obtain⟨its,r1,p1,_⟩:=I.tuple hq;exact SeqAt.EqAt.int_tuple _ _ p1 (by omega)
  | lst hq=>cases rv;obtain⟨its,r1,p1,_⟩:=I.list hq;exact SeqAt.EqAt.int_list _ _ p1.isList (by omega)
 | str i=>
  obtain⟨t0,rfl⟩:=ru;cases hb with
  | non=>obtain rfl:v=Value.none:=rv;exact SeqAt.EqAt.str_none _ _
  | bl _=>cases nb
  | int j=>obtain⟨t,rfl⟩:=rv;exact SeqAt.EqAt.str_int _ _ _ _
  | str j=>
   obtain⟨t,rfl⟩:=rv;have:=SeqAt.EqAt.str_str (A:=A) (s:=s) i t0 j t;have e:(i==j)=decide (Da.str i=Da.str j):=by
    by_cases z:i=j
    ·subst z;simp
    ·rw[decide_eq_false (fun y=>z (Da.str.inj y))];simp[z]
   rwa [e]at this
  | tup hq=>cases rv;obtain⟨its,r1,p1,_⟩:=I.tuple hq;exact SeqAt.EqAt.str_tuple _ _ p1 (by omega)
  | lst hq=>cases rv;obtain⟨its,r1,p1,_⟩:=I.list hq;exact SeqAt.EqAt.str_list _ _ p1.isList (by omega)
 | @tup p xs ds hp hl hd ih=>
  cases ru;obtain⟨i1,r1,t1,_⟩:=I.tuple hp;cases hb with
  | non=>obtain rfl:v=Value.none:=rv;exact SeqAt.EqAt.tuple_none t1 (by omega)
  | bl _=>cases nb
  | int j=>obtain⟨t,rfl⟩:=rv;exact SeqAt.EqAt.tuple_int _ _ t1 (by omega)
  | str j=>obtain⟨t,rfl⟩:=rv;exact SeqAt.EqAt.tuple_str _ _ t1 (by omega)
  | @tup q ys es hq hl2 hd2=>
   cases rv;by_cases c:p=q
   ·subst c;have:=C8 I (dY.tup hp hl hd) (dY.tup hq hl2 hd2);rw[decide_eq_true this];exact SeqAt.EqAt.same _
   cases na with
   | @tup m l na=>
   cases nb with
   | @tup m l nb=>
   obtain⟨i2,r2,t2,_⟩:=I.tuple hq
   have key:=SeqAt.RcAt.tuples (A:=A) (s:=s) (e:=fun j=>decide (ds[j]? =es[j]?)) t1 t2 (by omega) (jo (m:=m) r1 r2 hl hl2 fun j x d y e u v h1 h2 h3 h4 ru rv=>
    ih j x d h1 h2 (A:=A.in1) (n:=m) (by show A.units+1+m<cLine;omega) (hd2 j y e h3 h4) (na _ (am h2)) (nb _ (am h4)) ru rv)
   rw[C9 r1 r2 hl hl2]at key;rw[sZ];exact SeqAt.EqAt.of_refs c key
  | @lst q ys es hq hl2 hd2=>
   cases rv;obtain⟨i2,r2,t2,_⟩:=I.list hq;by_cases c:p=q
   ·subst c;exact(kf t1 t2.isList).elim
   ·exact SeqAt.EqAt.of_refs c (SeqAt.RcAt.tuple_list t1 t2.isList (by omega))
 | @lst p xs ds hp hl hd ih=>
  cases ru;obtain⟨i1,r1,t1,_⟩:=I.list hp;cases hb with
  | non=>obtain rfl:v=Value.none:=rv;exact SeqAt.EqAt.list_none t1.isList (by omega)
  | bl _=>cases nb
  | int j=>obtain⟨t,rfl⟩:=rv;exact SeqAt.EqAt.list_int _ _ t1.isList (by omega)
  | str j=>obtain⟨t,rfl⟩:=rv;exact SeqAt.EqAt.list_str _ _ t1.isList (by omega)
  | @lst q ys es hq hl2 hd2=>
   cases rv;by_cases c:p=q
   ·subst c;have:=C8 I (dY.lst hp hl hd) (dY.lst hq hl2 hd2);rw[decide_eq_true this];exact SeqAt.EqAt.same _
   cases na with
   | @lst m l na=>
   cases nb with
   | @lst m l nb=>
   obtain⟨i2,r2,t2,_⟩:=I.list hq;have l1:=r1.length;have l2:=r2.length;rw[tf];by_cases z:ds.length=es.length
   ·have key:=SeqAt.RcAt.lists (A:=A) (s:=s) (e:=fun j=>decide (ds[j]? =es[j]?)) t1.isList t2.isList (by simp;omega) (by omega) (jo (m:=m) r1 r2 hl hl2 fun j x d y e u v h1 h2 h3 h4 ru rv=>
     ih j x d h1 h2 (A:=A.in1) (n:=m) (by show A.units+1+m<cLine;omega) (hd2 j y e h3 h4) (na _ (am h2)) (nb _ (am h4)) ru rv)
    rw[Dc r1 r2 hl hl2 z]at key;exact SeqAt.EqAt.of_refs c key
   ·rw[decide_eq_false (fun y=>z (by rw[y]))];exact SeqAt.EqAt.of_refs c (SeqAt.RcAt.lists_lengths t1.isList t2.isList (by simp;omega) (by omega))
  | @tup q ys es hq hl2 hd2=>
   cases rv;obtain⟨i2,r2,t2,_⟩:=I.tuple hq;by_cases c:p=q
   ·subst c;exact(kf t2 t1.isList).elim
   ·exact SeqAt.EqAt.of_refs c (SeqAt.RcAt.list_tuple t1.isList t2 (by omega))
inductive OW(K:gt)(ne:Bool)(x:V)(y:V)(H:Hp)(Q:VK):Prop
 | mk (n:Nat) (p q:Addr) (a b:Da) (_:x=.ref p) (_:y=.ref q) (_:dY K H x a) (_:dY K H y b) (_:a.Nb n) (_:b.Nb n) (_:n<=6) (_:Q (.bl (ne^^decide (a=b))) H)
theorem Ka(hu:X.A.units+6<cLine):jG X (compareOp .Eq) (OW X.K false):=by
 intro kb s σ H x y v u Q I rx ry h;obtain⟨n,p,q,a,b,rfl,rfl,ha,hb,na,nb,hn,k⟩:=h;cases rx;cases ry;rw[Bool.false_xor]at k;cases ha with
 | @tup p xs ds hp hl hd=>
  obtain⟨i1,r1,t1,_⟩:=I.tuple hp;cases hb with
  | @tup q ys es hq hl2 hd2=>
   cases na with
   | @tup m l na=>
   cases nb with
   | @tup m l nb=>
   obtain⟨i2,r2,t2,_⟩:=I.tuple hq
   have key:=SeqAt.RcAt.tuples (A:=X.A) (s:=s) (e:=fun j=>decide (ds[j]? =es[j]?)) t1 t2 (by omega) (jo (m:=m) r1 r2 hl hl2 fun j x d y e u v h1 h2 h3 h4 ru rv=>
    zk (A:=X.A.in1) (n:=m) (by show X.A.units+1+m<cLine;omega) I (hd j x d h1 h2) (hd2 j y e h3 h4) (na _ (am h2)) (nb _ (am h4)) ru rv)
   rw[C9 r1 r2 hl hl2]at key;rw[sZ]at k;exact key _ _ _ _ ⟨.bl _,H,I,rfl,k⟩
  | @lst q ys es hq hl2 hd2=>
   obtain⟨i2,r2,t2,_⟩:=I.list hq;exact(SeqAt.RcAt.tuple_list (A:=X.A) t1 t2.isList (by omega)) _ _ _ _ ⟨.bl _,H,I,rfl,k⟩
 | @lst p xs ds hp hl hd=>
  obtain⟨i1,r1,t1,_⟩:=I.list hp;cases hb with
  | @lst q ys es hq hl2 hd2=>
   cases na with
   | @lst m l na=>
   cases nb with
   | @lst m l nb=>
   obtain⟨i2,r2,t2,_⟩:=I.list hq;have l1:=r1.length;have l2:=r2.length;rw[tf]at k;by_cases z:ds.length=es.length
   ·have key:=SeqAt.RcAt.lists (A:=X.A) (s:=s) (e:=fun j=>decide (ds[j]? =es[j]?)) t1.isList t2.isList (by simp;omega) (by omega) (jo (m:=m) r1 r2 hl hl2 fun j x d y e u v h1 h2 h3 h4 ru rv=>
     zk (A:=X.A.in1) (n:=m) (by show X.A.units+1+m<cLine;omega) I (hd j x d h1 h2) (hd2 j y e h3 h4) (na _ (am h2)) (nb _ (am h4)) ru rv)
    rw[Dc r1 r2 hl hl2 z]at key;exact key _ _ _ _ ⟨.bl _,H,I,rfl,k⟩
   ·rw[decide_eq_false (fun y=>z (by rw[y]))]at k;exact(SeqAt.RcAt.lists_lengths (A:=X.A) t1.isList t2.isList (by simp;omega) (by omega)) _ _ _ _ ⟨.bl _,H,I,rfl,k⟩
  | @tup q ys es hq hl2 hd2=>
   obtain⟨i2,r2,t2,_⟩:=I.tuple hq;exact(SeqAt.RcAt.list_tuple (A:=X.A) t1.isList t2 (by omega)) _ _ _ _ ⟨.bl _,H,I,rfl,k⟩
theorem Ke(hu:X.A.units+6<cLine):jG X (compareOp .NotEq) (OW X.K true):=by
 intro kb s σ H x y v u Q I rx ry h;obtain⟨n,p,q,a,b,rfl,rfl,ha,hb,na,nb,hn,k⟩:=h;cases rx;cases ry;rw[Bool.true_xor]at k;cases ha with
 | @tup p xs ds hp hl hd=>
  obtain⟨i1,r1,t1,_⟩:=I.tuple hp;cases hb with
  | @tup q ys es hq hl2 hd2=>
   cases na with
   | @tup m l na=>
   cases nb with
   | @tup m l nb=>
   obtain⟨i2,r2,t2,_⟩:=I.tuple hq
   have key:=SeqAt.RcNeAt.tuples (A:=X.A) (s:=s) (e:=fun j=>decide (ds[j]? =es[j]?)) t1 t2 (by omega) (jo (m:=m) r1 r2 hl hl2 fun j x d y e u v h1 h2 h3 h4 ru rv=>
    zk (A:=X.A.in1) (n:=m) (by show X.A.units+1+m<cLine;omega) I (hd j x d h1 h2) (hd2 j y e h3 h4) (na _ (am h2)) (nb _ (am h4)) ru rv)
   rw[C9 r1 r2 hl hl2]at key;rw[sZ]at k;exact key _ _ _ _ ⟨.bl _,H,I,rfl,k⟩
  | @lst q ys es hq hl2 hd2=>
   obtain⟨i2,r2,t2,_⟩:=I.list hq;exact(SeqAt.RcNeAt.tuple_list (A:=X.A) t1 t2.isList (by omega)) _ _ _ _ ⟨.bl _,H,I,rfl,k⟩
 | @lst p xs ds hp hl hd=>
  obtain⟨i1,r1,t1,_⟩:=I.list hp;cases hb with
  | @lst q ys es hq hl2 hd2=>
   cases na with
   | @lst m l na=>
   cases nb with
   | @lst m l nb=>
   obtain⟨i2,r2,t2,_⟩:=I.list hq;have l1:=r1.length;have l2:=r2.length;rw[tf]at k;by_cases z:ds.length=es.length
   ·have key:=SeqAt.RcNeAt.lists (A:=X.A) (s:=s) (e:=fun j=>decide (ds[j]? =es[j]?)) t1.isList t2.isList (by simp;omega) (by omega) (jo (m:=m) r1 r2 hl hl2 fun j x d y e u v h1 h2 h3 h4 ru rv=>
     zk (A:=X.A.in1) (n:=m) (by show X.A.units+1+m<cLine;omega) I (hd j x d h1 h2) (hd2 j y e h3 h4) (na _ (am h2)) (nb _ (am h4)) ru rv)
    rw[Dc r1 r2 hl hl2 z]at key;exact key _ _ _ _ ⟨.bl _,H,I,rfl,k⟩
   ·rw[decide_eq_false (fun y=>z (by rw[y]))]at k;exact(SeqAt.RcNeAt.lists_lengths (A:=X.A) t1.isList t2.isList (by simp;omega) (by omega)) _ _ _ _ ⟨.bl _,H,I,rfl,k⟩
  | @tup q ys es hq hl2 hd2=>
   obtain⟨i2,r2,t2,_⟩:=I.tuple hq;exact(SeqAt.RcNeAt.list_tuple (A:=X.A) t1.isList t2 (by omega)) _ _ _ _ ⟨.bl _,H,I,rfl,k⟩
inductive nh(K:gt)(xs:List V)(H:Hp)(Q:VK):Prop
 | mk (p:Addr) (ns:List Int) (_:xs=[.ref p]) (_:aR K H p (ns.map V.int)) (_:ns.length<64) (_:∀(l:Addr) (ms:List Int),H l=none->ms.Perm ns->ms.Pairwise (· <= ·)->Q (.ref l) (upd H l (.lst (ms.map V.int))))
theorem qU:eL X (.builtin "sorted") (nh X.K):=by
 intro kb s σ H xs R5 Q I r h;obtain⟨p,ns,rfl,hp,hz,q⟩:=h;obtain⟨u,rfl,ru⟩:=vals1 r;cases ru;obtain⟨its,hv,pl,_⟩:=I.list hp;have hi:=intsAre_of hv;have hl:its.length=ns.length:=IntsAre.length hi;refine sorted_ints pl.isList hi (by omega) fun out ms a1 a2 a3=>?_;obtain⟨e,he⟩:=sortedAll_at s.heap its out;have nD:H (s.heap.objs.size+1)=none:=I.hok.fresh (Nat.le_succ _);have hlm:ms.length<64:=by rw[a2.length_eq];exact hz
 refine⟨.ref (s.heap.objs.size+1),upd H (s.heap.objs.size+1) (.lst (ms.map V.int)),I.laid (fun b o e=>sortedAll_old e) (Nat.le_succ _) ?_,rfl,q _ ms nD a2 a3⟩;exact⟨by rw[List.length_map,sizeLine_eq];omega,out.toList,e,jm a1,he⟩
end
open PySem PySem.W PySem.Spec PySem.Calls PyProof.Rows
def tq(S:List Addr)(i:Nat)(o:Obj):Obj:=if i∈S then {o with data:=.freed}else o
def less(h:Heap)(S:List Addr):Heap:={h with objs:=h.objs.mapIdx (tq S)}
theorem zm{h:Heap}{S:List Addr}{b:Addr}(hb:b∈S):(less h S).get? b=none:=by
 unfold Heap.get? less;simp only[Array.getElem?_mapIdx];cases e:h.objs[b]? with
 | none=>rfl
 | some o=>
  simp only[Option.map_some,tq,if_pos hb]
theorem kh{h:Heap}{S:List Addr}{b:Addr}(hb:b∉S):(less h S).get? b=h.get? b:=by
 unfold Heap.get? less;simp only[Array.getElem?_mapIdx];cases e:h.objs[b]? with
 | none=>rfl
 | some o=>
  simp only[Option.map_some,tq,if_neg hb]
theorem pJ{h:Heap}{S:List Addr}:(less h S).StaysIn h:=fun b o e=>by
 by_cases hb:b∈S
 ·rw[zm hb]at e;cases e
 ·rwa [kh hb]at e
theorem rZ{h base:Heap}{S:List Addr}:∀{l:List Env},h.FunFrames base l->(∀b∈frs l,b∈S)->h.FunFrames (less h S) l
 | [],_,_=>trivial
 | env::r,⟨hk,⟨L,o,hf,hn,ho,hd⟩,hr⟩,hs=>by
  have e:frs (env::r)=L::frs r:=by unfold frs;rw[List.filterMap_cons,hf]
  rw[e]at hs;exact⟨hk,⟨L,o,hf,zm (hs L (by simp)),ho,hd⟩,rZ hr fun b hb=>hs b (by simp[hb])⟩
theorem bJ.some_{P:Program}{w:World}{H:Hp}{h:Heap}{a:Addr}{o:HO}(x:bJ P w H h a o):∃u,h.get? a=some u:=by
 cases o with
 | lst xs=>obtain⟨_,_,_,_,e⟩:=x;exact⟨_,e⟩
 | tup xs=>obtain⟨_,_,_,ob,e,_⟩:=x;exact⟨_,e⟩
 | dK kvs=>obtain⟨_,_,_,_,o,_,_,e,_⟩:=x;exact⟨_,e⟩
 | dT kvs=>obtain⟨_,_,_,_,o,_,_,e,_⟩:=x;exact⟨_,e⟩
 | set S n=>obtain⟨o,_,_,_,e,_⟩:=x;exact⟨_,e⟩
 | ins C dx fs=>obtain⟨_,_,_,e,_⟩:=x;exact⟨_,e⟩
 | own y=>exact x
 | xd fs=>obtain⟨_,⟨_,_,_,e,_⟩,_⟩:=x;exact⟨_,e⟩
 | rng lo hi=>obtain⟨_,_,_,e⟩:=x;exact⟨_,e⟩
 | jg ob u=>obtain⟨e,_⟩:=x;exact⟨_,e⟩
 | Ij ps=>exact⟨_,(show h.get? a=some _ from x)⟩
 | met f y=>exact⟨_,(show h.get? a=some _ from x)⟩
 | ext φ=>exact x.2.1
structure Gg(K:gt)(C:Addr)(bmB:List Value)(newId:String):Prop where
 isIn:excIn K C bmB newId=true
theorem Gg.obj{K:gt}{C:Addr}{bmB:List Value}{newId:String}{h₀:Heap}(c:Gg K C bmB newId)(X:K.In h₀):∃bm N nm q bs hdct sn sub ab col dd k0 k1 k2 k3 k5 mN,
   h₀.get? C=some (excClassObj nm q C N bs bm hdct sn sub ab col dd k0 k1 k2 k3 k5 newId)/\h₀.Ns N mN/\mN (Str.ofString "__init__")=none/\OwnTail h₀ bmB bm:=by
 have q:=c.isIn;unfold excIn at q;split at q
 ·rename_i dd cd sl ho;split at q
  ·rename_i C' bm k0 k1 k2 k3 n k5 hm hs;simp only[Bool.and_eq_true,beq_iff_eq,Bool.not_eq_true']at q;obtain⟨⟨⟨⟨⟨rfl,rfl⟩,hdel⟩,ht⟩,hok⟩,hni⟩:=q;obtain⟨nm,bs,mro,ns,qn,hd,sn,sub,ab,col,del⟩:=cd;dsimp only at hm hdel hok hni;subst hm hdel;have hsl:sl=#[k0,k1,k2,k3,some (.builtin n),k5]:=by obtain⟨l⟩:=sl;simp only at hs;rw[hs]
   subst hsl;exact⟨bm,ns,nm,qn,bs,hd,sn,sub,ab,col,dd,k0,k1,k2,k3,k5,_,X _ _ ho,.of_isNs (isNs_of_in X hok),nsMap_none_of_in X hok hni,tail_of_in X ht⟩
  ·cases q
 ·cases q
section
variable {P:Program}{w:World}{K:gt}{mg:Str->Option Value}{base:Heap}{N:List Str}{qual:Str}{scope:Scope}{f:Addr}{cd:Value}{A:Around}{outer:List Env}{s₀:Shared}{H₀:Hp}{E:XK}
theorem cy.okX{P:Program}{w:World}{K:gt}{mg:Str->Option Value}{base:Heap}{CX:Ay}{x qual:Str}{st:Stmt}{f:Addr}{fd:el}{N ps:List Str}{k:Nat}{sp:Sp}(F:cy K x qual st f fd)(S:aM N ps (ao st))(len:∀vs H Q E,sp vs H Q E->vs.length=ps.length)
  (hbody:∀(J4:Value) (A:Around) (outer:List Env) (s:Shared) (H:Hp) (vs:List V) (Q:VK) (E:XK),dU k (A.deeper (envOfC qual (ao st) s.heap.objs.size f J4))->sp vs H Q E->
   ∃t,qJ (gi CX P w K mg base N qual (ao st) f J4 A outer s H E) (cE st) t/\t {nx:=fun _ H'=>Q .non H',rt:=Q} (start N vs) H):aN P w K mg base CX (k+1) f fd ps sp:=by
 obtain⟨oc,od,kV,doc,pm,an,J4,ct,osl,rfl,lk,hcd⟩:=F.ex;exact Iu lk hcd S len fun A outer s H vs Q E hr hsp=>hbody J4 A outer s H vs Q E hr hsp
variable {X:Cx}{kb:List (Addr×Obj)}{σ:St}
theorem Gh{body:List Stmt}{h₀:ExceptHandler}{hs:List ExceptHandler}{pos:Pos}{t:TS}(hb:qJ X.wo body t):PS X (.Try body (h₀::hs) [] [] pos) t:=by
 intro kb s σ H D I h;refine wpAny_Try_except (en (hb kb s σ H D (I.wish _) h) (fun fl s1 q=>?_) fun _ _ z=>False.elim z);have q:=q.ic;cases fl with
 | next=>exact wpAny_execs_nil q
 | ret v=>exact q
 | brk=>exact q
 | cont=>exact q
variable {H:Hp}{s:Shared}
variable {k:Nat}{C cR:Addr}{fd:el}{ps:List Str}{sp:Sp}{mj:List V}{ds:List Value}{x m n:Str}{np pos apos p2 p3 p4:Pos}{o:Expr}{ta:TE}{ts:TS}{i:Nat}{b₀:Stmt}{suite:List Stmt}{L:Addr}
end
open PySem PySem.W PySem.Spec PySem.Calls PyProof.Rows PySem.Builtin PySem.Builtin.ObjectAttr PySem.Builtin.Getset_descriptor
section
variable {prog:Program}{w:World}{A:Around}{E:Value->Shared->Prop}{s:Shared}{K:gt}{x C:Addr}
end
open PySem PySem.W PySem.Spec PySem.Calls PyProof.Rows
section
variable {X:Cx}{C:Addr}{Bn:String}
def Nt(h:Heap)(e:Addr)(od:Option Addr):Prop:=∃o,h.get? e=some o/\o.dict=od
theorem pK(o:Obj)(f:Array Value->Array Value):(Obj.mapFields f o).dict=o.dict:=by unfold Obj.mapFields;split<;>rfl
variable {M:Model}{A:Around}{XE:Value->Shared->Prop}{s:Shared}{B:Heap}{env:Env}{outer l:List Env}{L e:Addr}{cls a0 fl:Value}{od:Option Addr}{Q:Unit->Shared->Prop}
theorem zq{h:Heap}{e b:Addr}{oe o:Obj}{vs:Array Value}(he:h.get? e=some oe)(hd:oe.data=.fields vs)(hb:h.get? b=some o)(n:∀vs,o.data≠.fields vs):b≠e:=fun z=>by subst z;cases he.symm.trans hb;exact n vs hd
theorem Kf{oe:Obj}{vs:Array Value}{head:Value}{hn:Bool}(fr:A.frames=some (env::outer))(fu:s.heap.FunFrames B (env::outer))(hf:env.frame=some L)(he:s.heap.get? e=some oe)(st:B.StaysIn s.heap)(ne:B.get? e=none)
  (hd:oe.data=.fields vs) (sz:1<vs.size) (h0:vs[0]? =some a0) (k:∀h',Heap.NotedW B (env::outer) e oe.cls a0 (rawInt L) s.heap h'->Nt h' e oe.dict->Q () {s with heap:=h'}):
  wpAny M A (do
   let a <-frameOf env
   let pl <-entryPlaceOf L hn
   let b <-EntryCells.newEntry head a .none (rawInt L) .none pl
   setField (.ref e) 1 b) Q XE s:=by
 have nf:e∉frs (env::outer):=fun z=>by obtain⟨_,o,ho,n⟩:=fu.mem z;cases he.symm.trans ho;exact n vs hd
 refine de (wpAny_frameOf_fun fr fu hf fun g kg=>?_);have e1:g.get? e=some oe:=(kg.2.1 e nf).trans he;have key:∀(tb:Obj) (ts:Array Value),tb.data=.fields ts->ts[3]? =some (rawInt L)->wpAny M A (setField (.ref e) 1 (.ref g.objs.size)) Q XE {s with heap:=g.push tb}:=fun tb ts td t3=>by
  have e2:=fg tb e1;have nT:g.objs.size≠e:=Nat.ne_of_gt (fw e1);have d3:=Obj.data_mapFields hd (·.setIfInBounds 1 (Value.ref g.objs.size));have e3:=Heap.get?_update_self (Obj.mapFields (·.setIfInBounds 1 (Value.ref g.objs.size))) e2 (Obj.isFreed_of_fields d3);have hT:(g.push tb).get? g.objs.size=some tb:=fm g (Obj.isFreed_of_fields td);have hT3:=(Heap.get?_update_other (g.push tb) (Obj.mapFields (·.setIfInBounds 1 (Value.ref g.objs.size))) nT.symm).trans hT;have keep:∀b o,b≠e->g.get? b=some o->((g.push tb).update e (Obj.mapFields (·.setIfInBounds 1 (Value.ref g.objs.size)))).get? b=some o:=fun b o n hb=>(Heap.get?_update_other _ _ n.symm).trans (fg _ hb)
  have YV:B.StaysIn g:=fun b o hb=>(kg.2.1 b fun z=>by
   have:=(fu.mem z).1;rw[hb]at this
   cases this).trans (st b o hb)
  refine wpAny_setField e2 hd sz (k _ ⟨fun b o hb=>keep b o (fun z=>by rw[z,ne]at hb;cases hb) (YV b o hb),fu.of_keeps fun b o hb n=>?_,?_,fun b o hb n=>?_⟩ ⟨_,e3,pK _ _⟩)
  ·obtain⟨sl,hs⟩:=kg.2.2 b o hb;exact⟨_,keep b _ (zq he hd hb n) hs,rfl⟩
  ·exact⟨_,_,g.objs.size,_,_,e3,⟨Obj.cls_mapFields _ _,by rw[Array.getElem?_setIfInBounds_ne (by decide)];exact h0⟩,d3,by simp[sz],YV.fresh,nT,hT3,td,t3⟩
  ·obtain⟨sl,hs⟩:=kg.2.2 b o hb;exact⟨sl,keep b _ (zq he hd hb n) hs⟩
 refine de (wpAny_entryPlaceOf fun pl hp=>?_);unfold EntryCells.newEntry newFields;refine de (wpAny_newObj_type ?_ (hp.sizeOk5 _ _ _ _ _));exact key _ _ rfl (by first | (simp;done) | (rcases hp with rfl | ⟨_,_,_,_,_,_,_,rfl⟩<;>simp))
theorem xk{oe:Obj}{vs:Array Value}(fr:A.frames=some (env::outer))(fu:s.heap.FunFrames B (env::outer))(hf:env.frame=some L)(he:s.heap.get? e=some oe)(st:B.StaysIn s.heap)(ne:B.get? e=none)
  (hd:oe.data=.fields vs) (h1:vs[1]? =some .none) (h0:vs[0]? =some a0) (k:∀h',Heap.NotedW B (env::outer) e oe.cls a0 (rawInt L) s.heap h'->Nt h' e oe.dict->Q () {s with heap:=h'}):
  wpAny M A (noteFrame (.ref e) env) Q XE s:=by
 unfold noteFrame;simp only[hf];refine de (wpAny_field he hd h1 ?_);rw[if_neg (by decide)];exact Kf fr fu hf he st ne hd (Array.getElem?_eq_some_iff.mp h1).1 h0 k
theorem Gi(st:B.StaysIn s.heap)(fu:s.heap.FunFrames B l)(tr:s.heap.TracedAtW B e cls a0 fl)(dc:Nt s.heap e od)
  (k:∀h',B.StaysIn h'->h'.FunFrames B l->h'.TracedW B e cls a0->(∀b o,s.heap.get? b=some o->(∀vs,o.data≠.fields vs)->h'.get? b=some o)->Nt h' e od->Q () {s with heap:=h'}):wpAny M A (setFlight (.ref e) none) Q XE s:=by
 obtain⟨oe,vs,T,oT,ts,he,hc,hd,h1,nT,Te,hT,dT,h3⟩:=tr;obtain⟨oe',he',hod⟩:=dc;cases he.symm.trans he';have sz:3<ts.size:=(Array.getElem?_eq_some_iff.mp h3).1;have oth:∀b,b≠T->(s.heap.update T (Obj.mapFields (·.setIfInBounds 3 ((none:Option Addr).elim Value.none fun f=>rawInt f)))).get? b=s.heap.get? b:=fun b n=>Heap.get?_update_other _ _ n.symm;unfold setFlight;refine de (wpAny_field he hd h1 ?_);rw[if_pos (by simp)]
 refine wpAny_setField hT dT sz (k _ (fun b o hb=>(oth b fun z=>by
  rw[z,nT]at hb
  cases hb).trans (st b o hb)) (fu.of_keeps fun b o hb n=>⟨o,(oth b (zq hT dT hb n)).trans hb,rfl⟩) ?_ (fun b o hb n=>(oth b (zq hT dT hb n)).trans hb) ⟨oe,(oth e Te.symm).trans he,hod⟩)
 exact⟨oe,vs,T,_,_,(oth e Te.symm).trans he,hc,hd,h1,nT,Te,Heap.get?_update_self _ hT (Obj.isFreed_of_fields (Obj.data_mapFields dT _)),Obj.data_mapFields dT _,by simp[sz]⟩
theorem Gj{oe:Obj}{vs:Array Value}(fr:A.frames=some (env::outer))(fu:s.heap.FunFrames B (env::outer))(hf:env.frame=some L)(he:s.heap.get? e=some oe)(st:B.StaysIn s.heap)(ne:B.get? e=none)
  (hd:oe.data=.fields vs) (h1:vs[1]? =some .none) (h0:vs[0]? =some a0) (k:∀h',B.FlyingW outer e oe.cls a0 h'->s.heap.UpToSlots h'->Nt h' e oe.dict->Q () {s with heap:=h'}):wpAny M A (leaving env (.ref e)) Q XE s:=by
 unfold leaving;refine de (xk fr fu hf he st ne hd h1 h0 fun h1 q dc=>?_);exact Gi (s:={s with heap:=h1}) q.1 q.2.1 q.2.2.1 dc fun h2 a b c d dc2=>k h2 ⟨a,ne,b.2.2,c⟩ (Heap.UpToSlots.trans q.2.2.2 fun b o hb n=>⟨o.slots,d b o hb n⟩) dc2
abbrev OX:List Value:=[.type "ValueError",.type "Exception",.type "BaseException",.type "object"]
variable {K:gt}{R fI:Addr}{h:Heap}{prog:Program}{w:World}
end
section
variable {X:Cx}{C R fI:Addr}{x:Str}{e v2:Expr}{es:List Expr}{t:TA}{te:TE}{np apos pos p1 p2 p3:Pos}{cc:Str}{j:Nat}
def Nu(P:Program)(w:World):Ay:=fun outer H s E e s'=>∃(ea:Addr) (cls a0:Value) (od:Option Addr) (H':Hp) (B:Heap),e=.ref ea/\B.FlyingW outer ea cls a0 s'.heap/\Nt s'.heap ea od/\
 (∀b o,s.heap.get? b=some o->b∉frs outer->∃o',B.get? b=some o')/\(∀b o,H' b=some o->∃o',B.get? b=some o')/\
 s'.os=s.os/\AllBare s'.gens/\Un (frs outer) [] H H' s.heap s'.heap/\ji P w H' s'.heap/\E cls od H'
variable {f:Addr}{fd:el}{k:Nat}
end
section
variable {P:Program}{w:World}{K:gt}{mg:Str->Option Value}{base:Heap}{N:List Str}{qual:Str}{scope:Scope}{f:Addr}{cd:Value}{A:Around}{outer:List Env}{s₀:Shared}{H₀:Hp}{E:XK}
variable {X:Cx}{kb:List (Addr×Obj)}{σ:St}{H:Hp}{s:Shared}
variable {k:Nat}{cR:Addr}{fd:el}{ps:List Str}{sp:Sp}{mj:List V}{ds:List Value}{x g n:Str}{np gp pos p2 p3 p4:Pos}{a:Expr}{as:List Expr}{t:TA}{ts:TS}{i:Nat}{b₀:Stmt}{suite:List Stmt}{L:Addr}
end
section
variable {X:Cx}{C R fI:Addr}{Bn:String}
variable {k:Nat}{f cR:Addr}{fd:el}{ps:List Str}{sp:Sp}{mj:List V}{ds:List Value}{x n:Str}{np p3 p4:Pos}{t:TA}{ts:TS}{i:Nat}{st b₀:Stmt}{suite:List Stmt}{L:Addr}{r:V->TS}
end
open PySem PySem.Spec PyProof.Rows
theorem Gk{f:Nat->Bool}:∀(bs:List Bool),(∀i b,bs[i]? =some b->f i=b)->(List.range bs.length).all f=bs.all id:=by
 intro bs h;rw[Bool.eq_iff_iff,List.all_eq_true,List.all_eq_true];constructor
 ·intro k b hb;obtain⟨i,hi,e⟩:=List.getElem_of_mem hb;have:=k i (List.mem_range.mpr hi);rw[h i b (by rw[ac hi,e])]at this;exact this
 ·intro k i hi;have hi:=List.mem_range.mp hi;rw[h i bs[i] (ac hi)];exact k _ (bi hi)
section
variable {X:Cx}
theorem OY{bs:List Bool}{its:List Value}(rv:Vals (bs.map V.bl) its){i:Nat}{v:Value}(h:its.toArray[i]? =some v):∃b,bs[i]? =some b/\v=.bool b:=by
 have h:its[i]? =some v:=by simpa using h
 have hl:=rv.length;rw[List.length_map]at hl;have hi:i<bs.length:=by rw[hl];exact(al.mp h).1
 obtain⟨u,hu,ru⟩:=rv.get (i:=i) (x:=V.bl bs[i]) (by rw[ag,ac hi];rfl);rw[h]at hu;cases hu;exact⟨bs[i],ac hi,ru⟩
inductive vo(K:gt)(xs:List V)(H:Hp)(Q:VK):Prop
 | mk (a:Addr) (bs:List Bool) (_:xs=[.ref a]) (_:aR K H a (bs.map V.bl)) (_:Q (.bl (bs.all id)) H)
theorem ez(hc:X.calm=true):eL X (.builtin "all") (vo X.K):=by
 intro kb s σ H xs us Q I r h;obtain⟨a,bs,rfl,hq,q⟩:=h;obtain⟨u,rfl,ru⟩:=vals1 r;cases ru;obtain⟨its,rv,p,hz⟩:=I.list hq;have hl:=p.isList;have hlt:a<s.heap.objs.size:=by obtain⟨_,e,_⟩:=hl;exact fw e
 have hlen:=rv.length;rw[List.length_map]at hlen;refine call_all_walk (wpAny_pyIter_list hl ?_)
 refine⟨s.heap.objs.size,[s.heap.objs.size,a],[s.heap.objs.size],its.toArray.size,_,_,fun i=>(bs[i]?).getD true,rfl,Walks.list (A:=X.A.in1) (I.ok.hd hc) _ a (kt hlt) its.toArray,
  ⟨⟨_,fm _ rfl,rfl,rfl⟩,hl.push _⟩,fun i v s' Q' E' hP hQ=>?_,fun h' tk hk=>?_⟩
 ·obtain⟨b,e,rfl⟩:=OY rv hP;simp only[e,Option.getD_some]at hQ;exact wpAny_truthy_bool hQ
 ·rw[ar,<-hlen,Gk bs (fun i b e=>by rw[e];rfl)];exact⟨.bl _,H,I.kept (t':=tk) (fun b x e=>hk b x (fun hm=>by rw[bd.mp hm]at e;exact Nat.lt_irrefl _ (fw e)) (fg _ e)),rfl,q⟩
variable {prog:Program}{w:World}{A:Around}{E:Value->Shared->Prop}{s:Shared}
theorem vp{it t:Addr}{i:Nat}{els:Array Value}{x:Value}{Q:Value->Shared->Prop}(ti:s.heap.IsTupleIter it t i)(tt:s.heap.IsTuple t els)(gx:els[i]? =some x)
  (k:∀h',h'.IsTupleIter it t (i+1)->Heap.SameBut it s.heap h'->Q x {s with heap:=h'}):wpAny (model prog w) A (Builtin.SmallTypes.nextOf (.ref it)) Q E s:=by
 obtain⟨o,go,gc,gd⟩:=id ti;obtain⟨ol,Uw,_,nl,Ux⟩:=tt;unfold Builtin.SmallTypes.nextOf;refine de (wpAny_callSpecial?_slot (name:=Str.ofString "__next__") ti.typeIs F.slot_tuple_iterator_next (ff F.slot_tuple_iterator_next ti.typeIs F.entry_tuple_iterator_next ?_ (F.args_tuple_iterator_next_1 _)));show wpAny _ _ (field (.ref it) 0>>=_) _ _ s;refine de (wpAny_field go gd (x:=.ref t) rfl ?_);show wpAny _ _ (if (Value.ref t==Value.none)=true then _ else _) _ _ s;rw[if_neg (show ¬((Value.ref t==Value.none)=true)from lm)];show wpAny _ _ (field (.ref it) 1>>=_) _ _ s;refine de (wpAny_field go gd (x:=.int i 0) rfl ?_);show wpAny _ _ (seqItems? (.ref t)>>=_) _ _ s;refine de (wpAny_seqItems Uw Ux ?_);simp only[lv,gx];refine de (wpAny_setField go gd (by simp) (dL ⟨x,rfl,dL (k _ ?_ (Heap.SameBut.update ..))⟩));exact⟨_,Heap.get?_update_self _ go (Obj.isFreed_of_fields (Obj.data_mapFields gd _)),(Obj.cls_mapFields ..).trans gc,by rw[Obj.data_mapFields gd];simp[rawInt]⟩
theorem Gm{it t:Addr}{i:Nat}{els:Array Value}{Q:Value->Shared->Prop}(hh:A.handled=none)(ti:s.heap.IsTupleIter it t i)(tt:s.heap.IsTuple t els)(gx:els[i]? =none)
  (k:∀h' e,Heap.ExtBut it s.heap h'->(∃o,h'.get? e=some o/\o.cls=.type "StopIteration")->E (.ref e) {s with heap:=h'}):wpAny (model prog w) A (Builtin.SmallTypes.nextOf (.ref it)) Q E s:=by
 obtain⟨o,go,gc,gd⟩:=id ti;obtain⟨ol,Uw,_,nl,Ux⟩:=tt;unfold Builtin.SmallTypes.nextOf;refine de (wpAny_callSpecial?_slot (name:=Str.ofString "__next__") ti.typeIs F.slot_tuple_iterator_next (ff F.slot_tuple_iterator_next ti.typeIs F.entry_tuple_iterator_next ?_ (F.args_tuple_iterator_next_1 _)));show wpAny _ _ (field (.ref it) 0>>=_) _ _ s;refine de (wpAny_field go gd (x:=.ref t) rfl ?_);show wpAny _ _ (if (Value.ref t==Value.none)=true then _ else _) _ _ s;rw[if_neg (show ¬((Value.ref t==Value.none)=true)from lm)];show wpAny _ _ (field (.ref it) 1>>=_) _ _ s;refine de (wpAny_field go gd (x:=.int i 0) rfl ?_);show wpAny _ _ (seqItems? (.ref t)>>=_) _ _ s;refine de (wpAny_seqItems Uw Ux ?_);simp only[lv,gx];refine de (wpAny_rule (de (wpAny_setField go gd (by simp) ?_)));show wpAny _ _ (newExc (.type "StopIteration") [] >>=_) _ _ _;refine de ?_;simp only[newExc,newTuple];refine de (wpAny_newObj_type ?_ (by size_fits));refine de (m:=firstArgMember _ _) (wpAny_of_eq (a:=Value.none) (by first | rfl | (simp only[firstArgMember];rfl)) ?_);refine wpAny_newObj_type ?_ (by size_fits);simp only[raiseNew];refine de (wpAny_handled ?_);(first | rw[show A.in1.handled=none from hh] | rw[hh]);refine de (dL (wpAny_throw ?_));exact k _ _ (((Heap.SameBut.update ..).extBut.push _).push _) ⟨_,fm _ rfl,rfl⟩
theorem AU{z TI TO i1 i2 l1 l2:Addr}{k:Nat}{xs ys:Array Value}{x y a b:Value}{Q:Option Value->Shared->Prop}(D:ZipApart z TI TO i1 i2 l1 l2)
  (gz:IsZip s.heap z TI TO .none) (gI:IsPair s.heap TI (.ref i1) (.ref i2)) (gO:IsPair s.heap TO a b)
  (t1:s.heap.IsTupleIter i1 l1 k) (t2:s.heap.IsTupleIter i2 l2 k) (m1:s.heap.IsTuple l1 xs) (m2:s.heap.IsTuple l2 ys) (gx:xs[k]? =some x) (gy:ys[k]? =some y)
  (q:∀h',IsZip h' z TI TO (rawInt s.heap.objs.size)->IsPair h' TO x y->h'.IsTupleIter i1 l1 (k+1)->h'.IsTupleIter i2 l2 (k+1)->IsPair h' s.heap.objs.size x y->h'.objs.size=s.heap.objs.size+1->
   (∀c o,c≠z->c≠TO->c≠i1->c≠i2->s.heap.get? c=some o->h'.get? c=some o)->Q (some (.ref s.heap.objs.size)) {s with heap:=h'}):wpAny (model prog w) A (pyNext (.ref z)) Q E s:=by
 have hT:s.TypeIs (.ref z) "zip":=⟨_,gz,rfl⟩;unfold pyNext;refine de (wpAny_attempt (wpAny_callSpecial?_slot (name:=Str.ofString "__next__") hT F.slot_zip_next (ff F.slot_zip_next hT F.entry_zip_next ?_ (F.args_zip_next_1 _))));show wpAny _ _ (field (.ref z) 2>>=_) _ _ _;refine de (wpAny_field gz rfl (x:=.bool false) rfl ?_);show wpAny _ _ (field (.ref z) 3>>=_) _ _ _;refine de (wpAny_field gz rfl (x:=.ref TI) rfl ?_);refine de (wpAny_seqItems gI rfl ?_);show wpAny _ _ (Builtin.SmallTypes.ownedTupleIsFree (.ref z)>>=_) _ _ _;refine de ?_;unfold Builtin.SmallTypes.ownedTupleIsFree;refine de (wpAny_field gz rfl (x:=.none) rfl (dL ?_));simp only[if_true];refine de (wpAny_rule ?_);refine de (wpAny_field gz rfl (x:=.ref TO) rfl ?_);refine de (wpAny_setField_rec gz (by simp) fun g1 z1 e1=>?_);replace z1:IsZip g1 z TI TO .ellipsis:=z1;refine de ?_;simp only[List.zipIdx_cons,List.zipIdx_nil,List.forIn_cons,List.forIn_nil];refine de (de (wpAny_onRaise ?_));show wpAny _ _ (Builtin.SmallTypes.nextOf (.ref i1)>>=_) _ _ _;refine de (vp (t1.extBut e1.extBut D.i1z) (m1.extBut e1.extBut D.l1z) gx fun g2 Uy e2=>dL ?_);have o2:IsPair g2 TO a b:=e2.extBut _ _ D.TOi1 (e1.extBut _ _ D.TOz gO);refine de (wpAny_seqItems o2 rfl ?_);refine de (wpAny_updateSeq_pair o2 fun g3 o3 e3=>?_);replace o3:IsPair g3 TO x b:=o3;refine de (wpAny_letGo (dL ?_));refine de (de (wpAny_onRaise ?_));show wpAny _ _ (Builtin.SmallTypes.nextOf (.ref i2)>>=_) _ _ _;refine de (vp (((t2.extBut e1.extBut D.i2z).extBut e2.extBut D.i12.symm).extBut e3.extBut D.TOi2.symm) (((m2.extBut e1.extBut D.l2z).extBut e2.extBut D.l2i1).extBut e3.extBut D.l2TO) gy fun g4 Uz e4=>dL ?_);have o4:IsPair g4 TO x b:=e4.extBut _ _ D.TOi2 o3;refine de (wpAny_seqItems o4 rfl ?_);refine de (wpAny_updateSeq_pair o4 fun g5 o5 e5=>?_);replace o5:IsPair g5 TO x y:=o5;refine de (wpAny_letGo (dL (dL ?_)));refine de (wpAny_seqItems o5 rfl ?_);refine de (wpAny_newTuple ?_);have sz:g5.objs.size=s.heap.objs.size:=by rw[e5.1,e4.1,e3.1,e2.1,e1.1]
 have z5:IsZip g5 z TI TO .ellipsis:=e5.extBut _ _ D.TOz.symm (e4.extBut _ _ D.i2z.symm (e3.extBut _ _ D.TOz.symm (e2.extBut _ _ D.i1z.symm z1)));have kp:∀c o,c≠z->c≠TO->c≠i1->c≠i2->s.heap.get? c=some o->g5.get? c=some o:=fun c o c1 c2 c3 c4 e=>e5.extBut _ _ c2 (e4.extBut _ _ c4 (e3.extBut _ _ c2 (e2.extBut _ _ c3 (e1.extBut _ _ c1 e))));have u1:g5.IsTupleIter i1 l1 (k+1):=((Uy.extBut e3.extBut D.TOi1.symm).extBut e4.extBut D.i12).extBut e5.extBut D.TOi1.symm;have u2:g5.IsTupleIter i2 l2 (k+1):=Uz.extBut e5.extBut D.TOi2.symm;have zl:z<g5.objs.size:=fw z5;show wpAny _ _ (Builtin.SmallTypes.ownedTupleHandOut (.ref z) (.ref g5.objs.size)>>=_) _ _ _;refine de ?_;unfold Builtin.SmallTypes.ownedTupleHandOut;have z6:IsZip (g5.push {cls:=.type "tuple",data:=.seq #[x,y]}) z TI TO .ellipsis:=fg _ z5;refine de (wpAny_setField_rec z6 (by simp) fun g7 z7 e7=>?_);replace z7:IsZip g7 z TI TO (rawInt g5.objs.size):=z7;refine wpAny_setField_rec z7 (by simp) fun g8 z8 e8=>?_;replace z8:IsZip g8 z TI TO (rawInt g5.objs.size):=z8;have up:∀c o,c≠z->g5.get? c=some o->g8.get? c=some o:=fun c o c1 e=>e8.extBut _ _ c1 (e7.extBut _ _ c1 (fg _ e));have n8:IsPair g8 g5.objs.size x y:=e8.extBut _ _ (Nat.ne_of_gt zl) (e7.extBut _ _ (Nat.ne_of_gt zl) (fm _ rfl));have s8:g8.objs.size=g5.objs.size+1:=by rw[e8.1,e7.1,Heap.size_push]
 rw[sz]at z8 n8 s8;refine dL ⟨.ref g5.objs.size,rfl,dL ?_⟩;rw[sz];exact q g8 z8 (up _ _ D.TOz o5) (u1.at fun o e=>up _ o D.i1z e) (u2.at fun o e=>up _ o D.i2z e) n8 s8 fun c o c1 c2 c3 c4 e=>up c o c1 (kp c o c1 c2 c3 c4 e)
theorem Dd{z TI TO i1 i2 l1 l2:Addr}{k:Nat}{xs:Array Value}{Q:Option Value->Shared->Prop}(hh:A.handled=none)(D:ZipApart z TI TO i1 i2 l1 l2)
  (gz:IsZip s.heap z TI TO .none) (gI:IsPair s.heap TI (.ref i1) (.ref i2)) (t1:s.heap.IsTupleIter i1 l1 k) (m1:s.heap.IsTuple l1 xs) (gx:xs[k]? =none)
  (q:∀h',(∀c o,c≠z->c≠TO->c≠i1->c≠i2->s.heap.get? c=some o->h'.get? c=some o)->Q none {s with heap:=h'}):wpAny (model prog w) A (pyNext (.ref z)) Q E s:=by
 have hT:s.TypeIs (.ref z) "zip":=⟨_,gz,rfl⟩;unfold pyNext;refine de (wpAny_attempt (wpAny_callSpecial?_slot (name:=Str.ofString "__next__") hT F.slot_zip_next (ff F.slot_zip_next hT F.entry_zip_next ?_ (F.args_zip_next_1 _))));show wpAny _ _ (field (.ref z) 2>>=_) _ _ _;refine de (wpAny_field gz rfl (x:=.bool false) rfl ?_);show wpAny _ _ (field (.ref z) 3>>=_) _ _ _;refine de (wpAny_field gz rfl (x:=.ref TI) rfl ?_);refine de (wpAny_seqItems gI rfl ?_);show wpAny _ _ (Builtin.SmallTypes.ownedTupleIsFree (.ref z)>>=_) _ _ _;refine de ?_;unfold Builtin.SmallTypes.ownedTupleIsFree;refine de (wpAny_field gz rfl (x:=.none) rfl (dL ?_));simp only[if_true];refine de (wpAny_rule ?_);refine de (wpAny_field gz rfl (x:=.ref TO) rfl ?_);refine de (wpAny_setField_rec gz (by simp) fun g1 z1 e1=>?_);replace z1:IsZip g1 z TI TO .ellipsis:=z1;refine de ?_;simp only[List.zipIdx_cons,List.zipIdx_nil,List.forIn_cons,List.forIn_nil];refine de (de (wpAny_onRaise ?_));show wpAny _ _ (Builtin.SmallTypes.nextOf (.ref i1)>>=_) _ _ _;refine de (Gm hh (t1.extBut e1.extBut D.i1z) (m1.extBut e1.extBut D.l1z) gx fun g2 e e2 he=>?_);obtain⟨oe,hoe,hce⟩:=he;have z2:IsZip g2 z TI TO .ellipsis:=e2 _ _ D.i1z.symm z1;have ne:e≠z:=fun x=>by subst x;rw[z2]at hoe;cases hoe;simp at hce
 refine wpAny_setField_rec z2 (by simp) fun g3 _ e3=>?_;refine de (wpAny_isInstance (T :="StopIteration") (b:=true) ⟨oe,e3.extBut _ _ ne hoe,hce⟩ isSubtype_stop ?_);exact dL (q g3 fun c o c1 _ c3 _ x=>e3.extBut _ _ c1 (e2 _ _ c3 (e1.extBut _ _ c1 x)))
abbrev R6(h:Heap)(a:Addr):Heap:=h.push {cls:=.type "tuple_iterator",data:=.fields #[.ref a,.int 0 0]}
abbrev R7(h:Heap)(a b:Addr):Heap:=(R6 h a).push {cls:=.type "tuple_iterator",data:=.fields #[.ref b,.int 0 0]}
abbrev R8(h:Heap)(a b:Addr):Heap:=(R7 h a b).push {cls:=.type "tuple",data:=.seq #[.ref h.objs.size,.ref (R6 h a).objs.size]}
abbrev R9(h:Heap)(a b:Addr):Heap:=(R8 h a b).push {cls:=.type "tuple",data:=.seq #[.none,.none]}
abbrev Nv(h:Heap)(a b:Addr):Heap:=(R9 h a b).push {cls:=.type "zip",data:=.fields #[.none,.bool false,.bool false,.ref (R7 h a b).objs.size,.ref (R8 h a b).objs.size]}
theorem mzT(a b:Addr)(xs ys:Array Value):Meets (Builtin.«zip.__new__» ⟨[.type "zip",.ref a,.ref b],[]⟩) (fun _ R s=>s.heap.IsTuple a xs/\s.heap.IsTuple b ys/\R (.ok (.ret (.ref (R9 s.heap a b).objs.size))) {s with heap:=Nv s.heap a b}):=
 .of_wp fun prog w A R s h=>by
  obtain⟨hp,g,d,tk,os⟩:=s;obtain⟨m1,m2,h⟩:=h;have hsub:=sub_zip;have n1:Heap.IsTuple (Shared.heap ⟨hp,g,d,tk,os⟩) a xs:=m1;have n2:Heap.IsTuple (Shared.heap ⟨hp.push {cls:=.type "tuple_iterator",data:=.fields #[.ref a,.int 0 0]},g,d,tk,os⟩) b ys:=Heap.IsTuple.push m2 _
  wp_walk using wpAny_pyIter_tuple n1,wpAny_pyIter_tuple n2
  exact⟨_,rfl,h⟩
theorem AV{a b:Addr}{xs ys:Array Value}{Q:Value->Shared->Prop}(m1:s.heap.IsTuple a xs)(m2:s.heap.IsTuple b ys)
  (h:∀h',IsZip h' (s.heap.objs.size+4) (s.heap.objs.size+2) (s.heap.objs.size+3) .none->IsPair h' (s.heap.objs.size+2) (.ref s.heap.objs.size) (.ref (s.heap.objs.size+1))->
   IsPair h' (s.heap.objs.size+3) .none .none->h'.IsTupleIter s.heap.objs.size a 0->h'.IsTupleIter (s.heap.objs.size+1) b 0->(∀c o,s.heap.get? c=some o->h'.get? c=some o)->Q (.ref (s.heap.objs.size+4)) {s with heap:=h'}):
  wpAny (model prog w) A (call (.type "zip") [.ref a,.ref b]) Q E s:=by
 refine callType_new F.called_zip (by decide) (F.typeCall_zip_2 _ _) (F.newCall_zip_2 _ _) (fun obj=>F.args_object_init_3 obj _ _) F.entry_zip_new (mzT a b xs ys) ⟨m1,m2,?_⟩;have z1:(R6 s.heap a).objs.size=s.heap.objs.size+1:=Heap.size_push ..;have z2:(R7 s.heap a b).objs.size=s.heap.objs.size+2:=by rw[Heap.size_push,z1]
 have z3:(R8 s.heap a b).objs.size=s.heap.objs.size+3:=by rw[Heap.size_push,z2]
 have z4:(R9 s.heap a b).objs.size=s.heap.objs.size+4:=by rw[Heap.size_push,z3]
 have g5:(Nv s.heap a b).get? (R9 s.heap a b).objs.size=some _:=fm _ rfl;have g4:(Nv s.heap a b).get? (R8 s.heap a b).objs.size=some _:=fg _ (fm _ rfl);have g3:(Nv s.heap a b).get? (R7 s.heap a b).objs.size=some _:=fg _ (fg _ (fm _ rfl));have g2:(Nv s.heap a b).get? (R6 s.heap a).objs.size=some _:=fg _ (fg _ (fg _ (fm _ rfl)));have g1:(Nv s.heap a b).get? s.heap.objs.size=some _:=fg _ (fg _ (fg _ (fg _ (fm _ rfl))));show _/\_;rw[z2,z3,z4]at g5;rw[z1,z2]at g3;rw[z3]at g4;rw[z1]at g2;rw[z4];refine⟨⟨_,g5,rfl⟩,h _ g5 g3 g4 ⟨_,g1,rfl,rfl⟩ ⟨_,g2,rfl,rfl⟩ fun c o x=>?_⟩;exact fg _ (fg _ (fg _ (fg _ (fg _ x))))
def OZ(K:gt)(a b:Addr):It :=
 ⟨fun i H=>∃xs x ys y,bp K H a xs/\xs[i]? =some x/\bp K H b ys/\ys[i]? =some y,
   fun i H v H'=>∃t x y,H t=none/\v=.ref t/\H'=upd H t (.tup [x,y])/\(∀xs,bp K H a xs->xs[i]? =some x)/\∀ys,bp K H b ys->ys[i]? =some y,
   fun i H=>∃xs,bp K H a xs/\xs.length<=i⟩
theorem De{P:Program}{w:World}{K:gt}{elts:List Expr}{x1}{pos:Pos}(a b z TI TO i1 i2:Addr)(D:ZipApart z TI TO i1 i2 a b):
  Turn P w K (.Tuple elts x1 pos) (OZ K a b) [z,TI,TO,i1,i2] z (fun i h=>IsZip h z TI TO .none/\IsPair h TI (.ref i1) (.ref i2)/\(∃u v,IsPair h TO u v)/\h.IsTupleIter i1 a i/\h.IsTupleIter i2 b i) where
 mem:=by simp
 obj:=fun i h st c hc=>by
  obtain⟨s1,s2,⟨u,v,s3⟩,⟨o4,s4,_,d4⟩,⟨o5,s5,_,d5⟩⟩:=st;have hc':c=z\/c=TI\/c=TO\/c=i1\/c=i2:=by simpa using hc
  rcases hc' with rfl | rfl | rfl | rfl | rfl
  ·exact⟨_,s1,fun v q=>by have q':Data.fields _=Data.cell v:=q;cases q'⟩
  ·exact⟨_,s2,fun v q=>by have q':Data.seq _ _=Data.cell v:=q;cases q'⟩
  ·exact⟨_,s3,fun v q=>by have q':Data.seq _ _=Data.cell v:=q;cases q'⟩
  ·exact⟨o4,s4,fun v q=>by rw[d4]at q;cases q⟩
  ·exact⟨o5,s5,fun v q=>by rw[d5]at q;cases q⟩
 keep:=fun i h h' st k=>⟨k z (by simp) _ st.1,k TI (by simp) _ st.2.1,st.2.2.1.elim fun u q=>q.elim fun v q=>⟨u,v,k TO (by simp) _ q⟩,st.2.2.2.1.at fun o e=>k i1 (by simp) o e,st.2.2.2.2.at fun o e=>k i2 (by simp) o e⟩
 item:=by
  intro X hP hw hK hc i kb s σ H E I hf st hg;subst hP hw hK;obtain⟨xs,x,ys,y,hq,hx,hq2,hy⟩:=hg;obtain⟨s1,s2,⟨u,v,s3⟩,s4,s5⟩:=st;obtain⟨its,rv,p,hz⟩:=I.tuple hq;obtain⟨its2,Fl,p2,hz2⟩:=I.tuple hq2;obtain⟨ux,hux,UA⟩:=rv.get hx;obtain⟨uy,UB,UC⟩:=Fl.get hy;refine AU D s1 s2 s3 s4 s5 (show s.heap.IsTuple a its.toArray from p) (show s.heap.IsTuple b its2.toArray from p2) (x:=ux) (y:=uy) (by simpa using hux) (by simpa using UB) fun h1 a1 a2 a3 a4 a5 a6 k1=>?_;refine⟨_,rfl,wpAny_letOwnedTupleGo_zip a1 fun h2 b1 b2=>?_⟩;have nz:s.heap.objs.size≠z:=Nat.ne_of_gt (fw s1);have zi:=(b2.2 s.heap.objs.size nz).trans a5;have hk:∀c o,c∉ [z,TO,i1,i2]->s.heap.get? c=some o->h2.get? c=some o:=fun c o hb e'=>by
   have hb':c≠z/\c≠TO/\c≠i1/\c≠i2:=by simpa using hb
   exact(b2.2 c hb'.1).trans (k1 c o hb'.1 hb'.2.1 hb'.2.2.1 hb'.2.2.2 e')
  have hfr:H s.heap.objs.size=none:=I.hok.fresh (ki _)
  refine⟨.ref s.heap.objs.size,upd H s.heap.objs.size (.tup [x,y]),I.lI (t':=s.toks) hk (fun c hc=>hf c (by simp at hc ⊢;rcases hc with q | q | q | q<;>simp[q])) (ki _) ?_,rfl,
   ⟨_,x,y,hfr,rfl,rfl,fun zs hy'=>by rw[I.jj hy' hq];exact hx,fun zs hy'=>by rw[I.jj hy' hq2];exact hy⟩,⟨b1,?_,⟨ux,uy,?_⟩,a3.at fun o e=>(b2.2 i1 D.i1z).trans e,a4.at fun o e=>(b2.2 i2 D.i2z).trans e⟩,fun c hc=>?_⟩
  ·exact⟨by show 2<=em;decide,[ux,uy],.cons UA (.cons UC .nil),⟨_,zi,rfl,_,rfl⟩⟩
  ·exact hk TI _ (by simp[D.TIz,D.TITO,D.TIi1,D.TIi2]) s2
  ·exact(b2.2 TO D.TOz).trans a2
  ·have:c≠s.heap.objs.size:=by
    have hc':c=z\/c=TI\/c=TO\/c=i1\/c=i2:=by simpa using hc
    rcases hc' with rfl | rfl | rfl | rfl | rfl
    ·exact Ne.symm nz
    ·exact kt (fw s2)
    ·exact kt (fw s3)
    ·obtain⟨o,e1,_⟩:=s4;exact kt (fw e1)
    ·obtain⟨o,e1,_⟩:=s5;exact kt (fw e1)
   rw[az this];exact(hf c hc).1
 done:=by
  intro X hP hw hK hc i kb s σ H E I hf st hg;subst hP hw hK;obtain⟨xs,hq,hx⟩:=hg;obtain⟨s1,s2,s3,s4,s5⟩:=st;obtain⟨its,rv,p,hz⟩:=I.tuple hq;have hl:=rv.length
  exact Dd (I.ok.hd hc) D s1 s2 s4 (show s.heap.IsTuple a its.toArray from p) (by simp;omega) fun h' eb=>⟨rfl,I.zh (t':=s.toks) (its:=[z,TO,i1,i2]) (fun c o hb e=>by
   have hb':c≠z/\c≠TO/\c≠i1/\c≠i2:=by simpa using hb
   exact eb c o hb'.1 hb'.2.1 hb'.2.2.1 hb'.2.2.2 e) (fun c hc=>hf c (by simp at hc ⊢;rcases hc with q | q | q | q<;>simp[q]))⟩
 self:=fun _ _ _ _ _ st h=>wpAny_pyIter_zip st.1 h
def UD(K:gt)(ta:TA):TI:=fun σ H R=>ta σ H fun vs H1=>∃a b,vs=[.ref a,.ref b]/\(∃xs,bp K H1 a xs)/\(∃ys,bp K H1 b ys)/\R (OZ K a b) H1
theorem xl:bootBuiltins "zip"=some (.type "zip"):=by decide+kernel
theorem Kg{a b:Expr}{ta:TA}{p pos:Pos}{elts:List Expr}{x1}{tpos:Pos}(hg:Gl X "zip")(hm:X.mg "zip"=none)(ha:PA X [a,b] ta)
  (hs:starEach [a,b] X.env=[(false,eval a X.env),(false,eval b X.env)]:=by rfl) (hs2:starEach [b] X.env=[(false,eval b X.env)]:=by rfl):PI X (.Tuple elts x1 tpos) (.Call (.Name "zip" p) [a,b] [] pos) (UD X.K ta):=by
 intro kb s σ H R I h;refine Call_ (ib I hg hm xl (PyProof.Rows.callWith_type1 (cz (ha pos kb s σ H _ I h) fun us s1 ⟨vs,H1,I1,r1,q1⟩=>?_) (by rw[hs,hs2]) (by rw[hs2];rfl)));obtain⟨a,b,e,⟨xs,hq⟩,⟨ys,hq2⟩,q⟩:=q1;subst e;obtain⟨u,v,rfl,ru,rv⟩:=vals2 r1;cases ru;cases rv;obtain⟨its,rv,p,hz⟩:=I1.tuple hq;obtain⟨its2,Fl,p2,hz2⟩:=I1.tuple hq2;have la:a<s1.heap.objs.size:=by obtain⟨o,e,_⟩:=p;exact fw e
 have lb:b<s1.heap.objs.size:=by obtain⟨o,e,_⟩:=p2;exact fw e
 refine AV (show s1.heap.IsTuple a its.toArray from p) (show s1.heap.IsTuple b its2.toArray from p2) fun h' g1 g2 g3 g4 g5 hk=>?_;refine wpAny_pyIter_zip g1 ?_;have D:ZipApart (s1.heap.objs.size+4) (s1.heap.objs.size+2) (s1.heap.objs.size+3) s1.heap.objs.size (s1.heap.objs.size+1) a b:=PySem.W.ktu_apart _ _ _ la lb;refine⟨s1.heap.objs.size+4,[s1.heap.objs.size+4,s1.heap.objs.size+2,s1.heap.objs.size+3,s1.heap.objs.size,s1.heap.objs.size+1],_,_,H1,rfl,I1.kept (t':=s1.toks) hk,De a b _ _ _ _ _ D,⟨g1,g2,⟨_,_,g3⟩,g4,g5⟩,fun c hc=>?_,q⟩;have hc':s1.heap.objs.size<=c:=by
  have hc':c=s1.heap.objs.size+4\/c=s1.heap.objs.size+2\/c=s1.heap.objs.size+3\/c=s1.heap.objs.size\/c=s1.heap.objs.size+1:=by simpa using hc
  rcases hc' with q | q | q | q | q<;>rw[q]
  ·exact Nat.le_add_right _ _
  ·exact Nat.le_add_right _ _
  ·exact Nat.le_add_right _ _
  ·exact ki _
  ·exact Nat.le_add_right _ _
 exact I1.wC hc' (I1.hok.fresh hc')
end
theorem gW{K:gt}{a:Addr}{xs:List V}{g:TG}{tt:TT}{te:TE}{R:Hp->Prop}{D:Addr}{σ0:St}{H0:Hp}(Pv:Nat->St->List V->Hp->Prop)(h0:Pv 0 σ0 [] H0)(hl:∀i σ ys H,i<=xs.length->Pv i σ ys H->bp K H a xs)
  (hs:∀i x σ ys H,xs[i]? =some x->Pv i σ ys H->g x σ H fun σ2 H2=>tt σ2 H2 fun b H3=>
   if b=true then te σ2 H3 fun v H4=>H4 D=some (.lst ys)/\ys.length<em/\Pv (i+1) σ2 (ys++ [v]) (upd H4 D (.lst (ys++ [v])))else Pv (i+1) σ2 ys H3)
  (hd:∀σ ys H,Pv xs.length σ ys H->R H):
  ∃W:Nat->Nat->St->List V->Hp->Prop,(∃m,W 0 m σ0 [] H0)/\∀i m σ ys H,W i m σ ys H->
   ((Oa K a).stop i H/\R H)\/((Oa K a).go i H/\∃N:St->List V->Hp->Prop,(∀σ' ys' H',N σ' ys' H'->∃m',m'<m/\W (i+1) m' σ' ys' H')/\∀x H',(Oa K a).B3 i H x H'->g x σ H' fun σ2 H2=>tt σ2 H2 fun b H3=>
    if b=true then te σ2 H3 fun v H4=>H4 D=some (.lst ys)/\ys.length<em/\N σ2 (ys++ [v]) (upd H4 D (.lst (ys++ [v])))else N σ2 ys H3):=by
 refine⟨fun i m σ ys H=>m=xs.length-i/\i<=xs.length/\Pv i σ ys H,⟨xs.length,by simp,Nat.zero_le _,h0⟩,?_⟩;rintro i m σ ys H ⟨rfl,hi,p⟩;have q:=hl i σ ys H hi p;by_cases hlt:i<xs.length
 ·refine .inr ⟨⟨xs,xs[i],q,by simp[hlt]⟩,Pv (i+1),fun σ' ys' H' p'=>⟨xs.length- (i+1),by omega,rfl,hlt,p'⟩,fun x H' y=>?_⟩;obtain⟨e,y⟩:=y;subst e;exact hs i x σ ys _ (y xs q) p
 ·have e:i=xs.length:=by omega
  subst e;exact .inl ⟨⟨xs,q,ki _⟩,hd σ ys H p⟩
theorem Df{K:gt}{a b:Addr}{xs zs:List V}{g:TG}{tt:TT}{te:TE}{R:Hp->Prop}{D:Addr}{σ0:St}{H0:Hp}(hlen:xs.length=zs.length)(Pv:Nat->St->List V->Hp->Prop)(h0:Pv 0 σ0 [] H0)
  (hl:∀i σ ys H,i<=xs.length->Pv i σ ys H->bp K H a xs/\bp K H b zs)
  (hs:∀i x z σ ys H t,xs[i]? =some x->zs[i]? =some z->H t=none->Pv i σ ys H->g (.ref t) σ (upd H t (.tup [x,z])) fun σ2 H2=>tt σ2 H2 fun c H3=>
   if c=true then te σ2 H3 fun v H4=>H4 D=some (.lst ys)/\ys.length<em/\Pv (i+1) σ2 (ys++ [v]) (upd H4 D (.lst (ys++ [v])))else Pv (i+1) σ2 ys H3)
  (hd:∀σ ys H,Pv xs.length σ ys H->R H):
  ∃W:Nat->Nat->St->List V->Hp->Prop,(∃m,W 0 m σ0 [] H0)/\∀i m σ ys H,W i m σ ys H->
   ((OZ K a b).stop i H/\R H)\/((OZ K a b).go i H/\∃N:St->List V->Hp->Prop,(∀σ' ys' H',N σ' ys' H'->∃m',m'<m/\W (i+1) m' σ' ys' H')/\∀x H',(OZ K a b).B3 i H x H'->g x σ H' fun σ2 H2=>tt σ2 H2 fun c H3=>
    if c=true then te σ2 H3 fun v H4=>H4 D=some (.lst ys)/\ys.length<em/\N σ2 (ys++ [v]) (upd H4 D (.lst (ys++ [v])))else N σ2 ys H3):=by
 refine⟨fun i m σ ys H=>m=xs.length-i/\i<=xs.length/\Pv i σ ys H,⟨xs.length,by simp,Nat.zero_le _,h0⟩,?_⟩;rintro i m σ ys H ⟨rfl,hi,p⟩;obtain⟨q,q2⟩:=hl i σ ys H hi p;by_cases hlt:i<xs.length
 ·refine .inr ⟨⟨xs,xs[i],zs,zs[i]'(by omega),q,ac hlt,q2,ac _⟩,Pv (i+1),fun σ' ys' H' p'=>⟨xs.length- (i+1),by omega,rfl,hlt,p'⟩,fun v H' y=>?_⟩;obtain⟨t,x,z,hn,e1,e2,y1,y2⟩:=y;subst e1 e2;exact hs i x z σ ys _ t (y1 xs q) (y2 zs q2) hn p
 ·have e:i=xs.length:=by omega
  subst e;exact .inl ⟨⟨xs,q,ki _⟩,hd σ ys H p⟩
end L2
namespace SF
open PySem PySem.Calls PyProof.Rows
section
variable {prog:Program}{w:World}{A:Around}{E:Value->Shared->Prop}{s:Shared}
set_option maxHeartbeats 8000000 in
theorem AW{l:Addr}{items:Array Value}{ns:List Int}{Q:Value->Shared->Prop}(hh:A.handled=none)(hl:s.heap.IsTuple l items)(hi:IntsAre items.toList ns)(hb:items.size+1<scanBound)
  (h:∀(h':Heap) (tk:Nat) (us:List Int),iu prog w h' s.heap.objs.size us->us.length<=ns.length->(∀j,j∈us↔j∈ns)->(∀b o,b<s.heap.objs.size->s.heap.get? b=some o->h'.get? b=some o)->Q (.ref s.heap.objs.size) {s with heap:=h',toks:=tk}):
  wpAny (model prog w) A (call (.type "set") [.ref l]) Q E s:=by
 obtain⟨c,tl,hmro⟩:=PySem.F.called_set.mro;have hmade:=PySem.F.called_set.made;have hsub:=PySem.F.called_set.sub;refine wpAny_call (codeAny_of_tree ?_);show wpAny _ _ (callAny (.type "set") _) _ _ _;refine dL ⟨Code.quiet_builtin _ (by decide+kernel),codeAny_builtin PySem.F.entry_type_call ?_⟩;rw[Around.under_plain (weight_type_call_type "set" [.ref l] []) rfl];have h1:=PySem.F.called_set.notType;have h2:=PySem.F.called_set.canCreate;have hct:=PySem.F.typeCall_set_1 (.ref l);generalize qQ:(!w.params.followText "set-order")=led
 repeat (any_goals (first | assumption | wp_step))
 refine codeAny_mono (zf (prog:=prog) (w:=w) (.ref l) (E:=E) (Q₁:=fun obj s₁=>obj=.ref s.heap.objs.size/\s₁={s with heap:=s.heap.push {cls:=.type "set",dict:=none,data:=.set #[] 0 (.fresh 0 0 led)}}) (by rw[qQ];exact⟨rfl,rfl⟩)) fun r s₁ hr=>?_;have kc:w.params.followText "set-order"=true\/led=true:=by
  cases q:w.params.followText "set-order"with
  | true=>exact .inl rfl
  | false=>rw[q]at qQ;exact .inr qQ.symm
 cases r with
 | error e=>exact hr
 | ok fl=>
  cases fl with
  | next=>exact hr.elim
  | brk=>exact hr.elim
  | cont=>exact hr.elim
  | ret obj=>
   obtain⟨rfl,rfl⟩:=hr;have hS:(s.heap.push {cls:=.type "set",dict:=none,data:=.set #[] 0 (.fresh 0 0 led)}).get? s.heap.objs.size=some {cls:=.type "set",dict:=none,data:=.set #[] 0 (.fresh 0 0 led)}:=fm _ rfl;have hT:Shared.TypeIs {s with heap:=s.heap.push {cls:=.type "set",dict:=none,data:=.set #[] 0 (.fresh 0 0 led)}} (.ref s.heap.objs.size) "set":=⟨_,hS,rfl⟩;have hli:=PySem.F.called_set.init.lookup;have hbi:=PySem.F.called_set.init.bind (.ref s.heap.objs.size)
   repeat (any_goals (first | assumption | wp_step))
   refine codeAny_mono (codeAny_call_builtin (R:=wants (fun r s₂=>r=.none/\∃h' tk us,s₂={s with heap:=h',toks:=tk}/\iu prog w h' s.heap.objs.size us/\us.length<=ns.length/\(∀j,j∈us↔j∈ns)/\
     (∀b o,b<s.heap.objs.size->s.heap.get? b=some o->h'.get? b=some o)) E) PySem.F.called_set.init.plain PySem.F.entry_set_init (check_set_init_1 hT ?_)) fun r₂ s₂ hr₂=>?_
   ·obtain⟨ol,hol,hcl,nl,hdl⟩:=hl;obtain⟨ocls,odict,odata,oslots⟩:=ol;simp only at hcl hdl;subst hcl;subst hdl;have hol':(s.heap.push {cls:=.type "set",dict:=none,data:=.set #[] 0 (.fresh 0 0 led)}).get? l=some {cls:=.type "tuple",dict:=odict,data:=.seq items nl,slots:=oslots}:=fg _ hol;have hsls:=PySem.F.sub_tuple_set;have hslf:=PySem.F.sub_tuple_frozenset;have hne:(Value.type "tuple"==Value.type "dict")=false:=by decide
    have hl1:(s.heap.push {cls:=.type "set",dict:=none,data:=.set #[] 0 (.fresh 0 0 led)}).IsTuple l items:=⟨_,hol',rfl,nl,rfl⟩;unfold Builtin.«set.__init__» noKeywords Builtin.Frozenset.updateFrom;generalize hPI:pyIter=PI
    wp_walk
    subst hPI;refine wpAny_pyIter_tuple hl1 ?_;refine de (wpAny_runValue ?_);have hlS:l<s.heap.objs.size:=fw hol;have hh3:A.in1.in1.in1.handled=none:=by simp[hh]
    have hneI:l≠(s.heap.push {cls:=.type "set",dict:=none,data:=.set #[] 0 (.fresh 0 0 led)}).objs.size:=by rw[Heap.size_push];exact kt (Nat.lt_succ_of_lt hlS)
    have hSf:s.heap.objs.size∉ [(s.heap.push {cls:=.type "set",dict:=none,data:=.set #[] 0 (.fresh 0 0 led)}).objs.size,l]:=by rw[Heap.size_push];simp only[List.mem_cons,bd,List.not_mem_nil,or_false,not_or];exact⟨kt (Nat.lt_succ_self _),Nat.ne_of_gt hlS⟩
    have hval:∀(i:Nat) (v:Value),items[i]? =some v->∃t,v=.int ((fun i=>ns.getD i 0) i) t:=fun i v hv=>
     IntsAre.int_at hi i v (by rw[Array.getElem?_toList];exact hv)
    have hnl:ns.length=items.size:=by rw[<-IntsAre.length hi,Array.length_toList]
    refine mq ((Walks.tuple hh3 _ l hneI items).toS) s.heap.objs.size hSf (fun i=>ns.getD i 0) hval hb (items.size-0) 0 _ [] (by omega) (Nat.zero_le _)
     ⟨⟨_,fm _ rfl,rfl,rfl⟩,(hl1.push _)⟩ ?hS0 (Nat.zero_le _) (fun j=>by simp) ?hR
    case hS0=>
     have hget:((s.heap.push {cls:=.type "set",dict:=none,data:=.set #[] 0 (.fresh 0 0 led)}).push {cls:=.type "tuple_iterator",data:=.fields #[.ref l,.int 0 0]}).get? s.heap.objs.size
       =some {cls:=.type "set",dict:=none,data:=.set #[] 0 (.fresh 0 0 led)}:=fg _ hS
     exact⟨#[],0,.fresh 0 0 led,⟨_,hget,⟨rfl,rfl,rfl⟩,rfl⟩,by rfl,⟨rfl,fun _ i k _ hk=>by simp[SetTable.fresh]at hk⟩,kc,fun e he=>by simp at he,.nil,List.nodup_nil⟩
    case hR=>
     intro s' us hm hS' hlen hmem;obtain⟨h',g',d',tk',os'⟩:=s';have eg:g'=s.gens:=hm.gens;have ed:d'=s.drawn:=hm.drawn;have eo:os'=s.os:=hm.os;subst eg;subst ed;subst eo;show wpAny _ _ _ _ _ _;refine dL ?_;show wpAny _ _ (ret Value.none) _ _ _;refine dL ⟨rfl,h',tk',us,rfl,hS',by omega,fun j=>?_,fun b o hb e=>?_⟩
     ·rw[hmem];constructor
      ·rintro⟨m,h1,h2⟩;have hm':m<ns.length:=by omega
       rw[<-h2];show ns.getD m 0∈ns;rw[List.getD_eq_getElem?_getD,ac hm'];exact bi hm'
      ·intro hj;obtain⟨m,hm',e⟩:=List.getElem_of_mem hj;refine⟨m,by omega,?_⟩;show ns.getD m 0=j;rw[List.getD_eq_getElem?_getD,ac hm'];exact e
     have hb1:b≠s.heap.objs.size:=kt hb;have hb2:b≠(s.heap.push {cls:=.type "set",dict:=none,data:=.set #[] 0 (.fresh 0 0 led)}).objs.size:=by rw[Heap.size_push];exact kt (Nat.lt_succ_of_lt hb)
     exact hm.heap b o (by simp only[List.mem_cons,bd,List.not_mem_nil,or_false,not_or];exact⟨hb1,hb2⟩) (fg _ (fg _ e))
   ·cases r₂ with
    | error e=>exact hr₂
    | ok fl₂=>
     cases fl₂ with
     | ret r=>
      obtain⟨rfl,h',tk,us,rfl,hS',h1',h2',hk'⟩:=hr₂
      repeat (any_goals (first | assumption | wp_step))
      exact h _ _ us hS' h1' h2' hk'
     | _=>exact hr₂.elim
end
end SF
namespace L2
open PySem PySem.Spec PyProof.Rows
section
variable {X:Cx}
theorem Dg{h:Heap}{a:Addr}{its:Array Value}(x:IsTup h a its):h.IsTuple a its:=by obtain⟨o,ho,hc,n,hd⟩:=x;exact⟨o,ho,hc,n,hd⟩
inductive pL(K:gt)(P:Program)(w:World)(xs:List V)(H:Hp)(Q:VK):Prop
 | mk (p:Addr) (ns:List Int) (_:xs=[.ref p]) (_:bp K H p (ns.map V.int)) (_:ns.length<4000) (_:∀(l:Addr) (us:List Int),H l=none->us.length<=ns.length->us.Nodup->(∀j,j∈us↔j∈ns)->Q (.ref l) (upd H l (qR P w l us)))
theorem tu(hc:X.calm=true):eL X (.type "set") (pL X.K X.prog X.w):=by
 intro kb s σ H xs R5 Q I r h;obtain⟨p,ns,rfl,hp,hz,q⟩:=h;obtain⟨u,rfl,ru⟩:=vals1 r;cases ru;obtain⟨its,hv,pl,_⟩:=I.tuple hp;have hi:=intsAre_of hv;have hl:its.length=ns.length:=IntsAre.length hi;refine SF.AW (I.ok.hd hc) (items:=its.toArray) (ns:=ns) (Dg pl) (by simpa using hi) (by rw[ar,hl];unfold scanBound;omega) fun h' tk us hS h1 h2 hk=>?_;have hn:us.Nodup:=by obtain⟨_,_,_,_,_,_,_,_,_,hn⟩:=hS;exact hn
 refine⟨.ref s.heap.objs.size,upd H s.heap.objs.size (qR X.prog X.w s.heap.objs.size us),I.laid (fun b o e=>hk b o (fw e) e) (ki _) ?_,rfl,q _ us I.fresh h1 hn h2⟩;exact⟨hS,pE hS,fun h1 h2 x e=>SF.iu.at x e⟩
end
open PySem PySem.W PySem.Spec PySem.Calls PyProof.Rows
abbrev NK:=Int×List (Option Int)
section
variable {P:Program}{w:World}
def jv(P:Program)(w:World)(h:Heap)(k:NK)(a:Addr):Prop:=∃o t b n,h.get? a=some o/\o.cls=.type "tuple"/\o.data=.seq #[.int k.1 t,.ref b] n/\IsTupleKey (optKind P w) h k.2 b
def xm(P:Program)(w:World)(k:NK):Int:=reduceHash (Builtin.Tuple.tupleHashOf [(optKind P w).hash (some k.1),tupleKeyHash (optKind P w) k.2])
theorem jv.typeIs{s:Shared}{k:NK}{a:Addr}(x:jv P w s.heap k a):s.TypeIs (.ref a) "tuple":=let ⟨o,_,_,_,ho,hc,_⟩:=x;⟨o,ho,hc⟩
theorem jv.inj{h:Heap}{a:Addr}{x y:NK}(hx:jv P w h x a)(hy:jv P w h y a):x=y:=by
 obtain⟨o,t,b,n,ho,_,hd,hi⟩:=hx;obtain⟨o',t',b',n',ho',_,hd',hi'⟩:=hy;obtain rfl:o=o':=Option.some.inj (ho.symm.trans ho');rw[hd]at hd';injection hd' with h1 _
 have h2:=congrArg Array.toList h1;simp at h2;obtain⟨⟨e1,_⟩,e2⟩:=h2;subst e2;exact Prod.ext e1 (hi.inj hi')
theorem jv.keeps{h h':Heap}{k:NK}{a d:Addr}{o:Obj}{es ep}(x:jv P w h k a)(ho:h.get? d=some o)(hd:o.data=.dict es ep)(hs:Heap.SameBut d h h'):jv P w h' k a:=by
 obtain⟨o',t,b,n,ho',hc,hd',hi⟩:=x;have hne:a≠d:=by rintro rfl;obtain rfl:o'=o:=Option.some.inj (ho'.symm.trans ho);rw[hd]at hd';exact nomatch hd'
 exact⟨o',t,b,n,(hs.2 a hne).trans ho',hc,hd',hi.keeps ho hd hs⟩
variable {A:Around}{E:Value->Shared->Prop}{s:Shared}
theorem AX{k:NK}{a:Addr}{Q:Int->Shared->Prop}(hu:A.units+1<cLine)(hk:jv P w s.heap k a)(h:Q (xm P w k) {s with toks:=s.toks+(k.2.length+3)}):wpAny (model P w) A (pyHash (.ref a)) Q E s:=by
 have hT:=hk.typeIs;obtain⟨o,t,b,n,ho,_,hd,hi⟩:=hk;have hu':A.units<cLine:=by omega
 unfold pyHash
 first | unfold pyHashByItsType | skip
 first | refine de (wpAny_cRoomFor_or (.inr hu') ?_) | skip
 refine de (wpAny_specialOf hT PySem.F.slot_tuple_hash.lookup ?_);show wpAny _ _ (if (some (Value.builtin "tuple.__hash__")==some Value.none)=true then _ else _) Q E s;rw[if_neg (by rw[beq_builtin_none];exact lm)];refine de (wpAny_specialOf hT PySem.F.slot_tuple_hash.lookup ?_);show wpAny _ _ (callSpecialIfBoundUnlessNone? (.ref a) "__hash__" _>>=_) Q E s;refine de (wpAny_callSpecialIfBoundUnlessNone?_slot hT PySem.F.slot_tuple_hash (ff PySem.F.slot_tuple_hash hT PySem.F.entry_tuple_hash ?_ (PySem.F.args_tuple_hash_1 _)));show wpAny _ _ (Builtin.Tuple.tupleItemsOf (.ref a)>>=_) _ _ s;refine de (wpAny_tupleItemsOf ho hd ?_);refine de ?_;rw[<-Array.forIn_toList];refine wpAny_forIn_list _
  (fun rest (c:Array Int) s'=>(rest=[Value.int k.1 t,.ref b]/\c.toList=[]/\s'=s)\/(rest=[Value.ref b]/\c.toList=[(optKind P w).hash (some k.1)]/\s'={s with toks:=s.toks+1})\/(rest=[]/\c.toList=[(optKind P w).hash (some k.1),tupleKeyHash (optKind P w) k.2]/\s'={s with toks:=s.toks+1+(k.2.length+1)}))
  _ ?_ ?_ _ _ (.inl ⟨rfl,rfl,rfl⟩)
 ·rintro x rest c s' (⟨e,hc,rfl⟩ | ⟨e,hc,rfl⟩ | ⟨e,_⟩)
  ·obtain⟨rfl,rfl⟩:=List.cons.inj e;have h1:(optKind P w).is (some k.1) (Value.int k.1 t)=true:=by show C5 (some k.1) (Value.int k.1 t)=true;simp[C5,Value.isInt]
   refine de ((optKind P w).pyHash h1 ?_)
   first
    | exact dL (.inr (.inl ⟨rfl,by simp[hc],rfl⟩))
    | exact de (dL (dL (.inr (.inl ⟨rfl,by simp[hc],rfl⟩))))
  ·obtain⟨rfl,rfl⟩:=List.cons.inj e;refine de (wpAny_pyHash_tuple (knd:=optKind P w) (by show A.units+1<cLine;exact hu) hi ?_)
   first
    | exact dL (.inr (.inr ⟨rfl,by simp[hc],rfl⟩))
    | exact de (dL (dL (.inr (.inr ⟨rfl,by simp[hc],rfl⟩))))
  ·cases e
 ·rintro c s' (⟨e,_⟩ | ⟨e,_⟩ | ⟨_,hc,rfl⟩)
  ·cases e
  ·cases e
  show wpAny _ _ (retInt (Builtin.Tuple.tupleHashOf c.toList)) _ _ _;rw[hc];refine wpAny_ret_mkInt ?_;generalize hx:Builtin.Tuple.tupleHashOf [(optKind P w).hash (some k.1),tupleKeyHash (optKind P w) k.2]=x;show wpAny _ _ (if (decide (-(2:Int)^63<=x)&&decide (x<2^63))=true then _ else _) Q E _;unfold xm reduceHash at h;rw[hx]at h;have et:s.toks+1+(k.2.length+1)+1=s.toks+(k.2.length+3):=by omega
  by_cases hr:(decide (-(2:Int)^63<=x)&&decide (x<2^63))=true
  ·rw[if_pos hr];rw[if_pos hr]at h;exact dL (by rw[<-et]at h;exact h)
  ·rw[if_neg hr];rw[if_neg hr]at h;exact de (wpAny_rule (dL (by rw[<-et]at h;exact h)))
theorem xq{x y:NK}{a b:Addr}{R:Fin->Shared->Prop}(hu:A.units<cLine)(hx:jv P w s.heap x a)(hy:jv P w s.heap y b)(h:R (.done (.ret (.bool (decide (x=y))))) s):
  wpAny (model P w) A (Builtin.«tuple.__eq__» ⟨[.ref a,.ref b],[]⟩) R E s:=by
 have hTb:=hy.typeIs;obtain⟨oa,ta,ba,na,hoa,_,hda,hia⟩:=hx;obtain⟨ob,tb,bb,nb,hob,_,hdb,hib⟩:=hy;show wpAny _ _ (isInstance (.ref b) (.type "tuple")>>=_) _ _ s;refine de (wpAny_isInstance hTb isSubtype_tuple_tuple ?_);simp only[Bool.not_true,Bool.false_eq_true,if_false];refine de (wpAny_tupleItemsOf hoa hda ?_);refine de (wpAny_tupleItemsOf hob hdb ?_);refine de ?_;refine wpAny_forIn_list _
  (fun rest r s'=>r.1=none/\s'=s/\((rest=[(Value.int x.1 ta,Value.int y.1 tb),(.ref ba,.ref bb)])\/(rest=[(Value.ref ba,Value.ref bb)]/\x.1=y.1)\/(rest=[]/\x=y)))
  _ ?_ ?_ _ _ ⟨rfl,rfl,.inl rfl⟩
 ·rintro⟨u,v⟩ rest r s' ⟨hr,rfl,(e | ⟨e,e1⟩ | ⟨e,_⟩)⟩
  ·obtain⟨e1,rfl⟩:=List.cons.inj e;obtain⟨rfl,rfl⟩:=Prod.mk.inj e1;have h1:(optKind P w).is (some x.1) (Value.int x.1 ta)=true:=by show C5 (some x.1) (Value.int x.1 ta)=true;simp[C5,Value.isInt]
   have h2:(optKind P w).is (some y.1) (Value.int y.1 tb)=true:=by show C5 (some y.1) (Value.int y.1 tb)=true;simp[C5,Value.isInt]
   refine de ((optKind P w).eqBool (a:=some x.1) (b:=some y.1) h1 h2 ?_);by_cases hk:x.1=y.1
   ·rw[decide_eq_true (by rw[hk])];simp only[Bool.not_true,Bool.false_eq_true,if_false];exact dL ⟨rfl,rfl,.inr (.inl ⟨by trivial,hk⟩)⟩
   ·rw[decide_eq_false (fun z=>hk (Option.some.inj z))];simp only[Bool.not_false,if_true];rw[decide_eq_false (fun z=>hk (by rw[z]))]at h;exact de (dL (dL (dL h)))
  ·obtain⟨e2,rfl⟩:=List.cons.inj e;obtain⟨rfl,rfl⟩:=Prod.mk.inj e2;refine de (wpAny_eqBool_tuple (knd:=optKind P w) hu hia hib ?_);by_cases hk:x.2=y.2
   ·rw[decide_eq_true hk];simp only[Bool.not_true,Bool.false_eq_true,if_false];exact dL ⟨rfl,rfl,.inr (.inr ⟨by trivial,Prod.ext e1 hk⟩)⟩
   ·rw[decide_eq_false hk];simp only[Bool.not_false,if_true];rw[decide_eq_false (fun z=>hk (by rw[z]))]at h;exact de (dL (dL (dL h)))
  ·cases e
 ·rintro⟨r1,r2⟩ s' ⟨hr,rfl,(e | ⟨e,_⟩ | ⟨_,e⟩)⟩
  ·cases e
  ·cases e
  simp only at hr;subst hr;refine dL ?_;show R (.done (.ret (.bool true))) s';rw[decide_eq_true e]at h;exact h
theorem AY{x y:NK}{a b:Addr}{Q:Bool->Shared->Prop}(hu:A.units+1<cLine)(hx:jv P w s.heap x a)(hy:jv P w s.heap y b)(h:Q (decide (x=y)) s):wpAny (model P w) A (eqBool (.ref a) (.ref b)) Q E s:=by
 unfold eqBool
 try with_reducible refine wpAny_holding ?_
 show wpAny _ _ (if (Value.ref a==Value.ref b)=true then _ else _) Q E s;by_cases hab:(Value.ref a==Value.ref b)=true
 ·rw[if_pos hab];have e:a=b:=by have:=eq_of_beq hab;injection this
  subst e;obtain rfl:=hx.inj hy;exact de (wpAny_rule (dL (by simpa using h)))
 ·rw[if_neg hab]
  exact de (wpAny_richCompare_same_room (op:=.Eq) hx.typeIs hy.typeIs PySem.F.slot_tuple_eq
   (ff PySem.F.slot_tuple_eq hx.typeIs PySem.F.entry_tuple_eq (xq (by show A.units+1<cLine;exact hu) hx hy ⟨_,rfl,(fun e=>nomatch e),wpAny_truthy_bool h⟩) (PySem.F.args_tuple_eq_2 _ _)) (by omega))
theorem Kh{ks:List (Option Int)}{a:Addr}{Q:Bool->Shared->Prop}(hk:IsTupleKey (optKind P w) s.heap ks a)(h:Q true s):wpAny (model P w) A (eqIsQuiet 7 (.ref a)) Q E s:=by
 have hT:=hk.typeIs;obtain⟨o,items,n,ho,_,hd,hi⟩:=hk;unfold eqIsQuiet;refine de (wpAny_specialOf hT PySem.F.slot_tuple_eq.lookup ?_);show wpAny _ _ (isInstance (.ref a) (.type "tuple")>>=_) _ _ s;refine de (wpAny_isInstance hT isSubtype_tuple_tuple ?_);simp only[Bool.not_true,Bool.false_eq_true,if_false];refine de (wpAny_seqItems ho hd ?_);refine de ?_;show wpAny _ _ (forIn items _ _) _ _ s;rw[<-Array.forIn_toList];refine wpAny_forIn_list _ (fun rest r s'=>r.1=none/\s'=s/\∀v∈rest,carriedByValue v=true) _ ?_ ?_ _ _ ⟨rfl,rfl,hi.byValue⟩
 ·rintro v rest r s' ⟨hr,rfl,hall⟩;rw[eqIsQuiet_byValue _ (hall v List.mem_cons_self)];refine de (dL ?_);simp only[Bool.not_true,Bool.false_eq_true,if_false];exact dL ⟨rfl,rfl,fun u hu'=>hall u (List.mem_cons_of_mem _ hu')⟩
 ·rintro⟨r1,r2⟩ s' ⟨hr,rfl,_⟩;simp only at hr;subst hr;exact dL h
theorem Dh{k:NK}{a:Addr}{Q:Bool->Shared->Prop}(hk:jv P w s.heap k a)(h:Q true s):wpAny (model P w) A (eqIsQuiet 8 (.ref a)) Q E s:=by
 have hT:=hk.typeIs;obtain⟨o,t,b,n,ho,_,hd,hi⟩:=hk;unfold eqIsQuiet;refine de (wpAny_specialOf hT PySem.F.slot_tuple_eq.lookup ?_);show wpAny _ _ (isInstance (.ref a) (.type "tuple")>>=_) _ _ s;refine de (wpAny_isInstance hT isSubtype_tuple_tuple ?_);simp only[Bool.not_true,Bool.false_eq_true,if_false];refine de (wpAny_seqItems ho hd ?_);refine de ?_;show wpAny _ _ (forIn #[Value.int k.1 t,Value.ref b] _ _) _ _ s;rw[<-Array.forIn_toList];refine wpAny_forIn_list _ (fun rest r s'=>r.1=none/\s'=s/\(rest=[Value.int k.1 t,Value.ref b]\/rest=[Value.ref b]\/rest=[])) _ ?_ ?_ _ _ ⟨rfl,rfl,.inl rfl⟩
 ·rintro v rest r s' ⟨hr,rfl,(e | e | e)⟩
  ·obtain⟨rfl,rfl⟩:=List.cons.inj e;rw[eqIsQuiet_byValue _ (show carriedByValue (Value.int k.1 t)=true from rfl)];refine de (dL ?_);simp only[Bool.not_true,Bool.false_eq_true,if_false];exact dL ⟨rfl,rfl,.inr (.inl (by trivial))⟩
  ·obtain⟨rfl,rfl⟩:=List.cons.inj e;refine de (Kh hi ?_);simp only[Bool.not_true,Bool.false_eq_true,if_false];exact dL ⟨rfl,rfl,.inr (.inr (by trivial))⟩
  ·cases e
 ·rintro⟨r1,r2⟩ s' ⟨hr,rfl,_⟩;simp only at hr;subst hr;exact dL h
end
def jJ(P:Program)(w:World):HeapKind P w NK where
 is:=jv P w
 hash:=xm P w
 draws:=fun k=>k.2.length+3
 room:=fun A=>A.units+1<cLine
 inj:=fun hx hy=>hx.inj hy
 keeps:=fun x ho hd hs=>x.keeps ho hd hs
 pyHash:=fun hu hk h=>AX hu hk h
 eqBool:=fun hu hx hy h=>AY hu hx hy h
 quiet:=fun hk h=>Dh hk h
def tD(H:Hp)(k:NK)(a:Addr):Prop:=∃b,H a=some (.tup [.int k.1,.ref b])/\H b=some (.tup (k.2.map oV))
theorem Di{P:Program}{w:World}:∀{ks:List (Option Int)} {us:List Value},Vals (ks.map oV) us->ItemsAre (optKind P w) ks us
 | [],_,r=>by rw[List.map_nil]at r;cases r;exact .nil
 | k::ks,_,r=>by
  rw[cp]at r;cases r with
  | cons h t=>exact .cons (OO h) (Di t)
theorem tD.is{P:Program}{w:World}{H:Hp}{h:Heap}{k:NK}{a:Addr}(ok:ji P w H h)(e:tD H k a):jv P w h k a:=by obtain⟨b,e1,e2⟩:=e;obtain⟨_,its,r,o,h1,h2,n,h3⟩:=(show bJ P w H h a (.tup [.int k.1,.ref b])from ok a _ e1);obtain⟨_,its',r',o',g1,g2,n',g3⟩:=(show bJ P w H h b (.tup (k.2.map oV))from ok b _ e2);obtain⟨u,v,rfl,ru,rv⟩:=vals2 r;obtain⟨t,rfl⟩:=(show ∃t,u=Value.int k.1 t from ru);obtain rfl:v=Value.ref b:=rv;exact⟨o,t,b,n,h1,h2,h3,o',its'.toArray,n',g1,g2,g3,by simpa using Di r'⟩
abbrev AZ(x:NK×Addr):NK×Addr×Value:=(x.1,x.2,Value.bool true)
def dN(P:Program)(w:World)(l:Addr)(xs:List (NK×Addr)):HO:=.ext fun h=>(l==sysModules)=false/\xs.length<=em/\∃o es ep,h.get? l=some o/\o.ExactDict/\o.data=.dict es ep/\es.toList=(xs.map AZ).map (entryOfKey (jJ P w))/\(xs.map (·.1)).Nodup
def eP(P:Program)(w:World)(H:Hp)(l:Addr)(xs:List (NK×Addr)):Prop:=H l=some (dN P w l xs)/\∀x∈xs,tD H x.1 x.2
def putN(xs:List (NK×Addr))(k:NK)(a:Addr):List (NK×Addr):=if k∈xs.map (·.1)then xs else xs++ [(k,a)]
theorem Dj(xs:List (NK×Addr))(k:NK):(atKey (xs.map AZ) k).isSome=decide (k∈xs.map (·.1)):=by
 unfold atKey;rw[Option.isSome_map,Bool.eq_iff_iff,List.find?_isSome,decide_eq_true_iff];constructor
 ·rintro⟨x,hx,e⟩;obtain⟨y,hy,rfl⟩:=List.mem_map.mp hx;rw[<-of_decide_eq_true e];exact List.mem_map.mpr ⟨y,hy,rfl⟩
 ·intro hk;obtain⟨y,hy,rfl⟩:=List.mem_map.mp hk;exact⟨AZ y,List.mem_map.mpr ⟨y,hy,rfl⟩,decide_eq_true rfl⟩
theorem A0(xs:List (NK×Addr))(k:NK)(a:Addr):storedH (xs.map AZ) k a (Value.bool true)=(putN xs k a).map AZ:=by
 unfold storedH putN;rw[Dj];by_cases h:k∈xs.map (·.1)
 ·rw[if_pos (decide_eq_true h),if_pos h,List.map_map];refine List.map_congr_left fun x _=>?_;show(if x.1=k then (x.1,x.2,Value.bool true)else AZ x)=AZ x;split<;>rfl
 ·rw[if_neg (by simpa using h),if_neg h,List.map_append];rfl
theorem zr(xs:List (NK×Addr)):(xs.map AZ).map (·.1)=xs.map (·.1):=by rw[List.map_map];rfl
theorem IB{P:Program}{w:World}{H:Hp}{h:Heap}{l:Addr}{xs:List (NK×Addr)}(a:(l==sysModules)=false)(b:xs.length<=em)(d:h.DictOfH (jJ P w) l (xs.map AZ)):bJ P w H h l (dN P w l xs):=by obtain⟨o,es,ep,g,g2,g3,g4,_,g5⟩:=d;refine⟨⟨a,b,o,es,ep,g,g2,g3,g4,by rw[<-zr];exact g5⟩,⟨o,g⟩,?_⟩;rintro h1 h2 ⟨a',b',o,es,ep,g,r⟩ e;exact⟨a',b',o,es,ep,e _ g,r⟩
theorem O0{P:Program}{w:World}{H:Hp}{h:Heap}{a:Addr}{xs:List (NK×Addr)}(ok:ji P w H h)(e:eP P w H a xs):(a==sysModules)=false/\xs.length<=em/\h.DictOfH (jJ P w) a (xs.map AZ):=by obtain⟨a1,a2,o,es,ep,g,g2,g3,g4,g5⟩:=(show bJ P w H h a (dN P w a xs)from ok a _ e.1).1;refine⟨a1,a2,o,es,ep,g,g2,g3,g4,fun x hx=>?_,by rw[zr];exact g5⟩;obtain⟨y,hy,rfl⟩:=List.mem_map.mp hx;exact(e.2 y hy).is ok
theorem tD.upd{H:Hp}{k:NK}{a p:Addr}{o o':HO}(e:tD H k a)(h:H p=some o)(n:∀xs,o≠.tup xs):tD (upd H p o') k a:=by obtain⟨b,e1,e2⟩:=e;exact⟨b,by rw[az (jy e1 h (fun z=>n _ z.symm))];exact e1,by rw[az (jy e2 h (fun z=>n _ z.symm))];exact e2⟩
section
variable {X:Cx}{pos pos':Pos}{o i value:Expr}{td ty tv:TE}
def O1(P:Program)(w:World):TE:=fun _ H Q=>∀p,H p=none->Q (.ref p) (upd H p (dN P w p []))
theorem Gn:PE X (.Dict [] [] pos) (O1 X.prog X.w):=fun kb s σ H Q I h=>
 wpAny_Dict_empty ⟨.ref s.heap.objs.size,_,I.laid (a:=s.heap.objs.size) (o:=dN X.prog X.w s.heap.objs.size []) (t':=s.toks) (fun _ _ q=>fg _ q) (ki _)
  (IB (beq_eq_false_iff_ne.mpr (Ne.symm (kt I.big))) (Nat.zero_le _) (Heap.DictOfH.new s.heap)),rfl,h _ (I.hok.fresh (ki _))⟩
def O2(P:Program)(w:World)(td ty tv:TE):TS:=fun D σ H=>tv σ H fun v H1=>td σ H1 fun x H2=>ty σ H2 fun y H3=>∃a b xs k,v=.bl true/\x=.ref a/\y=.ref b/\eP P w H3 a xs/\tD H3 k b/\xs.length<em/\D.nx σ (upd H3 a (dN P w a (putN xs k b)))
theorem Gp(hu:X.A.units+2<cLine)(ho:PE X o td)(hi:PE X i ty)(hv:PE X value tv)(hs:swapsWith value (some (.Subscript o i pos')) pos.line X.env=pure false):PS X (.Assign [.Subscript o i pos'] value pos) (O2 X.prog X.w td ty tv):=by
 intro kb s σ H D I h;refine wpAny_Assign_Subscript (cz (hv kb s σ H _ I h) fun r s1 ⟨v,H1,I1,rv,q1⟩=>cz (ho kb s1 σ H1 _ I1 q1) fun u s2 ⟨x,H2,I2,rx,q2⟩=>cz (hi kb s2 σ H2 _ I2 q2) fun iv s3 ⟨y,H3,I3,ry,a,b,xs,k,ev,ex,ey,e,ek,l,q3⟩=>?_) hs;subst ev ex ey;obtain rfl:u=Value.ref a:=rx;obtain rfl:iv=Value.ref b:=ry;obtain rfl:r=Value.bool true:=rv;obtain⟨z1,z2,dd⟩:=O0 I3.hok e;refine wpAny_setItem_heap (knd:=jJ X.prog X.w) (hsz:=by rw[List.length_map];exact z2) (by show X.A.units+1+1<cLine;exact hu) (ek.is I3.hok) dd fun h' AG hs=>?_;have he:∃q,h'.get? a=some q:=by obtain⟨q,_,_,hq,_⟩:=AG;exact⟨q,hq⟩
 rw[A0]at AG;have hl:(putN xs k b).length<=em:=by
  unfold putN;split
  ·exact z2
  ·rw[av];exact l
 exact⟨σ,_,oA I3 (by rw[e.1];exact True.intro) hs he (IB z1 hl AG),q3⟩
variable {A:Around}{E:Value->Shared->Prop}{s:Shared}{P:Program}{w:World}
theorem Dk{it d:Addr}{i ep:Nat}{od:Obj}{es:Array DictEntry}{Q:Option Value->Shared->Prop}(hit:s.heap.IsKeyIter it d i es.size ep)(g:s.heap.get? d=some od)(g2:od.data=.dict es ep)(hi:i<es.size)
  (q:∀h',h'.IsKeyIter it d (i+1) es.size ep->Heap.SameBut it s.heap h'->Q (some es[i].key) {s with heap:=h'}):wpAny (model P w) A (pyNext (.ref it)) Q E s:=by
 have T:=hit.typeIs;obtain⟨o,e1,e2,e3⟩:=id hit;unfold pyNext;refine de (wpAny_attempt (wpAny_callSpecial?_slot (name:=Str.ofString "__next__") T F.slot_dict_keyiterator_next (ff F.slot_dict_keyiterator_next T F.entry_dict_keyiterator_next ?_ (F.args_dict_keyiterator_next_1 _))));refine de (dL (de (de ?_)))
 first | refine de (wpAny_typeNameOfWhole_keyiter T (dL ?_)) | refine de (wpAny_typeNameOf_keyiter T (dL ?_))
 refine de (wpAny_fieldsOf e1 e3 ?_);simp only[show Builtin.Dict_items.ownsTuple "dict_keyiterator"=false from by decide,Bool.false_eq_true,if_false];show wpAny _ _ (if (Value.ref d==Value.none)=true then _ else _) _ _ s;rw[if_neg (c:=(Value.ref d==Value.none)=true) (fun z=>lm z)];refine de (dL (de (wpAny_dictEntries g g2 ?_)));rw[if_neg (by simp)];refine de (dL (de (wpAny_dictEpoch g g2 ?_)));rw[if_neg (by simp)];refine dL ?_;have hn:¬((i:Int)<0):=by omega
 simp only[hn,if_false,lv,Array.getElem?_eq_getElem hi];refine de ?_
 first | refine de (wpAny_typeNameOfWhole_keyiter T (dL ?_)) | refine de (wpAny_typeNameOf_keyiter T (dL ?_))
 refine de (wpAny_isOneOf_keyiter T ?_);show wpAny _ _ (setField (.ref it) 1 (rawInt ((i:Int)+1))>>=_) _ _ s;refine de (wpAny_setField e1 e3 (by simp) ?_);have n:(s.heap.update it (Obj.mapFields (·.setIfInBounds 1 (rawInt ((i:Int)+1))))).IsKeyIter it d (i+1) es.size ep :=
  ⟨_,Heap.get?_update_self _ e1 (Obj.isFreed_of_fields (Obj.data_mapFields e3 _)),(Obj.cls_mapFields ..).trans e2,by rw[Obj.data_mapFields e3];simp[rawInt]⟩
 refine de (wpAny_holding (de (wpAny_isOneOf_keyiter (s:={s with heap:=s.heap.update it (Obj.mapFields (·.setIfInBounds 1 (rawInt ((i:Int)+1))))}) n.typeIs ?_)));show wpAny _ _ (pure es[i].key) _ _ _;exact dL (dL ⟨_,rfl,dL (q _ n (Heap.SameBut.update ..))⟩)
theorem Gq{it d:Addr}{i ep:Nat}{od:Obj}{es:Array DictEntry}{Q:Option Value->Shared->Prop}(hh:A.handled=none)(hit:s.heap.IsKeyIter it d i es.size ep)(g:s.heap.get? d=some od)(g2:od.data=.dict es ep)(hi:es.size<=i)
  (q:∀h',Heap.ExtBut it s.heap h'->Q none {s with heap:=h'}):wpAny (model P w) A (pyNext (.ref it)) Q E s:=by
 have T:=hit.typeIs;obtain⟨o,e1,e2,e3⟩:=id hit;unfold pyNext;refine de (wpAny_attempt (wpAny_callSpecial?_slot (name:=Str.ofString "__next__") T F.slot_dict_keyiterator_next (ff F.slot_dict_keyiterator_next T F.entry_dict_keyiterator_next ?_ (F.args_dict_keyiterator_next_1 _))));refine de (dL (de (de ?_)))
 first | refine de (wpAny_typeNameOfWhole_keyiter T (dL ?_)) | refine de (wpAny_typeNameOf_keyiter T (dL ?_))
 refine de (wpAny_fieldsOf e1 e3 ?_);simp only[show Builtin.Dict_items.ownsTuple "dict_keyiterator"=false from by decide,Bool.false_eq_true,if_false];show wpAny _ _ (if (Value.ref d==Value.none)=true then _ else _) _ _ s;rw[if_neg (c:=(Value.ref d==Value.none)=true) (fun z=>lm z)];refine de (dL (de (wpAny_dictEntries g g2 ?_)));rw[if_neg (by simp)];refine de (dL (de (wpAny_dictEpoch g g2 ?_)));rw[if_neg (by simp)];refine dL ?_;have hn:¬((i:Int)<0):=by omega
 simp only[hn,if_false,lv,Array.getElem?_eq_none hi];refine de ?_
 first | refine de (wpAny_typeNameOfWhole_keyiter T (dL ?_)) | refine de (wpAny_typeNameOf_keyiter T (dL ?_))
 show wpAny _ _ (setField (.ref it) 0 .none>>=_) _ _ s;refine de (wpAny_setField e1 e3 (by simp) ?_);show wpAny _ _ (newExc (.type "StopIteration") [] >>=_) _ _ _;refine de ?_;simp only[newExc,newTuple];refine de (wpAny_newObj_type (de (m:=firstArgMember _ _) (wpAny_of_eq (a:=Value.none) (by first | rfl | (simp only[firstArgMember];rfl)) (wpAny_newObj_type ?_ (by size_fits)))) (by size_fits));simp only[raiseNew];refine de (wpAny_handled ?_);rw[show A.in1.handled=none from hh];refine de (dL (wpAny_throw ?_));refine de (wpAny_isInstance (b:=true) (T :="StopIteration") ⟨_,fm _ rfl,rfl⟩ isSubtype_stop ?_);exact dL (q _ (((Heap.SameBut.update ..).extBut.push _).push _))
theorem Dl{d:Addr}{ep:Nat}{od:Obj}{es:Array DictEntry}{Q:Value->Shared->Prop}(hd:(d==sysModules)=false)(g:s.heap.get? d=some od)(gc:od.ExactDict)(g2:od.data=.dict es ep)
  (q:Q (.ref s.heap.objs.size) {s with heap:=s.heap.push {cls:=.type "dict_keyiterator",data:=.fields #[.ref d,.int 0 0,.int es.size 0,.int ep 0]}}):wpAny (model P w) A (pyIter (.ref d)) Q E s:=by
 have T:s.TypeIs (.ref d) "dict":=⟨od,g,gc.1⟩;refine wpAny_pyIter_slot T F.slot_dict_iter (ff F.slot_dict_iter T F.entry_dict_iter ?_ (F.args_dict_iter_1 _));unfold Builtin.«dict.__iter__»;refine de ?_;unfold Builtin.Dict.dictSlotNone;refine de (wpAny_notOrdered_dict T ?_);show wpAny _ _ (pure (Value.ref d)) _ _ s;refine dL ?_;show wpAny _ _ (Builtin.Dict.showsAll d>>=_) _ _ s;unfold Builtin.Dict.showsAll;rw[if_neg (c:=(d==sysModules)=true) (fun z=>by rw[hd]at z;cases z)];refine de (dL (de (wpAny_dictEntries g g2 (de (wpAny_dictEpoch g g2 ?_)))));refine de (wpAny_newObj_type (dL ⟨_,rfl,"dict_keyiterator",_,⟨_,fm _ rfl,rfl⟩,F.slot_dict_keyiterator_next.lookup,?_⟩));simpa[rawInt] using q
variable {kb:List (Addr×Obj)}{σ:St}{H:Hp}{a:Addr}
theorem Inv.Gs{φ:Heap->Prop}(I:Inv X kb σ H s)(e:H a=some (.ext φ)):NF X a/\∃o,s.heap.get? a=some o/\Inv X kb σ (upd H a (.jg o (.ext φ))) s:=by
 obtain⟨z,⟨ob,g⟩,y⟩:=(show bJ X.prog X.w H s.heap a (.ext φ)from I.hok a _ e);refine⟨fun o u h=>?_,ob,g,?_⟩
 ·have:=I.base.mV a o u h;rw[e]at this;cases this
 ·exact I.write (x:=a) (e:=a) (h':=s.heap) (t':=s.toks) (by rw[e];exact True.intro) (.inl rfl) (fun b u _ q=>q) ⟨ob,g⟩ ⟨g,z,⟨ob,g⟩,y⟩
theorem Inv.O3{o:Obj}{φ:Heap->Prop}(I:Inv X kb σ H s)(e:H a=some (.jg o (.ext φ)))(n:NF X a):Inv X kb σ (upd H a (.ext φ)) s:=by
 have x:bJ X.prog X.w H s.heap a (.jg o (.ext φ)):=I.hok a _ e;have ne:∀b u,H b=some u->(∀o' u',u≠.jg o' u')->b≠a:=fun b u h hn=>jy h e (hn _ _);refine⟨I.ok,I.os,I.bare,⟨I.base.keep,I.base.slot,fun b ob q nb hx=>?_,I.base.there,fun b xs q=>?_,fun b ob u q=>?_,fun b ps q=>?_⟩,I.loc,I.cell,?_,fun y c hc=>?_,fun p hp=>?_,fun b u q=>?_,I.len⟩
 ·have h:=I.base.free b ob q nb hx;rw[az (fun z=>by rw[z,e]at h;cases h)];exact h
 ·have h:=I.base.tups b xs q;rw[az (ne b _ h (by intro _ _ z;cases z))];exact h
 ·have h:=I.base.mV b ob u q;have hb:b≠a:=fun z=>n ob u (by rw[<-z];exact q);rw[az hb];exact h
 ·obtain⟨more,h⟩:=I.base.qI b ps q;refine⟨more,?_⟩;rw[az (ne b _ h (by intro _ _ z;cases z))];exact h
 ·rw[az (fun z=>by have:=I.free;rw[z,e]at this;cases this)];exact I.free
 ·rw[az (fun z=>by have:=I.iJ y c hc;rw[z,e]at this;cases this)];exact I.iJ y c hc
 ·obtain⟨p1,p2,p3⟩:=I.pin p hp;refine⟨p1,?_,p3⟩;rw[az (fun z=>by rw[z,e]at p2;cases p2)];exact p2
 ·by_cases hb:b=a
  ·subst hb;rw[ai]at q;cases q;exact x.2.stay (fun c v _ q=>q) (fun c q=>by rw[az (ne c _ q (by intro _ _ z;cases z))];exact q) fun c xs q=>by rw[az (ne c _ q (by intro _ _ z;cases z))];exact q
  ·rw[az hb]at q;exact(I.hok b u q).stay (fun c v _ q=>q) (fun c q=>by rw[az (ne c _ q (by intro _ _ z;cases z))];exact q) fun c xs q=>by rw[az (ne c _ q (by intro _ _ z;cases z))];exact q
end
def Ki(X:Cx)(t:TS):TS:=fun D σ H=>t {D with nx:=fun σ' H'=>∃a o φ,H' a=some (.jg o (.ext φ))/\NF X a/\D.nx σ' (upd H' a (.ext φ))} σ H
theorem Dm{X:Cx}{st:Stmt}{t:TS}(h:PS X st t):PS X st (Ki X t):=fun kb s σ H D I hw=>
 en (h kb s σ H _ I hw) (fun f s' q=>by
  cases f with
  | next=>
   obtain⟨σ',H',I',a,o,kvs,ea,n,q⟩:=q;exact⟨σ',_,I'.O3 ea n,q⟩
  | brk=>exact q
  | cont=>exact q
  | ret u=>exact q) fun _ _ z=>z
def O4(P:Program)(w:World)(a:Addr)(o:Obj)(xs:List (NK×Addr)):It :=
 ⟨fun i H=>H a=some (.jg o (dN P w a xs))/\i<xs.length,fun i H x H'=>H'=H/\∃y,xs[i]? =some y/\x=.ref y.2,fun i H=>H a=some (.jg o (dN P w a xs))/\xs.length<=i⟩
theorem Kj{X:Cx}{kb:List (Addr×Obj)}{σ:St}{H:Hp}{s:Shared}{a:Addr}{o:Obj}{xs:List (NK×Addr)}(I:Inv X kb σ H s)(e:H a=some (.jg o (dN X.prog X.w a xs))):
  (a==sysModules)=false/\s.heap.get? a=some o/\o.ExactDict/\∃es ep,o.data=.dict es ep/\es.toList=(xs.map AZ).map (entryOfKey (jJ X.prog X.w)):=by
 obtain⟨g,⟨y,z,ob,es,ep,g',c1,c2,c3,_⟩,_⟩:=(show bJ X.prog X.w H s.heap a (.jg o (dN X.prog X.w a xs))from I.hok a _ e);rw[g]at g';cases g';exact⟨y,g,c1,es,ep,c2,c3⟩
theorem zt{P:Program}{w:World}{es:Array DictEntry}{xs:List (NK×Addr)}(h:es.toList=(xs.map AZ).map (entryOfKey (jJ P w))):es.size=xs.length:=by rw[<-Array.length_toList,h,List.length_map,List.length_map]
theorem Kk{P:Program}{w:World}{es:Array DictEntry}{xs:List (NK×Addr)}(h:es.toList=(xs.map AZ).map (entryOfKey (jJ P w))){i:Nat}{y:NK×Addr}(hy:xs[i]? =some y)(hi:i<es.size):es[i].key=Value.ref y.2:=by
 have e1:es.toList[i]? =some es[i]:=by rw[Array.getElem?_toList,Array.getElem?_eq_getElem hi]
 rw[h,ag,ag,hy]at e1;have e2:=Option.some.inj e1;rw[<-e2];rfl
theorem xr{P:Program}{w:World}{K:gt}{tg:Expr}(a it:Addr)(o:Obj)(xs:List (NK×Addr)){es:Array DictEntry}{ep:Nat}(ho:o.data=.dict es ep):
  Turn P w K tg (O4 P w a o xs) [it] it (fun i h=>h.IsKeyIter it a i es.size ep) where
 mem:=by simp
 obj:=fun i h st b hb=>by obtain⟨ob,eo,c,d⟩:=st;rw[bd.mp hb];exact⟨ob,eo,fun v z=>by rw[d]at z;cases z⟩
 keep:=fun i h h' st k=>st.at fun ob eo=>k it (by simp) ob eo
 item:=by intro X hP hw hK hc i kb s σ H E I hf st hg;subst hP hw hK;obtain⟨ha,hi⟩:=hg;obtain⟨y,g,gc,es',ep',ho',r⟩:=Kj I ha;rw[ho]at ho';cases ho';have hl:=zt r;have hk1:xs[i]? =some xs[i]:=ac hi;refine Dk st g ho (by rw[hl];exact hi) fun h' hit' hs'=>?_;rw[Kk r hk1];refine⟨_,rfl,?_⟩;obtain⟨ob',eo',c',d'⟩:=id hit';obtain⟨f0,f1,f2,f3,f4,f5⟩:=hf it (by simp);refine yO (n :="dict_keyiterator") eo' c' d' (by decide) ?_;exact⟨.ref xs[i].2,H,I.turned (t':=s.toks) (fun b o hb e=>(hs'.2 b hb).trans e) f0 f1 f3 f4 f5,rfl,⟨rfl,xs[i],hk1,rfl⟩,hit',fun b hb=>(hf b hb).1⟩
 done:=by intro X hP hw hK hc i kb s σ H E I hf st hg;subst hP hw hK;obtain⟨ha,hi⟩:=hg;obtain⟨y,g,gc,es',ep',ho',r⟩:=Kj I ha;rw[ho]at ho';cases ho';have hl:=zt r;obtain⟨f0,f1,f2,f3,f4,f5⟩:=hf it (by simp);exact Gq (I.ok.hd hc) st g ho (by rw[hl];exact hi) fun h' eb=>⟨rfl,I.turned (t':=s.toks) (fun b o hb e=>eb b o hb e) f0 f1 f3 f4 f5⟩
 self:=fun _ _ _ _ _ st h=>wpAny_pyIter_keyiter st h
def Kl(X:Cx)(td:TE):TI:=fun σ H R=>td σ H fun x H1=>∃a xs,x=.ref a/\H1 a=some (dN X.prog X.w a xs)/\∀o,NF X a->R (O4 X.prog X.w a o xs) (upd H1 a (.jg o (dN X.prog X.w a xs)))
theorem Dn{X:Cx}{tg e:Expr}{td:TE}(hd:PE X e td):PI X tg e (Kl X td):=by
 intro kb s σ H R I h;refine cz (hd kb s σ H _ I h) fun u s1 ⟨x,H1,I1,rx,a,xs,ex,ea,q⟩=>?_;subst ex;obtain rfl:u=Value.ref a:=rx;obtain⟨nf,o,ho,I2⟩:=I1.Gs ea;obtain⟨y,g,gc,es,ep,hod,r⟩:=Kj I2 (ai (H:=H1) (a:=a));refine Dl y g gc hod ?_;have hn:=I2.hok.fresh (ki s1.heap.objs.size);refine⟨s1.heap.objs.size,[s1.heap.objs.size],_,_,_,rfl,I2.kept (t':=s1.toks) (fun b o e=>fg _ e),xr a _ o xs hod,?_,fun b hb=>?_,q o nf⟩
 ·exact⟨_,fm _ rfl,rfl,rfl⟩
 ·rw[bd.mp hb];exact I2.wC (ki _) hn
theorem A1{P:Program}{w:World}{a:Addr}{o:Obj}{xs:List (NK×Addr)}{g:TG}{tb:TS}{D:Ends}{σ:St}{H:Hp}(Pv:Nat->St->Hp->Prop)(h0:Pv 0 σ H)(hl:∀i σ H,i<=xs.length->Pv i σ H->H a=some (.jg o (dN P w a xs)))
  (hs:∀i y σ H,xs[i]? =some y->Pv i σ H->g (.ref y.2) σ H fun σ2 H2=>tb {D with nx:=Pv (i+1),ct:=Pv (i+1),bk:=D.nx} σ2 H2) (hd:∀σ H,Pv xs.length σ H->D.nx σ H):
  ∃W:Nat->Nat->St->Hp->Prop,(∃m,W 0 m σ H)/\∀i m σ H,W i m σ H->
   ((O4 P w a o xs).stop i H/\D.nx σ H)\/((O4 P w a o xs).go i H/\∃N:St->Hp->Prop,(∀σ' H',N σ' H'->∃m',m'<m/\W (i+1) m' σ' H')/\∀x H',(O4 P w a o xs).B3 i H x H'->g x σ H' fun σ2 H2=>tb {D with nx:=N,ct:=N,bk:=D.nx} σ2 H2):=by
 refine⟨fun i m σ H=>m=xs.length-i/\i<=xs.length/\Pv i σ H,⟨xs.length,by simp,Nat.zero_le _,h0⟩,?_⟩;rintro i m σ H ⟨rfl,hi,p⟩;have q:=hl i σ H hi p;by_cases hlt:i<xs.length
 ·refine .inr ⟨⟨q,hlt⟩,Pv (i+1),fun σ' H' p'=>⟨xs.length- (i+1),by omega,rfl,hlt,p'⟩,fun x H' y=>?_⟩;obtain⟨rfl,v,e,rfl⟩:=y;exact hs i v σ _ e p
 ·have e:i=xs.length:=by omega
  subst e;exact .inl ⟨⟨q,ki _⟩,hd σ H p⟩
open PySem PySem.Spec PyProof.Rows
def Dp(K:gt)(a b:Addr):It :=
 ⟨fun i H=>∃xs x ys y,aR K H a xs/\xs[i]? =some x/\aR K H b ys/\ys[i]? =some y,
   fun i H v H'=>∃t x y,H t=none/\v=.ref t/\H'=upd H t (.tup [x,y])/\(∀xs,aR K H a xs->xs[i]? =some x)/\∀ys,aR K H b ys->ys[i]? =some y,
   fun i H=>∃xs ys,aR K H a xs/\aR K H b ys/\(xs.length<=i\/ys.length<=i)⟩
theorem A2{P:Program}{w:World}{K:gt}{elts:List Expr}{x1}{pos:Pos}(a b z TI TO i1 i2:Addr)(D:ZipApart z TI TO i1 i2 a b):
  Turn P w K (.Tuple elts x1 pos) (Dp K a b) [z,TI,TO,i1,i2] z (fun i h=>IsZip h z TI TO .none/\IsPair h TI (.ref i1) (.ref i2)/\(∃u v,IsPair h TO u v)/\h.IsListIter i1 a i/\h.IsListIter i2 b i) where
 mem:=by simp
 obj:=fun i h st c hc=>by
  obtain⟨s1,s2,⟨u,v,s3⟩,⟨o4,s4,_,d4⟩,⟨o5,s5,_,d5⟩⟩:=st;have hc':c=z\/c=TI\/c=TO\/c=i1\/c=i2:=by simpa using hc
  rcases hc' with rfl | rfl | rfl | rfl | rfl
  ·exact⟨_,s1,fun v q=>by have q':Data.fields _=Data.cell v:=q;cases q'⟩
  ·exact⟨_,s2,fun v q=>by have q':Data.seq _ _=Data.cell v:=q;cases q'⟩
  ·exact⟨_,s3,fun v q=>by have q':Data.seq _ _=Data.cell v:=q;cases q'⟩
  ·exact⟨o4,s4,fun v q=>by rw[d4]at q;cases q⟩
  ·exact⟨o5,s5,fun v q=>by rw[d5]at q;cases q⟩
 keep:=fun i h h' st k=>⟨k z (by simp) _ st.1,k TI (by simp) _ st.2.1,st.2.2.1.elim fun u q=>q.elim fun v q=>⟨u,v,k TO (by simp) _ q⟩,st.2.2.2.1.at fun o e=>k i1 (by simp) o e,st.2.2.2.2.at fun o e=>k i2 (by simp) o e⟩
 item:=by
  intro X hP hw hK hc i kb s σ H E I hf st hg;subst hP hw hK;obtain⟨xs,x,ys,y,hq,hx,hq2,hy⟩:=hg;obtain⟨s1,s2,⟨u,v,s3⟩,s4,s5⟩:=st;obtain⟨its,rv,p,hz⟩:=I.list hq;obtain⟨its2,Fl,p2,hz2⟩:=I.list hq2;obtain⟨ux,hux,UA⟩:=rv.get hx;obtain⟨uy,UB,UC⟩:=Fl.get hy;refine wpAny_pyNext_zip_item D s1 s2 s3 s4 s5 p.isList p2.isList (x:=ux) (y:=uy) (by simpa using hux) (by simpa using UB) fun h1 a1 a2 a3 a4 a5 a6 k1=>?_;refine⟨_,rfl,wpAny_letOwnedTupleGo_zip a1 fun h2 b1 b2=>?_⟩;have nz:s.heap.objs.size≠z:=Nat.ne_of_gt (fw s1);have zi:=(b2.2 s.heap.objs.size nz).trans a5;have hk:∀c o,c∉ [z,TO,i1,i2]->s.heap.get? c=some o->h2.get? c=some o:=fun c o hb e'=>by
   have hb':c≠z/\c≠TO/\c≠i1/\c≠i2:=by simpa using hb
   exact(b2.2 c hb'.1).trans (k1 c o hb'.1 hb'.2.1 hb'.2.2.1 hb'.2.2.2 e')
  have hfr:H s.heap.objs.size=none:=I.hok.fresh (ki _)
  refine⟨.ref s.heap.objs.size,upd H s.heap.objs.size (.tup [x,y]),I.lI (t':=s.toks) hk (fun c hc=>hf c (by simp at hc ⊢;rcases hc with q | q | q | q<;>simp[q])) (ki _) ?_,rfl,
   ⟨_,x,y,hfr,rfl,rfl,fun zs hy'=>by rw[I.iU hy' hq];exact hx,fun zs hy'=>by rw[I.iU hy' hq2];exact hy⟩,⟨b1,?_,⟨ux,uy,?_⟩,a3.at fun o e=>(b2.2 i1 D.i1z).trans e,a4.at fun o e=>(b2.2 i2 D.i2z).trans e⟩,fun c hc=>?_⟩
  ·exact⟨by show 2<=em;decide,[ux,uy],.cons UA (.cons UC .nil),⟨_,zi,rfl,_,rfl⟩⟩
  ·exact hk TI _ (by simp[D.TIz,D.TITO,D.TIi1,D.TIi2]) s2
  ·exact(b2.2 TO D.TOz).trans a2
  ·have:c≠s.heap.objs.size:=by
    have hc':c=z\/c=TI\/c=TO\/c=i1\/c=i2:=by simpa using hc
    rcases hc' with rfl | rfl | rfl | rfl | rfl
    ·exact Ne.symm nz
    ·exact kt (fw s2)
    ·exact kt (fw s3)
    ·obtain⟨o,e1,_⟩:=s4;exact kt (fw e1)
    ·obtain⟨o,e1,_⟩:=s5;exact kt (fw e1)
   rw[az this];exact(hf c hc).1
 done:=by
  intro X hP hw hK hc i kb s σ H E I hf st hg;subst hP hw hK;obtain⟨xs,ys,hq,hq2,hx⟩:=hg;obtain⟨s1,s2,⟨u,v,s3⟩,s4,s5⟩:=st;obtain⟨its,rv,p,hz⟩:=I.list hq;obtain⟨its2,Fl,p2,hz2⟩:=I.list hq2;have hl:=rv.length;have hl2:=Fl.length
  exact wpAny_pyNext_zip_end (I.ok.hd hc) D s1 s2 s3 s4 s5 p.isList p2.isList (hx.imp (fun z=>by simp;omega) (fun z=>by simp;omega)) fun h' eb=>⟨rfl,I.zh (t':=s.toks) (its:=[z,TO,i1,i2]) (fun c o hb e=>by
   have hb':c≠z/\c≠TO/\c≠i1/\c≠i2:=by simpa using hb
   exact eb c o hb'.1 hb'.2.1 hb'.2.2.1 hb'.2.2.2 e) (fun c hc=>hf c (by simp at hc ⊢;rcases hc with q | q | q | q<;>simp[q]))⟩
 self:=fun _ _ _ _ _ st h=>wpAny_pyIter_zip st.1 h
section
variable {X:Cx}
def O5(K:gt)(ta:TA):TI:=fun σ H R=>ta σ H fun vs H1=>∃a b,vs=[.ref a,.ref b]/\(∃xs,aR K H1 a xs)/\(∃ys,aR K H1 b ys)/\R (Dp K a b) H1
theorem Gu{a b:Expr}{ta:TA}{p pos:Pos}{elts:List Expr}{x1}{tpos:Pos}(hg:Gl X "zip")(hm:X.mg "zip"=none)(ha:PA X [a,b] ta)
  (hs:starEach [a,b] X.env=[(false,eval a X.env),(false,eval b X.env)]:=by rfl) (hs2:starEach [b] X.env=[(false,eval b X.env)]:=by rfl):PI X (.Tuple elts x1 tpos) (.Call (.Name "zip" p) [a,b] [] pos) (O5 X.K ta):=by
 intro kb s σ H R I h;refine Call_ (ib I hg hm xl (PyProof.Rows.callWith_type1 (cz (ha pos kb s σ H _ I h) fun us s1 ⟨vs,H1,I1,r1,q1⟩=>?_) (by rw[hs,hs2]) (by rw[hs2];rfl)));obtain⟨a,b,e,⟨xs,hq⟩,⟨ys,hq2⟩,q⟩:=q1;subst e;obtain⟨u,v,rfl,ru,rv⟩:=vals2 r1;cases ru;cases rv;obtain⟨its,rv,p,hz⟩:=I1.list hq;obtain⟨its2,Fl,p2,hz2⟩:=I1.list hq2;have la:a<s1.heap.objs.size:=by obtain⟨o,e,_⟩:=p.isList;exact fw e
 have lb:b<s1.heap.objs.size:=by obtain⟨o,e,_⟩:=p2.isList;exact fw e
 refine call_zip_2 p.isList p2.isList fun h' g1 g2 g3 g4 g5 g6 hk=>?_;refine wpAny_pyIter_zip g1 ?_;have D:ZipApart (s1.heap.objs.size+4) (s1.heap.objs.size+2) (s1.heap.objs.size+3) s1.heap.objs.size (s1.heap.objs.size+1) a b:=PySem.W.ktu_apart _ _ _ la lb;refine⟨s1.heap.objs.size+4,[s1.heap.objs.size+4,s1.heap.objs.size+2,s1.heap.objs.size+3,s1.heap.objs.size,s1.heap.objs.size+1],_,_,H1,rfl,I1.kept (t':=s1.toks) hk,A2 a b _ _ _ _ _ D,⟨g1,g2,⟨_,_,g3⟩,g4,g5⟩,fun c hc=>?_,q⟩;have hc':s1.heap.objs.size<=c:=by
  have hc':c=s1.heap.objs.size+4\/c=s1.heap.objs.size+2\/c=s1.heap.objs.size+3\/c=s1.heap.objs.size\/c=s1.heap.objs.size+1:=by simpa using hc
  rcases hc' with q | q | q | q | q<;>rw[q]
  ·exact Nat.le_add_right _ _
  ·exact Nat.le_add_right _ _
  ·exact Nat.le_add_right _ _
  ·exact ki _
  ·exact Nat.le_add_right _ _
 exact I1.wC hc' (I1.hok.fresh hc')
theorem Dq{K:gt}{a b:Addr}{xs ys:List V}(hlen:xs.length=ys.length){g:TG}{tb:TS}{D:Ends}{σ:St}{H:Hp}(Pv:Nat->St->Hp->Prop)(h0:Pv 0 σ H)(hl:∀i σ H,i<=xs.length->Pv i σ H->aR K H a xs/\aR K H b ys)
  (hs:∀i x y σ H t,xs[i]? =some x->ys[i]? =some y->H t=none->Pv i σ H->g (.ref t) σ (upd H t (.tup [x,y])) fun σ2 H2=>tb {D with nx:=Pv (i+1),ct:=Pv (i+1),bk:=D.nx} σ2 H2) (hd:∀σ H,Pv xs.length σ H->D.nx σ H):
  ∃W:Nat->Nat->St->Hp->Prop,(∃m,W 0 m σ H)/\∀i m σ H,W i m σ H->
   ((Dp K a b).stop i H/\D.nx σ H)\/((Dp K a b).go i H/\∃N:St->Hp->Prop,(∀σ' H',N σ' H'->∃m',m'<m/\W (i+1) m' σ' H')/\∀x H',(Dp K a b).B3 i H x H'->g x σ H' fun σ2 H2=>tb {D with nx:=N,ct:=N,bk:=D.nx} σ2 H2):=by
 refine⟨fun i m σ H=>m=xs.length-i/\i<=xs.length/\Pv i σ H,⟨xs.length,by simp,Nat.zero_le _,h0⟩,?_⟩;rintro i m σ H ⟨rfl,hi,p⟩;obtain⟨q,q2⟩:=hl i σ H hi p;by_cases hlt:i<xs.length
 ·have h1:xs[i]? =some xs[i]:=ac hlt;have h2:ys[i]? =some (ys[i]'(by omega)):=ac _;refine .inr ⟨⟨xs,_,ys,_,q,h1,q2,h2⟩,Pv (i+1),fun σ' H' p'=>⟨xs.length- (i+1),by omega,rfl,hlt,p'⟩,fun v H' y=>?_⟩;obtain⟨t,x,y,ht,rfl,rfl,e1,e2⟩:=y;exact hs i x y σ H t (e1 _ q) (e2 _ q2) ht p
 ·have e:i=xs.length:=by omega
  subst e;exact .inl ⟨⟨xs,ys,q,q2,.inl (ki _)⟩,hd σ H p⟩
abbrev xt(h:Heap)(z TI TO:Addr)(f0 f1:Value):Prop :=
 h.get? z=some {cls:=.type "zip",dict:=none,data:=.fields #[f0,f1,.bool false,.ref TI,.ref TO],slots:=#[]}
variable {prog:Program}{w:World}{A:Around}{E:Value->Shared->Prop}{s:Shared}
theorem lia{M:Model}{a:Addr}{o:Obj}{Q:Option Obj->Shared->Prop}(ho:s.heap.get? a=some o)(h:Q (some o) s):wpAny M A (loadIfAlive a) Q E s:=fun Γ p _=>by show Sem.wp _ _ (.loadIfAlive a _) _ _ _ _;rw[Sem.wp_loadIfAlive,ho];simpa using h
theorem zu{z TI TO T:Addr}{f1:Value}{o:Obj}{Q:Bool->Shared->Prop}(hf:f1=.bool false\/f1=.bool true)(g:xt s.heap z TI TO (rawInt T) f1)(gT:s.heap.get? T=some o)
  (q:∀h',xt h' z TI TO (rawInt T) (.bool true)->Heap.SameBut z s.heap h'->Q false {s with heap:=h'}):wpAny (model prog w) A (Builtin.SmallTypes.ownedTupleIsFree (.ref z)) Q E s:=by
 unfold Builtin.SmallTypes.ownedTupleIsFree;refine de (wpAny_field g rfl (x:=rawInt T) rfl ?_);show wpAny _ _ (loadIfAlive (T:Int).toNat>>=_) _ _ _;rw[lv];refine de (lia gT ?_);simp only[Option.isNone_some,Bool.false_eq_true,if_false];refine de (wpAny_field g rfl (x:=f1) rfl ?_);rcases hf with rfl | rfl
 ·rw[if_pos (show(Value.bool false !=Value.bool true)=true from by decide)];exact de (wpAny_setField_rec g (by simp) fun h' g' s'=>dL (q h' g' s'))
 ·rw[if_neg (show ¬(Value.bool true !=Value.bool true)=true from by decide)];exact dL (q s.heap g ⟨rfl,fun _ _=>rfl⟩)
theorem Dr{z TI TO i1 i2 l1 l2 T:Addr}{k:Nat}{xs ys:Array Value}{x y f1:Value}{o:Obj}{Q:Option Value->Shared->Prop}(D:ZipApart z TI TO i1 i2 l1 l2)(hf:f1=.bool false\/f1=.bool true)
  (g:xt s.heap z TI TO (rawInt T) f1) (gT:s.heap.get? T=some o) (gI:IsPair s.heap TI (.ref i1) (.ref i2))
  (t1:s.heap.IsListIter i1 l1 k) (t2:s.heap.IsListIter i2 l2 k) (m1:s.heap.IsList l1 xs) (m2:s.heap.IsList l2 ys) (gx:xs[k]? =some x) (gy:ys[k]? =some y)
  (q:∀h',xt h' z TI TO (rawInt T) (.bool true)->h'.IsListIter i1 l1 (k+1)->h'.IsListIter i2 l2 (k+1)->IsPair h' s.heap.objs.size x y->h'.objs.size=s.heap.objs.size+1->
   (∀c o,c≠z->c≠i1->c≠i2->s.heap.get? c=some o->h'.get? c=some o)->Q (some (.ref s.heap.objs.size)) {s with heap:=h'}):wpAny (model prog w) A (pyNext (.ref z)) Q E s:=by
 have hT:s.TypeIs (.ref z) "zip":=⟨_,g,rfl⟩;unfold pyNext;refine de (wpAny_attempt (wpAny_callSpecial?_slot (name:=Str.ofString "__next__") hT F.slot_zip_next (ff F.slot_zip_next hT F.entry_zip_next ?_ (F.args_zip_next_1 _))));show wpAny _ _ (field (.ref z) 2>>=_) _ _ _;refine de (wpAny_field g rfl (x:=.bool false) rfl ?_);show wpAny _ _ (field (.ref z) 3>>=_) _ _ _;refine de (wpAny_field g rfl (x:=.ref TI) rfl ?_);refine de (wpAny_seqItems gI rfl ?_);show wpAny _ _ (Builtin.SmallTypes.ownedTupleIsFree (.ref z)>>=_) _ _ _;refine de (zu hf g gT fun g1 z1 e1=>?_);simp only[Bool.false_eq_true,if_false];refine de ?_;show wpAny _ _ (forIn (#[Value.ref i1,Value.ref i2]:Array Value) _ _) _ _ _;rw[<-Array.forIn_toList];simp only[List.forIn_cons,List.forIn_nil];refine de (de (wpAny_holding ?_));show wpAny _ _ (Builtin.SmallTypes.nextOf (.ref i1)>>=_) _ _ _;refine de (wpAny_nextOf_list_item (t1.extBut e1.extBut D.i1z) (m1.extBut e1.extBut D.l1z) gx fun g2 Uy e2=>dL (dL ?_));refine de (de (wpAny_holding ?_));show wpAny _ _ (Builtin.SmallTypes.nextOf (.ref i2)>>=_) _ _ _;refine de (wpAny_nextOf_list_item ((t2.extBut e1.extBut D.i2z).extBut e2.extBut D.i12.symm) ((m2.extBut e1.extBut D.l2z).extBut e2.extBut D.l2i1) gy fun g3 Uz e3=>dL (dL (dL ?_)));have hsz:g3.objs.size=s.heap.objs.size:=by rw[e3.1,e2.1,e1.1]
 refine de (wpAny_newTuple ?_ (by show 2<=em;decide));have hk:∀c o,c≠z->c≠i1->c≠i2->s.heap.get? c=some o->g3.get? c=some o:=fun c o c1 c2 c3 e=>e3.extBut _ _ c3 (e2.extBut _ _ c2 (e1.extBut _ _ c1 e));refine dL ⟨_,rfl,dL ?_⟩;show Q (some (.ref g3.objs.size)) _;rw[hsz];refine q _ (fg _ (e3.extBut _ _ D.i2z.symm (e2.extBut _ _ D.i1z.symm z1))) ((Uy.extBut e3.extBut D.i12).at fun o e=>fg _ e) (Uz.at fun o e=>fg _ e) ?_ (by rw[Heap.size_push,hsz]) fun c o c1 c2 c3 e=>fg _ (hk c o c1 c2 c3 e);rw[<-hsz];exact fm _ rfl
theorem Gv{z TI TO i1 i2 l1 l2 T:Addr}{k:Nat}{xs:Array Value}{f1:Value}{o:Obj}{Q:Option Value->Shared->Prop}(hh:A.handled=none)(D:ZipApart z TI TO i1 i2 l1 l2)(hf:f1=.bool false\/f1=.bool true)
  (g:xt s.heap z TI TO (rawInt T) f1) (gT:s.heap.get? T=some o) (gI:IsPair s.heap TI (.ref i1) (.ref i2))
  (t1:s.heap.IsListIter i1 l1 k) (m1:s.heap.IsList l1 xs) (gx:xs[k]? =none)
  (q:∀h',(∀c o,c≠z->c≠i1->c≠i2->s.heap.get? c=some o->h'.get? c=some o)->Q none {s with heap:=h'}):wpAny (model prog w) A (pyNext (.ref z)) Q E s:=by
 have hT:s.TypeIs (.ref z) "zip":=⟨_,g,rfl⟩;unfold pyNext;refine de (wpAny_attempt (wpAny_callSpecial?_slot (name:=Str.ofString "__next__") hT F.slot_zip_next (ff F.slot_zip_next hT F.entry_zip_next ?_ (F.args_zip_next_1 _))));show wpAny _ _ (field (.ref z) 2>>=_) _ _ _;refine de (wpAny_field g rfl (x:=.bool false) rfl ?_);show wpAny _ _ (field (.ref z) 3>>=_) _ _ _;refine de (wpAny_field g rfl (x:=.ref TI) rfl ?_);refine de (wpAny_seqItems gI rfl ?_);show wpAny _ _ (Builtin.SmallTypes.ownedTupleIsFree (.ref z)>>=_) _ _ _;refine de (zu hf g gT fun g1 z1 e1=>?_);simp only[Bool.false_eq_true,if_false];refine de ?_;show wpAny _ _ (forIn (#[Value.ref i1,Value.ref i2]:Array Value) _ _) _ _ _;rw[<-Array.forIn_toList];simp only[List.forIn_cons,List.forIn_nil];refine de (de (wpAny_holding ?_));show wpAny _ _ (Builtin.SmallTypes.nextOf (.ref i1)>>=_) _ _ _;refine de (wpAny_nextOf_list_end (A:=A.in1) hh (t1.extBut e1.extBut D.i1z) (m1.extBut e1.extBut D.l1z) gx fun h' e eb he=>?_);obtain⟨oe,hoe,hc⟩:=he;refine de (wpAny_isInstance (b:=true) (T :="StopIteration") ⟨oe,hoe,hc⟩ isSubtype_stop ?_);exact dL (q h' fun c o c1 c2 c3 e=>eb _ _ c2 (e1.extBut _ _ c1 e))
structure Fm(h:Heap)(z TI TO i1 i2 l1 l2:Addr)(xs ys:Array Value)(Ts:List Addr)(i:Nat):Prop where
 zp:(i=0/\IsZip h z TI TO .none)\/∃(T:Addr) (f1:Value),(f1=.bool false\/f1=.bool true)/\xt h z TI TO (rawInt T) f1/\T∈Ts
 pO:∃a b,IsPair h TO a b
 pI:IsPair h TI (.ref i1) (.ref i2)
 t1:h.IsListIter i1 l1 i
 t2:h.IsListIter i2 l2 i
 m1:h.IsList l1 xs
 m2:h.IsList l2 ys
 len:Ts.length=i
 prs:∀(j:Nat) T,Ts[j]? =some T->∃x y,xs[j]? =some x/\ys[j]? =some y/\IsPair h T x y/\T≠z/\T≠TO/\T≠i1/\T≠i2
theorem Fm.keep{h h':Heap}{z TI TO i1 i2 l1 l2 S:Addr}{xs ys:Array Value}{Ts:List Addr}{i:Nat}(st:Fm h z TI TO i1 i2 l1 l2 xs ys Ts i)(k:∀b o,b≠S->h.get? b=some o->h'.get? b=some o)
  (n:S≠z/\S≠TI/\S≠TO/\S≠i1/\S≠i2/\S≠l1/\S≠l2) (hT:∀T o,h.get? T=some o->o.cls=.type "tuple"->T≠S):Fm h' z TI TO i1 i2 l1 l2 xs ys Ts i:=by
 obtain⟨n1,n2,n3,n4,n5,n6,n7⟩:=n;refine⟨?_,st.pO.imp fun a z=>z.imp fun b z=>k _ _ (Ne.symm n3) z,k _ _ (Ne.symm n2) st.pI,st.t1.at fun o e=>k _ _ (Ne.symm n4) e,st.t2.at fun o e=>k _ _ (Ne.symm n5) e,st.m1.at fun o e=>k _ _ (Ne.symm n6) e,st.m2.at fun o e=>k _ _ (Ne.symm n7) e,st.len,fun j T e=>?_⟩
 ·rcases st.zp with ⟨e,a⟩ | ⟨T,f1,hf,a,b⟩
  ·exact .inl ⟨e,k _ _ (Ne.symm n1) a⟩
  ·exact .inr ⟨T,f1,hf,k _ _ (Ne.symm n1) a,b⟩
 ·obtain⟨x,y,hx,hy,hp,r⟩:=st.prs j T e;exact⟨x,y,hx,hy,k _ _ (hT T _ hp rfl) hp,r⟩
theorem Ds{z TI TO i1 i2 l1 l2:Addr}{xs ys:Array Value}{Ts:List Addr}{i:Nat}{Q:Option Value->Shared->Prop}(D:ZipApart z TI TO i1 i2 l1 l2)(hlen:xs.size=ys.size)(hi:i<xs.size)(st:Fm s.heap z TI TO i1 i2 l1 l2 xs ys Ts i)
  (q:∀h',Fm h' z TI TO i1 i2 l1 l2 xs ys (Ts++ [s.heap.objs.size]) (i+1)->(∀c o,c≠z->c≠TO->c≠i1->c≠i2->s.heap.get? c=some o->h'.get? c=some o)->Q (some (.ref s.heap.objs.size)) {s with heap:=h'}):wpAny (model prog w) A (pyNext (.ref z)) Q E s:=by
 have gx:xs[i]? =some xs[i]:=Array.getElem?_eq_getElem hi;have gy:ys[i]? =some (ys[i]'(by omega)):=Array.getElem?_eq_getElem _;have lt:∀{c o},s.heap.get? c=some o->s.heap.objs.size≠c:=fun e=>Nat.ne_of_gt (fw e);have hz:s.heap.objs.size≠z:=by
  rcases st.zp with ⟨_,a⟩ | ⟨_,_,_,a,_⟩
  ·exact lt a
  ·exact lt a
 obtain⟨u,v,hO⟩:=st.pO;have nTO:=lt hO;have h1:s.heap.objs.size≠i1:=by obtain⟨_,e,_⟩:=st.t1;exact lt e
 have h2:s.heap.objs.size≠i2:=by obtain⟨_,e,_⟩:=st.t2;exact lt e
 have fin:∀h' (T:Addr) f1,(f1=.bool false\/f1=.bool true)->xt h' z TI TO (rawInt T) f1->T∈Ts++ [s.heap.objs.size]->(∃a b,IsPair h' TO a b)->h'.IsListIter i1 l1 (i+1)->h'.IsListIter i2 l2 (i+1)->IsPair h' s.heap.objs.size xs[i] (ys[i]'(by omega))->
   (∀c o,c≠z->c≠TO->c≠i1->c≠i2->s.heap.get? c=some o->h'.get? c=some o)->Q (some (.ref s.heap.objs.size)) {s with heap:=h'}:=fun h' T f1 hf gz gT gO j1 j2 gp hk=>by
  refine q h' ⟨.inr ⟨T,f1,hf,gz,gT⟩,gO,hk _ _ D.TIz D.TITO D.TIi1 D.TIi2 st.pI,j1,j2,st.m1.at fun o e=>hk _ _ D.l1z D.l1TO D.l1i1 D.l1i2 e,st.m2.at fun o e=>hk _ _ D.l2z D.l2TO D.l2i1 D.l2i2 e,by rw[av,st.len];rfl,fun j T' e=>?_⟩ hk;by_cases c:j<Ts.length
  ·rw[ax c]at e;obtain⟨x,y,a,b,p,n1,n2,n3,n4⟩:=st.prs j T' e;exact⟨x,y,a,b,hk _ _ n1 n2 n3 n4 p,n1,n2,n3,n4⟩
  ·have c':j=i:=by have:=(al.mp e).1;rw[av,st.len]at this;have hl:=st.len;simp at this;omega
   subst c';rw[bc (by rw[st.len];exact ki _),st.len,Nat.sub_self]at e;cases e;exact⟨_,_,gx,gy,gp,hz,nTO,h1,h2⟩
 rcases st.zp with ⟨rfl,a⟩ | ⟨T,f1,hf,a,b⟩
 ·refine wpAny_pyNext_zip_item D a st.pI hO st.t1 st.t2 st.m1 st.m2 gx gy fun h' a1 a2 a3 a4 a5 a6 hk=>?_;exact fin h' _ (.bool false) (.inl rfl) a1 (List.mem_append_right _ List.mem_cons_self) ⟨_,_,a2⟩ a3 a4 a5 hk
 ·obtain⟨j,hj⟩:=List.getElem?_of_mem b;obtain⟨x,y,_,_,gT,_⟩:=st.prs j T hj;refine Dr D hf a gT st.pI st.t1 st.t2 st.m1 st.m2 gx gy fun h' a1 a3 a4 a5 a6 hk=>?_;exact fin h' T (.bool true) (.inr rfl) a1 (List.mem_append_left _ b) ⟨u,v,hk _ _ D.TOz D.TOi1 D.TOi2 hO⟩ a3 a4 a5 fun c o c1 c2 c3 c4 e=>hk c o c1 c3 c4 e
theorem Gw{z TI TO i1 i2 l1 l2:Addr}{xs ys:Array Value}{Ts:List Addr}{Q:Option Value->Shared->Prop}(hh:A.handled=none)(D:ZipApart z TI TO i1 i2 l1 l2)(st:Fm s.heap z TI TO i1 i2 l1 l2 xs ys Ts xs.size)
  (q:∀h',(∀c o,c≠z->c≠TO->c≠i1->c≠i2->s.heap.get? c=some o->h'.get? c=some o)->Q none {s with heap:=h'}):wpAny (model prog w) A (pyNext (.ref z)) Q E s:=by
 have gx:xs[xs.size]? =none:=by simp
 obtain⟨u,v,hO⟩:=st.pO;rcases st.zp with ⟨e,a⟩ | ⟨T,f1,hf,a,b⟩
 ·exact wpAny_pyNext_zip_end hh D a st.pI hO st.t1 st.t2 st.m1 st.m2 (.inl gx) q
 ·obtain⟨j,hj⟩:=List.getElem?_of_mem b;obtain⟨x,y,_,_,gT,_⟩:=st.prs j T hj;exact Gv hh D hf a gT st.pI st.t1 st.m1 gx fun h' k=>q h' fun c o c1 c2 c3 c4 e=>k c o c1 c3 c4 e
theorem xu:typeLookup (.type "zip") "__len__"=pure none:=by rw[typeLookup_type,builtinLookup_eq_fast];kernel_rfl
theorem vq:typeLookup (.type "zip") "__length_hint__"=pure none:=by rw[typeLookup_type,builtinLookup_eq_fast];kernel_rfl
abbrev lobj(acc:Array Value)(c:Nat):Obj:={cls:=.type "list",dict:=none,data:=.seq acc c,slots:=#[]}
theorem O6{R:Result->Shared->Prop}{z TI TO i1 i2 l1 l2 S:Addr}{xs ys:Array Value}(hh:A.handled=none)(D:ZipApart z TI TO i1 i2 l1 l2)(hlen:xs.size=ys.size)(hn:xs.size<=em)(nS:S≠z/\S≠TI/\S≠TO/\S≠i1/\S≠i2/\S≠l1/\S≠l2)(res:Value):
  ∀(k i:Nat) (s:Shared) (Ts:List Addr) (acc:Array Value) (c:Nat),xs.size-i=k->i<=xs.size->Fm s.heap z TI TO i1 i2 l1 l2 xs ys Ts i->s.heap.get? S=some (lobj acc c)->acc.toList=Ts.map Value.ref->Ts.Nodup->(∀b∈Ts,b<s.heap.objs.size)->
  (∀(h':Heap) (Km:List Addr) (acc':Array Value) (c':Nat),Km.Nodup->Km.length=xs.size->acc'.toList=Km.map Value.ref->(∀(j:Nat) T,Km[j]? =some T->∃x y,xs[j]? =some x/\ys[j]? =some y/\IsPair h' T x y)->(∀b∈Km,b∈Ts\/s.heap.objs.size<=b)->(∀c o,c≠S->c≠z->c≠TO->c≠i1->c≠i2->s.heap.get? c=some o->h'.get? c=some o)->h'.get? S=some (lobj acc' c')->R (.ok (.ret res)) {s with heap:=h'})->
  codeAny (model prog w) A (.builtin "list.extend.loop" ⟨[.ref S,.ref z,res],[]⟩) R s:=by
 intro k
 induction k with
 | zero=>
  intro i s Ts acc c hk hi st hS hacc hnd Kn hR;obtain rfl:i=xs.size:=by omega
  refine codeAny_builtin F.entry_extend_loop ?_;rw[Around.under_plainId F.plain_extend_loop _];show wpAny _ A.in1 (pyNext (.ref z)>>=_) _ _ s;refine de (Gw (A:=A.in1) hh D st fun h' hk'=>dL ?_);refine hR h' Ts acc c hnd st.len hacc (fun j T e=>?_) (fun b hb=>.inl hb) (fun c o _ c1 c2 c3 c4 e=>hk' c o c1 c2 c3 c4 e) (hk' _ _ nS.1 nS.2.2.1 nS.2.2.2.1 nS.2.2.2.2.1 hS);obtain⟨x,y,a,b,p,n1,n2,n3,n4⟩:=st.prs j T e;exact⟨x,y,a,b,hk' _ _ n1 n2 n3 n4 p⟩
 | succ k ih=>
  intro i s Ts acc c hk hi st hS hacc hnd Kn hR;have hlt:i<xs.size:=by omega
  have hal:acc.size=i:=by rw[<-Array.length_toList,hacc,List.length_map,st.len]
  refine codeAny_builtin F.entry_extend_loop ?_;rw[Around.under_plainId F.plain_extend_loop _];show wpAny _ A.in1 (pyNext (.ref z)>>=_) _ _ s;refine de (Ds D hlen hlt st fun h' st' hk'=>?_);have hS':h'.get? S=some (lobj acc c):=hk' _ _ nS.1 nS.2.2.1 nS.2.2.2.1 nS.2.2.2.2.1 hS;have hsz:s.heap.objs.size<h'.objs.size:=by obtain⟨x,y,_,_,p,_⟩:=st'.prs i s.heap.objs.size (by rw[bc (by rw[st.len];exact ki _),st.len,Nat.sub_self];rfl);exact fw p
  show wpAny _ A.in1 (updateSeq S (·.push (.ref s.heap.objs.size))>>=_) _ _ _;have oth:∀b o,b≠S->h'.get? b=some o->(h'.update S (Obj.mapSeq (·.push (Value.ref s.heap.objs.size)))).get? b=some o:=fun b o hb e=>(Heap.get?_update_other _ _ (Ne.symm hb)).trans e
  refine de (wpAny_updateSeq hS' rfl (dL ⟨plainId_quiet F.plain_extend_loop _,ih (i+1) _ (Ts++ [s.heap.objs.size]) (acc.push (.ref s.heap.objs.size)) _ (by omega) hlt (st'.keep (S:=S) oth nS fun T o e hc z=>?_) (Heap.get?_update_self _ hS' rfl) ?_ ?_ ?_ fun h2 Km acc' c' e0 e1 e2 e3 e5 e4=>?_⟩)
   (by rw[hal];omega) (by show(acc.push _).size<=em+1;rw[Array.size_push,hal];omega))
  ·rw[z,hS']at e;cases e;have hc:Value.type "list"=Value.type "tuple":=hc;simp at hc
  ·rw[Array.toList_push,hacc,List.map_append];rfl
  ·refine List.nodup_append.mpr ⟨hnd,by simp,fun a ha b hb z=>?_⟩;rw[bd.mp hb]at z;exact Nat.lt_irrefl _ (z▸Kn a ha)
  ·intro b hb;have e6:(h'.update S (Obj.mapSeq (·.push (Value.ref s.heap.objs.size)))).objs.size=h'.objs.size:=(Heap.SameBut.update ..).1;show b< (h'.update S (Obj.mapSeq (·.push (Value.ref s.heap.objs.size)))).objs.size;rcases List.mem_append.mp hb with z | z
   ·exact Nat.lt_trans (Kn b z) (by rw[e6];exact hsz)
   ·rw[bd.mp z,e6];exact hsz
  ·refine hR h2 Km acc' c' e0 e1 e2 e3 (fun b hb=>?_) fun c o n0 n1 n2 n3 n4 e=>e4 c o n0 n1 n2 n3 n4 (oth c o n0 (hk' c o n1 n2 n3 n4 e));rcases e5 b hb with z | z
   ·rcases List.mem_append.mp z with z | z
    ·exact .inl z
    ·rw[bd.mp z];exact .inr (ki _)
   ·have e6:(h'.update S (Obj.mapSeq (·.push (Value.ref s.heap.objs.size)))).objs.size=h'.objs.size:=(Heap.SameBut.update ..).1;have z:(h'.update S (Obj.mapSeq (·.push (Value.ref s.heap.objs.size)))).objs.size<=b:=z;exact .inr (by omega)
theorem qV{z TI TO i1 i2 l1 l2:Addr}{xs ys:Array Value}{Q:Value->Shared->Prop}(hh:A.handled=none)(D:ZipApart z TI TO i1 i2 l1 l2)(hlen:xs.size=ys.size)(hn:xs.size<=em)(st:Fm s.heap z TI TO i1 i2 l1 l2 xs ys [] 0)(g0:IsZip s.heap z TI TO .none)
  (q:∀(h':Heap) (Ts:List Addr) (acc:Array Value) (c:Nat),Ts.Nodup->Ts.length=xs.size->acc.toList=Ts.map Value.ref->(∀(j:Nat) T,Ts[j]? =some T->∃x y,xs[j]? =some x/\ys[j]? =some y/\IsPair h' T x y)->(∀b∈Ts,s.heap.objs.size<b)->(∀c o,c≠z->c≠TO->c≠i1->c≠i2->s.heap.get? c=some o->h'.get? c=some o)->h'.get? s.heap.objs.size=some (lobj acc c)->Q (.ref s.heap.objs.size) {s with heap:=h'}):
  wpAny (model prog w) A (call (.type "list") [.ref z]) Q E s:=by
 have lt:∀{c o},s.heap.get? c=some o->s.heap.objs.size≠c:=fun e=>Nat.ne_of_gt (fw e);have nS:s.heap.objs.size≠z/\s.heap.objs.size≠TI/\s.heap.objs.size≠TO/\s.heap.objs.size≠i1/\s.heap.objs.size≠i2/\s.heap.objs.size≠l1/\s.heap.objs.size≠l2:=by obtain⟨u,v,hO⟩:=st.pO;obtain⟨_,e1,_⟩:=st.t1;obtain⟨_,e2,_⟩:=st.t2;obtain⟨_,e3,_⟩:=st.m1;obtain⟨_,e4,_⟩:=st.m2;exact⟨lt g0,lt st.pI,lt hO,lt e1,lt e2,lt e3,lt e4⟩
 refine callType_codes (Q₁:=fun obj s₁=>obj=.ref s.heap.objs.size/\s₁={s with heap:=s.heap.push {cls:=.type "list",data:=.seq #[]}}) F.called_list (F.typeCall_list_1 _) F.entry_list_init (code_list_new _ ⟨rfl,rfl⟩) fun obj s₁ h₁=>?_;obtain⟨rfl,rfl⟩:=h₁;have hS:(s.heap.push {cls:=.type "list",data:=.seq #[]}).get? s.heap.objs.size=some (lobj #[] 0):=fm _ rfl;refine⟨⟨_,hS,rfl⟩,F.args_list_init_2 _ _,?_⟩;show wpAny _ A.in1.in1 (do let old <-Builtin.List.listItems (.ref s.heap.objs.size);Builtin.List.listUpdate (.ref s.heap.objs.size) (fun _=>#[]);letGo old.toList.reverse;Builtin.List.listExtendWith (.ref s.heap.objs.size) (.ref z) .none) _ _ _;refine de ?_;unfold Builtin.List.listItems;refine de (wpAny_seqItems hS rfl (dL ?_));show wpAny _ A.in1.in1 (updateSeq s.heap.objs.size (fun _=>#[])>>=fun _=>letGo (#[]:Array Value).toList.reverse>>=fun _=>Builtin.List.listExtendWith (.ref s.heap.objs.size) (.ref z) .none) _ _ _;refine de (wpAny_updateSeq hS rfl (de (wpAny_letGo ?_)));have hS1:=Heap.get?_update_self (Obj.mapSeq (fun _=>(#[]:Array Value))) hS rfl;have k1:∀b o,b≠s.heap.objs.size->(s.heap.push {cls:=.type "list",data:=.seq #[]}).get? b=some o->((s.heap.push {cls:=.type "list",data:=.seq #[]}).update s.heap.objs.size (Obj.mapSeq (fun _=>(#[]:Array Value)))).get? b=some o:=fun b o hb e=>(Heap.get?_update_other _ _ (Ne.symm hb)).trans e;have z1:((s.heap.push {cls:=.type "list",data:=.seq #[]}).update s.heap.objs.size (Obj.mapSeq (fun _=>(#[]:Array Value)))).objs.size=s.heap.objs.size+1:=by rw[(Heap.SameBut.update ..).1,Heap.size_push]
 have k0:∀b o,s.heap.get? b=some o->((s.heap.push {cls:=.type "list",data:=.seq #[]}).update s.heap.objs.size (Obj.mapSeq (fun _=>(#[]:Array Value)))).get? b=some o:=fun b o e=>k1 b o (Ne.symm (lt e)) (fg _ e);generalize ((s.heap.push {cls:=.type "list",data:=.seq #[]}).update s.heap.objs.size (Obj.mapSeq (fun _=>(#[]:Array Value))))=g1 at hS1 k0 z1 ⊢
 replace hS1:∃c,g1.get? s.heap.objs.size=some (lobj #[] c):=⟨_,hS1⟩
 obtain⟨c1,hS1⟩:=hS1;have hz1:=k0 _ _ g0;have hT:Shared.TypeIs {s with heap:=g1} (.ref z) "zip":=⟨_,hz1,rfl⟩;unfold Builtin.List.listExtendWith;refine de (wpAny_typeOf hT ?_);have b1:Builtin.List.listSameRef (.ref s.heap.objs.size) (.ref z)=false:=by simp[Builtin.List.listSameRef,nS.1]
 simp only[b1,show(Value.type "zip"==Value.type "list")=false from by decide,show(Value.type "zip"==Value.type "tuple")=false from by decide,Bool.or_false,Bool.false_eq_true,if_false];refine de (wpAny_pyIter_zip hz1 (de (wpAny_holding ?_)));unfold Builtin.List.listLengthHint;refine de (wpAny_specialOf hT xu ?_);show wpAny _ A.in1.in1 (specialOf (Value.ref z) (Str.ofString "__length_hint__")>>=_) _ _ _;refine de (wpAny_specialOf hT vq (dL ?_));show wpAny _ A.in1.in1 (rule "list.extend.makes-room">>=fun _=>Builtin.List.listTouch (.ref s.heap.objs.size)>>=fun _=>again (.builtin "list.extend.loop" ⟨[.ref s.heap.objs.size,.ref z,.none],[]⟩)) _ _ _;refine de (wpAny_rule (de ?_));show wpAny _ A.in1.in1 (updateSeq s.heap.objs.size (·.push .none)>>=fun _=>updateSeq s.heap.objs.size (·.pop)) _ _ _;refine de (wpAny_updateSeq hS1 rfl ?_);have hS2:=Heap.get?_update_self (Obj.mapSeq (·.push Value.none)) hS1 rfl;refine wpAny_updateSeq (hz:=by seq_fits) hS2 rfl ?_;have IA:=Heap.get?_update_self (Obj.mapSeq (·.pop)) hS2 rfl;have k3:∀b o,b≠s.heap.objs.size->g1.get? b=some o->((g1.update s.heap.objs.size (Obj.mapSeq (·.push Value.none))).update s.heap.objs.size (Obj.mapSeq (·.pop))).get? b=some o:=fun b o hb e=>(Heap.get?_update_other _ _ (Ne.symm hb)).trans ((Heap.get?_update_other _ _ (Ne.symm hb)).trans e);have z3:((g1.update s.heap.objs.size (Obj.mapSeq (·.push Value.none))).update s.heap.objs.size (Obj.mapSeq (·.pop))).objs.size=s.heap.objs.size+1:=by rw[(Heap.SameBut.update ..).1,(Heap.SameBut.update ..).1,z1]
 have k4:∀b o,s.heap.get? b=some o->((g1.update s.heap.objs.size (Obj.mapSeq (·.push Value.none))).update s.heap.objs.size (Obj.mapSeq (·.pop))).get? b=some o:=fun b o e=>k3 b o (Ne.symm (lt e)) (k0 b o e);generalize ((g1.update s.heap.objs.size (Obj.mapSeq (·.push Value.none))).update s.heap.objs.size (Obj.mapSeq (·.pop)))=g3 at IA k4 z3 ⊢
 replace IA:∃c,g3.get? s.heap.objs.size=some (lobj #[] c):=⟨_,IA⟩
 obtain⟨c3,IA⟩:=IA;have st3:Fm g3 z TI TO i1 i2 l1 l2 xs ys [] 0:=⟨.inl ⟨rfl,k4 _ _ g0⟩,st.pO.imp fun a y=>y.imp fun b y=>k4 _ _ y,k4 _ _ st.pI,st.t1.at fun o e=>k4 _ _ e,st.t2.at fun o e=>k4 _ _ e,st.m1.at fun o e=>k4 _ _ e,st.m2.at fun o e=>k4 _ _ e,rfl,fun j T e=>by simp at e⟩;refine dL ⟨plainId_quiet F.plain_extend_loop _,O6 (A:=A.in1) hh D hlen hn nS .none xs.size 0 {s with heap:=g3} [] #[] c3 rfl (Nat.zero_le _) st3 IA rfl List.nodup_nil (fun b hb=>nomatch hb) fun h' Ts acc c' e0 e1 e2 e3 e4 e5 e6=>?_⟩;refine⟨rfl,q h' Ts acc c' e0 e1 e2 e3 (fun b hb=>?_) (fun c o n1 n2 n3 n4 e=>e5 c o (Ne.symm (lt e)) n1 n2 n3 n4 (k4 c o e)) e6⟩;rcases e4 b hb with y | y
 ·exact nomatch y
 ·have y:g3.objs.size<=b:=y;omega
def Gx(H f:Hp):Hp:=fun b=>match f b with
 | some o=>some o
 | none=>H b
variable {kb:List (Addr×Obj)}{σ:St}{H f:Hp}{h':Heap}
theorem jq{b:Addr}{o:HO}(hn:∀b o,f b=some o->H b=none)(e:H b=some o):Gx H f b=some o:=by
 unfold Gx;cases q:f b with
 | none=>exact e
 | some u=>rw[hn b u q]at e;cases e
theorem tE{b:Addr}{o:HO}(e:f b=some o):Gx H f b=some o:=by unfold Gx;rw[e]
theorem Inv.O7{t':Nat}(I:Inv X kb σ H s)(k:∀b u,s.heap.get? b=some u->h'.get? b=some u)(hp:∀b o,f b=some o->s.heap.objs.size<=b)(new:∀b o,f b=some o->bJ X.prog X.w (Gx H f) h' b o):Inv X kb σ (Gx H f) {s with heap:=h',toks:=t'}:=by
 have hn:∀b o,f b=some o->H b=none:=fun b o e=>I.hok.fresh (hp b o e);refine I.un ⟨fun b u q _ _ _=>k b u q,fun b u q _ _ _=>⟨u.slots,k b u q⟩,fun b u q n _=>?_,fun b u q _=>⟨u,k b u q⟩,fun b xs q=>jq hn q,fun b u xs q=>jq hn q,fun b ps q=>⟨#[],by rw[jq hn q];simp⟩⟩ fun b u e=>?_
 ·unfold Gx;cases z:f b with
  | none=>exact n
  | some o=>exact absurd (Nat.lt_of_lt_of_le (fw q) (hp b o z)) (Nat.lt_irrefl _)
 ·cases z:f b with
  | some o=>
   rw[tE z]at e;have e':=Option.some.inj e;subst e';exact new b _ z
  | none=>
   have e:H b=some u:=by unfold Gx at e;rw[z]at e;exact e
   exact(I.hok b u e).stay (fun c v _ q=>k c v q) (fun c q=>jq hn q) fun c xs q=>jq hn q
def Gy(H:Hp)(ts:List Addr)(xs ys:List V):Prop:=∀(j:Nat) t x y,ts[j]? =some t->xs[j]? =some x->ys[j]? =some y->H t=some (.tup [x,y])
def tLZ(K:gt)(ta:TA):TE:=fun σ H Q=>ta σ H fun vs H1=>∃a b xs ys,vs=[.ref a,.ref b]/\aR K H1 a xs/\aR K H1 b ys/\xs.length=ys.length/\
 ∀(l:Addr) (ts:List Addr) (H2:Hp),Same H1 H2->H1 l=none->H2 l=some (.lst (ts.map V.ref))->ts.length=xs.length->Gy H2 ts xs ys->Q (.ref l) H2
theorem sd:∀ts:List Addr,Vals (ts.map V.ref) (ts.map Value.ref)
 | []=>.nil
 | t::ts=>.cons rfl (sd ts)
theorem Gz{X:Cx}{a b:Expr}{ta:TA}{p1 p2 pos1 pos2:Pos}(hc:X.calm=true)(hgl:Gl X "list")(hml:X.mg "list"=none)(hbl:bootBuiltins "list"=some (.type "list"))(hgz:Gl X "zip")(hmz:X.mg "zip"=none)(ha:PA X [a,b] ta)
  (hs:starEach [a,b] X.env=[(false,eval a X.env),(false,eval b X.env)]:=by rfl) (hs2:starEach [b] X.env=[(false,eval b X.env)]:=by rfl)
  (he:starEach [.Call (.Name "zip" p2) [a,b] [] pos2] X.env=[(false,eval (.Call (.Name "zip" p2) [a,b] [] pos2) X.env)]:=by rfl):
  PE X (.Call (.Name "list" p1) [.Call (.Name "zip" p2) [a,b] [] pos2] [] pos1) (tLZ X.K ta):=by
 intro kb s σ H Q I h;refine wpAny_Call_Name_kw (ib I hgl hml hbl ?_);refine PyProof.Rows.callWith_type1 ?_ (by rw[he];rfl) rfl;rw[he];show wpAny _ _ (spliced [(false,eval (.Call (.Name "zip" p2) [a,b] [] pos2) X.env)]) _ _ s;refine Calls.spliced_cons ?_;refine wpAny_Call_Name_kw (ib I hgz hmz xl (PyProof.Rows.callWith_type1 (cz (ha pos2 kb s σ H _ I h) fun us s1 ⟨vs,H1,I1,r1,q1⟩=>?_) (by rw[hs,hs2]) (by rw[hs2];rfl)));obtain⟨a,b,xs,ys,e,hq,hq2,hl,q⟩:=q1;subst e;obtain⟨u,v,rfl,ru,rv⟩:=vals2 r1;cases ru;cases rv;obtain⟨its,rv,p,hz⟩:=I1.list hq;obtain⟨its2,Fl,p2,hz2⟩:=I1.list hq2;have hl1:=rv.length;have hl2:=Fl.length;have la:a<s1.heap.objs.size:=by obtain⟨o,e,_⟩:=p.isList;exact fw e
 have lb:b<s1.heap.objs.size:=by obtain⟨o,e,_⟩:=p2.isList;exact fw e
 refine call_zip_2 p.isList p2.isList fun h1 g1 g2 g3 g4 g5 g6 hk=>Calls.spliced_nil ?_;have D:ZipApart (s1.heap.objs.size+4) (s1.heap.objs.size+2) (s1.heap.objs.size+3) s1.heap.objs.size (s1.heap.objs.size+1) a b:=PySem.W.ktu_apart _ _ _ la lb;have st:Fm h1 (s1.heap.objs.size+4) (s1.heap.objs.size+2) (s1.heap.objs.size+3) s1.heap.objs.size (s1.heap.objs.size+1) a b its.toArray its2.toArray [] 0:=⟨.inl ⟨rfl,g1⟩,⟨_,_,g3⟩,g2,g4,g5,p.isList.at fun o e=>hk _ _ e,p2.isList.at fun o e=>hk _ _ e,rfl,fun j T e=>by simp at e⟩;refine qV (s:={s1 with heap:=h1}) (I.ok.hd hc) D (by simp;omega) (by simp;omega) st g1 fun h' Ts acc c e0 e1 e2 e3 e4 e5 e6=>?_;have e1:Ts.length=xs.length:=by simp at e1;omega
 have e4:∀t∈Ts,h1.objs.size<t:=e4;have e6:h'.get? h1.objs.size=some (lobj acc c):=e6;have hk2:∀b u,s1.heap.get? b=some u->h'.get? b=some u:=fun b u e=>e5 b u (kt (Nat.lt_of_lt_of_le (fw e) (Nat.le_add_right _ _))) (kt (Nat.lt_of_lt_of_le (fw e) (Nat.le_add_right _ _))) (kt (fw e)) (kt (Nat.lt_of_lt_of_le (fw e) (Nat.le_add_right _ _))) (hk b u e)
 let N:Addr->HO->Prop:=fun t o=>∃(j:Nat) (x y:V),Ts[j]? =some t/\xs[j]? =some x/\ys[j]? =some y/\o=.tup [x,y]
 have nu:∀t o o',N t o->N t o'->o=o':=fun t o o' ⟨j,x,y,a1,a2,a3,a4⟩ ⟨j',x',y',b1,b2,b3,b4⟩=>by have ej:j=j':=(List.getElem?_inj (al.mp a1).1 e0).mp (a1.trans b1.symm);subst ej;rw[a2]at b2;rw[a3]at b3;cases b2;cases b3;rw[a4,b4]
 have hS0:s1.heap.objs.size<=h1.objs.size:=by rw[g6];exact Nat.le_add_right _ _
 have nS:∀t o,N t o->h1.objs.size<t:=fun t o ⟨j,x,y,a1,_⟩=>e4 t (am a1)
 classical
 let f:Hp:=fun t=>if t=h1.objs.size then some (.lst (Ts.map V.ref))else if h:∃o,N t o then some (Classical.choose h)else none
 have fS:f h1.objs.size=some (.lst (Ts.map V.ref)):=if_pos rfl;have fN:∀t o,N t o->f t=some o:=fun t o h=>by show(if t=h1.objs.size then _ else _)=_;have h':∃o,N t o:=⟨o,h⟩;rw[if_neg (Nat.ne_of_gt (nS t o h)),dif_pos h',nu t _ _ (Classical.choose_spec h') h]
 have fi:∀t o,f t=some o->(t=h1.objs.size/\o=.lst (Ts.map V.ref))\/N t o:=fun t o e=>by
  have e:(if t=h1.objs.size then some (HO.lst (Ts.map V.ref))else if h:∃o,N t o then some (Classical.choose h)else none)=some o:=e;by_cases c:t=h1.objs.size
  ·rw[if_pos c]at e;exact .inl ⟨c,(Option.some.inj e).symm⟩
  ·rw[if_neg c]at e;by_cases h:∃o,N t o
   ·rw[dif_pos h]at e;have z:=Classical.choose_spec h;rw[Option.some.inj e]at z;exact .inr z
   ·rw[dif_neg h]at e;cases e
 have I2:Inv X kb σ (Gx H1 f) {s1 with heap:=h',toks:=s1.toks}:=by
  refine I1.O7 hk2 (fun t o e=>?_) fun t o e=>?_
  ·rcases fi t o e with ⟨z,_⟩ | z
   ·rw[z];exact hS0
   ·exact Nat.le_of_lt (kU hS0 (nS t o z))
  ·rcases fi t o e with ⟨rfl,rfl⟩ | ⟨j,x,y,a1,a2,a3,rfl⟩
   ·exact⟨by rw[List.length_map];omega,Ts.map Value.ref,c,sd Ts,by rw[e6,<-e2]⟩
   ·obtain⟨ux,uy,b1,b2,b3⟩:=e3 j t a1;obtain⟨ux',c1,c2⟩:=rv.get a2;obtain⟨uy',d1,d2⟩:=Fl.get a3;have b1:its[j]? =some ux:=by simpa using b1
    have b2:its2[j]? =some uy:=by simpa using b2
    rw[c1]at b1;rw[d1]at b2;rw[Option.some.inj b1]at c2;rw[Option.some.inj b2]at d2;exact⟨by show 2<=em;decide,[ux,uy],.cons c2 (.cons d2 .nil),⟨_,b3,rfl,_,rfl⟩⟩
 have hn:∀b o,f b=some o->H1 b=none:=fun b o e=>by
  rcases fi b o e with ⟨z,_⟩ | z
  ·rw[z];exact I1.hok.fresh hS0
  ·exact I1.hok.fresh (Nat.le_of_lt (kU hS0 (nS b o z)))
 refine⟨.ref h1.objs.size,_,I2,rfl,q _ Ts _ (fun b o e=>jq hn e) (I1.hok.fresh hS0) (tE fS) e1 fun j t x y a1 a2 a3=>tE (fN t _ ⟨j,x,y,a1,a2,a3,rfl⟩)⟩
variable {e st:Expr}{te:TE}{ts:TO}{pos p2:Pos}
end
open PySem PySem.W PySem.Spec PySem.Calls PyProof.Rows
section
variable {X:Cx}{kb:List (Addr×Obj)}{σ:St}{H:Hp}{s:Shared}
inductive pM(xs:List V)(H:Hp)(Q:VK):Prop
 | mk (p:Addr) (kvs:List (Key×V)) (_:xs=[.ref p]) (_:H p=some (.dK kvs)) (_:∀l,H l=none->Q (.ref l) (upd H l (.dK kvs)))
theorem kj{X:Cx}:eL X (.type "dict") pM:=by intro kb s σ H xs R5 Q I r h;obtain⟨p,kvs,rfl,hp,q⟩:=h;obtain⟨u,rfl,ru⟩:=vals1 r;cases ru;exact CQ I (.of hp) fun l s' hl I'=>⟨.ref l,_,I',rfl,q l hl⟩
variable {P:Program}{w:World}{K:gt}{mg:Str->Option Value}{base:Heap}{N:List Str}{qual:Str}{scope:Scope}{f:Addr}{cd:Value}{A:Around}{outer:List Env}{s₀:Shared}{H₀:Hp}{E:XK}
theorem lJ{C:Addr}{bmB:List Value}{newId initId Bn:String}{x:Str}{np cpos pos:Pos}(c:Gg K C bmB newId)(FB:ExcBaseFacts Bn newId initId bmB)(hm:mg x=some (.ref C))
  (hg:Gl (gi (Nu P w) P w K mg base N qual scope f cd A outer s₀ H₀ E) x) (hd:(x==("__debug__": Str))=false:=by decide):
  PS (gi (Nu P w) P w K mg base N qual scope f cd A outer s₀ H₀ E) (.Raise (some (.Call (.Name x np) [] [] cpos)) none pos) (fun _ _ H=>E (.ref C) none H):=by
 intro kb s σ H D I h;obtain⟨bm,N',nm,q,bs,hdct,sn,sub,ab,col,dd,k0,k1,k2,k3,k5,mN,hC,hN,hni,T⟩:=c.obj I.mod.Nn;have bk:=I.bk;refine wpAny_Raise_call_subT (C:=C) (nm:=nm) (q:=q) (N:=N') (bs:=bs) (bm:=bm) (hdct:=hdct) (sn:=sn) (sub:=sub) (ab:=ab) (col:=col) (dd:=dd) (k0:=k0) (k1:=k1) (k2:=k2) (k3:=k3) (k5:=k5)
  FB (mN:=mN) (T.hasType FB.hasBase) (I.ok.hd rfl) rfl hni (jY I hg hm ⟨rfl,evalArgs_empty ⟨rfl,Nat.zero_le _,bk _ _ hC,hN.keeps bk,T.keeps bk,fun h' e made=>?_⟩⟩ hd)
 have stk:∀{b o},s₀.heap.get? b=some o->b∉frs outer->b∉frs ((envOfC qual scope s₀.heap.objs.size f cd)::outer):=fun {b o} hb nf hx=>by
  rcases List.mem_cons.mp (I.sx b hx)with e | e
  ·have h1:=fw hb;have h2:s₀.heap.objs.size<=(envOfC qual scope s₀.heap.objs.size f cd).locals:=I.ok.above;have e:b=(envOfC qual scope s₀.heap.objs.size f cd).locals:=e;rw[e]at h1;exact absurd h1 (Nat.not_lt.mpr h2)
  ·exact nf e
 obtain⟨t,he,htn,ht⟩:=made.there;have Dt:(less s.heap (frs ((envOfC qual scope s₀.heap.objs.size f cd)::outer))).get? e=none:=by
  cases hq:(less s.heap (frs ((envOfC qual scope s₀.heap.objs.size f cd)::outer))).get? e with
  | none=>rfl
  | some o'=>have:=pJ e o' hq;rw[made.new]at this;cases this
 have fu:Heap.FunFrames h' (less s.heap (frs ((envOfC qual scope s₀.heap.objs.size f cd)::outer))) ((envOfC qual scope s₀.heap.objs.size f cd)::outer):=(rZ I.stack fun b h=>h).of_keeps fun b o hb _=>⟨o,made.keeps b o hb,rfl⟩;refine Gj (s:={s with heap:=h'}) (B:=less s.heap (frs ((envOfC qual scope s₀.heap.objs.size f cd)::outer))) (L:=(envOfC qual scope s₀.heap.objs.size f cd).locals) I.ok.frames fu rfl he (fun b o hb=>made.keeps b o (pJ b o hb)) Dt rfl rfl rfl fun h'' fly up dc=>?_;have hk:∀{b o},H b=some o->b∉frs ((envOfC qual scope s₀.heap.objs.size f cd)::outer):=fun {b o} hb hx=>by have:=I.sy b hx;rw[hb]at this;cases this
 have stay:∀{b u},b∉frs ((envOfC qual scope s₀.heap.objs.size f cd)::outer)->s.heap.get? b=some u->h''.get? b=some u:=fun {b u} hb hu=>fly.1 b u (by rw[kh hb];exact hu);have ub:Un (frs outer) [] H₀ H s₀.heap s.heap:=I.base;have slots:∀b o,s₀.heap.get? b=some o->H₀ b=none->b∈frs outer->∃sl,h''.get? b=some {o with slots:=sl}:=fun b o e n hb=>by obtain⟨sl,e1⟩:=ub.slot b o e n hb (by simp);obtain⟨_,o2,e2,nf⟩:=I.jW.mem hb;rw[e1]at e2;cases e2;obtain⟨sl',e3⟩:=up b _ (made.keeps _ _ e1) nf;exact⟨sl',e3⟩
 refine⟨e,.ref C,.ref t,none,H,_,rfl,fly,dc,fun b o hb nf=>?_,fun b o hb=>?_,I.os,I.bare,⟨fun b o e n nf nx=>stay (stk e nf) (ub.keep b o e n nf nx),fun b o e n hb _=>slots b o e n hb,ub.free,fun b o e nx=>?_,ub.tups,ub.mV,ub.qI⟩,fun a o e=>(I.hok a o e).stay (fun b u hc q=>?_) (fun _ q=>q) (fun _ _ q=>q),h⟩
 ·obtain⟨o',e'⟩:=ub.there b o hb (by simp);exact⟨o',by rw[kh (stk hb nf)];exact e'⟩
 ·obtain⟨o',e'⟩:=(I.hok b o hb).some_;exact⟨o',by rw[kh (hk hb)];exact e'⟩
 ·by_cases hb:b∈frs outer
  ·obtain⟨_,o2,e2,nf⟩:=I.jW.mem hb;obtain⟨sl',e3⟩:=up b _ (made.keeps _ _ e2) nf;exact⟨_,e3⟩
  ·obtain⟨o',e'⟩:=ub.there b o e nx;exact⟨o',stay (stk e hb) e'⟩
 ·rcases hc with rfl | hc
  ·exact stay (hk e) q
  ·exact stay (hk hc) q
end
open PySem PySem.Spec PyProof.Rows
section
variable {X:Cx}
inductive GJ(x:V)(vs:List V)(H:Hp)(Q:VK):Prop
 | mk (l:Addr) (xs:List V) (i:Nat) (y:V) (_:x=.ref l) (_:vs=[.int (i:Int),y]) (_:H l=some (.lst xs)) (_:i<=xs.length) (_:xs.length<em) (_:i<2^63) (_:Q .non (upd H l (.lst (xs.take i++y::xs.drop i))))
theorem A3:Np X "list.insert" GJ:=by
 intro kb s σ H x vs v us Q I rx rv h;obtain⟨l,xs,i,y,rfl,rfl,hH,hi,hz,hi2,q⟩:=h;cases rx;obtain⟨u,u2,rfl,ru,ru2⟩:=rv.two;obtain⟨t,rfl⟩:=ru;obtain⟨z,its,n,r,hl,e⟩:=I.qM hH;have hf:Builtin.List.listFitsIndex (i:Int)=true:=fitsIndex_both (Int.le_trans (by decide) (Int.natCast_nonneg i)) (by exact_mod_cast hi2);generalize hx:(i:Int)=x at hf ⊢;have hs:its.toArray.size<=em:=by rw[ar];omega
 have M:=AutoSeq1.list_insert_list_int_val_1 l its.toArray n x t u2 (by rw[hf];exact lm) hs;refine call_meets F.slot_list_insert ⟨_,e,rfl⟩ F.entry_list_insert (F.args_list_insert_3 _ _ _) M ⟨e,?_⟩;refine⟨.non,_,I.CJ (its':=its.take i++u2::its.drop i) hH e ?_ ((r.take i).append (.cons ru2 (r.drop i))) ?_,rfl,q⟩
 ·subst hx;show(its.toArray.extract 0 (if (i:Int)<0 then ((i:Int)+(its.toArray.size:Int)).toNat else min (i:Int).toNat its.toArray.size)).push u2++its.toArray.extract (if (i:Int)<0 then ((i:Int)+(its.toArray.size:Int)).toNat else min (i:Int).toNat its.toArray.size)=_;rw[if_neg (by omega),ar,lv,Nat.min_eq_left (by omega)];apply Array.ext';simp;exact List.take_of_length_le (by simp)
 ·rw[av,ci,List.length_take,List.length_drop];omega
inductive zv(x:V)(vs:List V)(H:Hp)(Q:VK):Prop
 | mk (l:Addr) (zs:List V) (k:Int) (j:Nat) (_:x=.ref l) (_:vs=[.int k]) (_:H l=some (.lst zs)) (_:∀y∈zs,y=.non\/∃i,y=.int i) (_:zs[j]? =some (.int k)) (_:∀m,m<j->zs[m]? ≠some (.int k)) (_:zs.length<=5000) (_:Q (.int (j:Int)) H)
theorem A4:Np X "list.index" zv:=by
 intro kb s σ H x vs v us Q I rx rv h;obtain⟨l,zs,k,j,rfl,rfl,hH,hz,hj,hb,hl,q⟩:=h;cases rx;obtain⟨u,rfl,ru⟩:=rv.one;obtain⟨t,rfl⟩:=ru;obtain⟨z,its,n,hv,hlen,e⟩:=I.qM hH;have fl:zs.all jA=true:=by rw[List.all_eq_true];intro y hy;rcases hz y hy with rfl | ⟨i,rfl⟩<;>rfl
 have hjl:=(al.mp hj).1;have val:∀(m:Nat) (h1:m<its.length) (h2:m<zs.length),sO (.int k) its[m]=decide (zs[m]=.int k):=fun m h1 h2=>by
  obtain⟨u,e1,e2⟩:=hv.get (i:=m) (x:=zs[m]) (ac h2);rw[ac h1]at e1;have hy:=hz _ (bi h2);generalize zs[m]=y at e2 hy ⊢;rw[Option.some.inj e1];rcases hy with rfl | ⟨i,rfl⟩
  ·rw[sP (y:=.non) e2 rfl];exact(decide_eq_false (fun z=>nomatch z)).symm
  ·rw[sP (y:=.int i) e2 rfl];show(i==k)=_;by_cases c:i=k
   ·rw[c,decide_eq_true rfl];exact beq_self_eq_true k
   ·rw[decide_eq_false (fun z=>c (V.int.inj z))];exact beq_false_of_ne c
 refine call_meets F.slot_list_index ⟨_,e,rfl⟩ F.entry_list_index (F.args_list_index_2 _ _)
  (SeqAt.list_indexAt l its.toArray n none #[] (.int k t) (sO (.int k)) j (by simp;omega) (by omega) ?_ ?_) ⟨e,fun y hy=>gP (x:=.int k) ⟨t,rfl⟩ rfl hv fl y (by simpa using hy),⟨.int (j:Nat),H,I.tok _,⟨_,rfl⟩,q⟩⟩
 ·show sO (.int k) its[j]=true;rw[val _ (by omega) hjl];exact decide_eq_true (by rw[ac hjl]at hj;exact Option.some.inj hj)
 ·intro m hm hlt;have hm':m<its.length:=by simpa using hm
  show sO (.int k) its[m]=false;rw[val m hm' (by omega)];exact decide_eq_false fun z=>hb m hlt (by rw[ac (by omega),z])
end
end L2
namespace PySem.W.Fast
def tw9880397889045872146:Nat:=0
def tw9332586749745911782:Nat:=0
def tw11509419136701387203:Nat:=0
def tw10799205335382441096:Nat:=0
def tw10843311165002017899:Nat:=0
def tw2954348675310920774:Nat:=0
def tw5807433582098268023:Nat:=0
def tw9057417191724050089:Nat:=0
def tw12718376675619216777:Nat:=0
def tw11750594074856553114:Nat:=0
def tw545470803951113837:Nat:=0
def tw2569222811029892490:Nat:=0
def tw16183658245553820005:Nat:=0
def tw3795930514755913466:Nat:=0
def tw7033169761240827600:Nat:=0
def tw12896439196962077316:Nat:=0
def tw2492163491463468600:Nat:=0
def tw17009547211856802935:Nat:=0
def tw17933807089952482547:Nat:=0
def tw393674423673858053:Nat:=0
def tw8001493617830813909:Nat:=0
def tw6717860960254020605:Nat:=0
def tw10164320137910569077:Nat:=0
def tw2590226067371996921:Nat:=0
def tw4838006741175692688:Nat:=0
def tw16277394373156889235:Nat:=0
def tw9128270287220715133:Nat:=0
def tw2727672118341336177:Nat:=0
def tw14554830793146302934:Nat:=0
def tw9827960529828300212:Nat:=0
def tw16937434465748811632:Nat:=0
def tw11756678938051501637:Nat:=0
def tw760751455798013256:Nat:=0
def tw9246426738286846403:Nat:=0
def tw13554275217498949188:Nat:=0
def tw14738034644397118478:Nat:=0
def tw1236570771552135404:Nat:=0
def tw3865380248926493102:Nat:=0
def tw5946322983269960523:Nat:=0
def tw10875672222243013324:Nat:=0
def tw18112979621535271395:Nat:=0
def tw11716859336094179739:Nat:=0
def tw14773567373375846788:Nat:=0
def tw11702360825212314749:Nat:=0
def tw11142532998200783860:Nat:=0
def tw1056327942805606214:Nat:=0
def tw5501741404225260749:Nat:=0
def tw14628328643010525410:Nat:=0
def tw6365213179032828429:Nat:=0
def tw1489965848562228123:Nat:=0
def tw297326661027520804:Nat:=0
def tw2247253036699996641:Nat:=0
def tw6370622795048514888:Nat:=0
def tw15848193882468127128:Nat:=0
def tw16849499199414121768:Nat:=0
def tw14192179439974464743:Nat:=0
def tw813079071512246337:Nat:=0
def tw17734372264641275020:Nat:=0
def tw6403485929543545789:Nat:=0
def tw2233529212164303174:Nat:=0
def tw10083105783698618490:Nat:=0
def tw16150214873094000266:Nat:=0
def tw17059353255098767413:Nat:=0
def tw17205480423372771560:Nat:=0
def tw6600264152299392500:Nat:=0
def tw14607545990162506202:Nat:=0
def tw4862714544083484267:Nat:=0
def tw3735481194469866838:Nat:=0
def tw15110259614516422694:Nat:=0
def tw15286155127303500416:Nat:=0
def tw12912523797552462835:Nat:=0
def tw4749205704336576748:Nat:=0
def tw9791349482807381771:Nat:=0
def tw6149907740799105219:Nat:=0
def tw7706236017540979780:Nat:=0
def tw6652949170261933275:Nat:=0
def tw4407771848723635235:Nat:=0
def tw3580122851627152741:Nat:=0
def tw7303578771629082838:Nat:=0
def tw8384661516124070730:Nat:=0
def tw5284275470348856243:Nat:=0
def tw17805533609195982939:Nat:=0
def tw3665559629415686404:Nat:=0
def tw4286864097483242381:Nat:=0
def tw10385499521333945945:Nat:=0
def tw18232590835774604588:Nat:=0
def tw4227283658954413730:Nat:=0
def tw13841448344090562164:Nat:=0
def tw6628823010861564706:Nat:=0
def tw1055578135249450558:Nat:=0
def tw12549374761758433405:Nat:=0
def tw1045876420398071818:Nat:=0
def tw14577587826215128761:Nat:=0
def tw7532449899178082919:Nat:=0
def tw7375810949204923506:Nat:=0
def tw9328249788503442386:Nat:=0
def tw5286934450477020835:Nat:=0
def tw11510337717097945442:Nat:=0
def tw809116431704576931:Nat:=0
def tw12257390531855257401:Nat:=0
def tw12694908511786471053:Nat:=0
def tw14181972112084399352:Nat:=0
def tw13148477752020439910:Nat:=0
def tw14255699296796970573:Nat:=0
def tw11721303143050378897:Nat:=0
def tw16201850166723012313:Nat:=0
def tw12622450110327742203:Nat:=0
def tw3070818925775259854:Nat:=0
def tw9753974626027203897:Nat:=0
def tw10286332362449737089:Nat:=0
def tw2897532739396253444:Nat:=0
def tw11535601446399900042:Nat:=0
def tw3455920418701895213:Nat:=0
def tw13132808710625308497:Nat:=0
def tw4491084269159309354:Nat:=0
def tw3488736460439414951:Nat:=0
def tw14594640878825597878:Nat:=0
def tw10351496068189653217:Nat:=0
def tw3140259413347128807:Nat:=0
def tw15713756953730018535:Nat:=0
def tw18141044341401707773:Nat:=0
def tw7910241957197567254:Nat:=0
def tw3695653143272268993:Nat:=0
def tw4002089688377469663:Nat:=0
def tw4573387212768488404:Nat:=0
def tw7668306590644315102:Nat:=0
def tw5710386679641551228:Nat:=0
def tw8656787368709487074:Nat:=0
def tw6158983350863142330:Nat:=0
def tw5846866804404623100:Nat:=0
def tw7965316868893537553:Nat:=0
def tw1706933595473083223:Nat:=0
def tw12763103632405141095:Nat:=0
def tw14095289005059039253:Nat:=0
def tw11444512595480400959:Nat:=0
def tw15595911160695206341:Nat:=0
def tw12781802410912418300:Nat:=0
def tw13982658556199560790:Nat:=0
def tw15389946213516923077:Nat:=0
def tw10067997215765508022:Nat:=0
def tw6298363754366071666:Nat:=0
def tw2723455175051843591:Nat:=0
def tw8145888682728797707:Nat:=0
def tw14364588220976188018:Nat:=0
def tw4366709401536281615:Nat:=0
def tw7354129017982392331:Nat:=0
def tw14750050233245560669:Nat:=0
def tw9492722152411420056:Nat:=0
def tw11664847501017832541:Nat:=0
def tw9451374510609230233:Nat:=0
def tw12235177864969486256:Nat:=0
def tw3492738724789549858:Nat:=0
def tw5282174999448518352:Nat:=0
def tw11252669170254770353:Nat:=0
def tw531425774082207218:Nat:=0
def tw10736829385706517394:Nat:=0
def tw6582551924704574483:Nat:=0
def tw2788983629616143013:Nat:=0
def tw17010383031550860039:Nat:=0
def tw39706277161758284:Nat:=0
def tw2113395396316858846:Nat:=0
def tw10377739593434007138:Nat:=0
def tw13022897746593992093:Nat:=0
def tw5782686773619990133:Nat:=0
def tw15443337378608106490:Nat:=0
def tw14580809199786766660:Nat:=0
def tw1934092624808305450:Nat:=0
def tw8844150768316616210:Nat:=0
def tw17595070233478149947:Nat:=0
def tw4439530887376118205:Nat:=0
def tw5198702814658922955:Nat:=0
def tw18435919529033086662:Nat:=0
def tw2099891871835229923:Nat:=0
def tw1395114498155612875:Nat:=0
def tw353244530849880968:Nat:=0
def tw8017562954065676827:Nat:=0
def tw2976992090140257941:Nat:=0
def tw1350278759322624966:Nat:=0
def tw14824420562119127803:Nat:=0
def tw8245752618634684725:Nat:=0
def tw4823403002839810:Nat:=0
def tw10557306013365783043:Nat:=0
def tw9248310076690079952:Nat:=0
def tw4981005965406296571:Nat:=0
def tw9374749526544555842:Nat:=0
def tw9177998732131824857:Nat:=0
def tw5232378092620274371:Nat:=0
def tw520927158325695248:Nat:=0
def tw2752389578223706312:Nat:=0
def tw2067523277258624875:Nat:=0
def tw15735421318539793010:Nat:=0
def tw11031603107849197727:Nat:=0
def tw8289882886297256270:Nat:=0
def tw8308597930446396455:Nat:=0
def tw7235230118312546:Nat:=0
def tw6163682905253448431:Nat:=0
def tw11948727520858809847:Nat:=0
def tw15001844180654385677:Nat:=0
def tw7127390568504337647:Nat:=0
def tw4847718141203976362:Nat:=0
def tw11051376800139335032:Nat:=0
def tw4945518569129274195:Nat:=0
def tw4241174484275236633:Nat:=0
def tw12504653991186120869:Nat:=0
def tw1448039405134670748:Nat:=0
def tw6515719069042469245:Nat:=0
def tw7685994091951498675:Nat:=0
def tw6855011203127030464:Nat:=0
def tw6733017522698524864:Nat:=0
def tw2594432198935907697:Nat:=0
def tw18375543775169562029:Nat:=0
def tw17017823043415078002:Nat:=0
def tw14371313504865547780:Nat:=0
def tw5015850698176709197:Nat:=0
def tw14237144469858763714:Nat:=0
end PySem.W.Fast
namespace My
theorem _root_.zle{a b:Nat}(h:Nat.ble a b=true:=by rfl):a<=b:=Nat.le_of_ble_eq_true h
open PySem L2
abbrev zL0:List Str:=["zero","below"]
abbrev zL1:List Str:=["put","take","see"]
abbrev zL2:List Str:=["set","more"]
abbrev zL3:List Str:=["back","stop"]
abbrev zL4:List Str:=["jump","call","mark"]
abbrev zL5:List Str:=["box","box"]
abbrev zL6:List Str:=["box","aside"]
abbrev zL7:List Str:=["copy","take","put","set","more","add","less"]
abbrev zL8:List Str:=["target","far"]
abbrev zL9:List Str:=["copy","add","less","load","keep"]
abbrev zL10:List Str:=["box","target","far"]
abbrev zL12:List Str:=["take","see"]
theorem _root_.L2.dU.u{n:Nat}{A:Around}(hr:dU n A)(k:Nat)(h:k<=64:=by decide):A.units+k<cLine:=kU (Nat.add_le_add_left h _) hr.units
abbrev KI(K:gt)(f:Addr):Prop:=PySem.W.keepIn K (.ref f)=true
theorem Ko:0<=em:=by decide
theorem lK:1<=em:=by decide
theorem iw:2<=em:=by decide
theorem xv:3<=em:=by decide
theorem Kq:4<=em:=by decide
theorem UE:7<=em:=by decide
theorem UG:8<=em:=by decide
theorem O8:12<=em:=by decide
theorem UH:(0:Int)<2:=by decide
theorem UI:(0:Int)<3:=by decide
theorem UJ:(0:Int)<4:=by decide
theorem qW:(0:Int)<2147483399:=by decide
theorem eF:(0:Int)<2147483647:=by decide
open List (all_eq_true all_map any_cons append_assoc append_nil cons_ne_nil dropLast_subset filterMap_append filter_cons length_append length_cons length_dropLast length_eq_one_iff length_eq_zero_iff length_map length_range length_replicate length_set length_take length_zip map_append map_congr_left map_cons map_drop map_dropLast map_map map_nil map_set map_singleton map_take mem_append mem_cons mem_cons_self mem_filterMap mem_map mem_range mem_replicate mem_singleton nodup_cons not_mem_nil pairwise_append replicate replicate_succ replicate_zero take_add_one take_length take_of_length_le zip_cons_cons)
open PySem.W (Frag KeysLit OpenLaw WalkO codeIn excIn findIn fnOf hasDictIn isFn kIn_of keepIn kitMeta kitOne makesIn mg_none_of mg_of nsIn plainGet plainOver)
open Option (map_eq_some_iff map_some toList_some)
open Nat (le_of_ble_eq_true le_of_eq le_refl le_trans sub_self zero_le)
def top(i:Nat):Stmt:=PySem.Challenge.pw_widenrows_k71_taken_out_by_a_paper.main.body.getD i (.Pass ⟨0,0,0,0⟩)
abbrev IC:Stmt:=top 7
abbrev vt:Stmt:=top 8
abbrev IE:Stmt:=top 10
abbrev Du:Stmt:=top 14
abbrev O9:Stmt:=top 15
abbrev xA:Stmt:=top 33
abbrev zx:Stmt:=top 34
abbrev Dv:Stmt:=top 35
abbrev Dw:Stmt:=top 36
abbrev pN:Stmt:=top 37
abbrev xB:Stmt:=top 38
abbrev zy:Stmt:=top 39
abbrev A5:Stmt:=top 7
abbrev tF:Stmt:=top 8
abbrev A6:Stmt:=top 10
abbrev xC:Stmt:=top 14
abbrev pP:Stmt:=top 15
abbrev lL:Stmt:=top 16
abbrev pQ:Stmt:=top 17
abbrev ix:Stmt:=top 19
abbrev ft:Stmt:=top 20
abbrev xD:Stmt:=top 33
abbrev vv:Stmt:=top 34
abbrev ni:Stmt:=top 35
abbrev tG:Stmt:=top 36
abbrev xE:Stmt:=top 37
abbrev xF:Stmt:=top 38
abbrev tH:Stmt:=top 39
abbrev iZ:Stmt:=top 22
abbrev i0:Stmt:=top 23
abbrev i5:Stmt:=top 48
abbrev dD:Stmt:=top 49
abbrev eQ:Stmt:=top 50
abbrev dE:Stmt:=top 51
abbrev jK:Stmt:=top 52
abbrev eR:Stmt:=top 53
abbrev gm:Stmt:=top 54
abbrev fz:Stmt:=top 55
abbrev d6:Stmt:=top 56
abbrev dS:Stmt:=top 57
abbrev gu:Stmt:=top 59
abbrev jr:Stmt:=top 61
abbrev lM:Stmt:=top 66
abbrev lN:Stmt:=top 69
abbrev iy:Stmt:=top 63
abbrev eS:Stmt:=top 70
abbrev fJ:Stmt:=top 9
abbrev jL:Stmt:=top 18
abbrev jM:Stmt:=top 24
abbrev iz:Stmt:=top 26
abbrev fX:Stmt:=top 27
abbrev i6:Stmt:=top 60
abbrev eG:Stmt:=top 62
abbrev iA:Stmt:=top 64
abbrev gw:Stmt:=top 65
abbrev i7:Stmt:=top 67
abbrev gX:Stmt:=top 68
theorem dq:bootBuiltins "list"=some (.type "list"):=by decide+kernel
theorem gY:bootBuiltins "tuple"=some (.type "tuple"):=by decide+kernel
theorem xG:bootBuiltins "set"=some (.type "set"):=by decide+kernel
theorem zA:bootBuiltins "bool"=some (.type "bool"):=by decide+kernel
theorem bV:bootBuiltins "len"=some (.builtin "len"):=by decide+kernel
theorem jt:bootBuiltins "sorted"=some (.builtin "sorted"):=by decide+kernel
theorem gA:bootBuiltins "isinstance"=some (.builtin "isinstance"):=by decide+kernel
theorem at0{α:Type}(a:α)(r:List α):lh (a::r) 0=some a:=cj (j:=0) rfl
theorem at1{α:Type}(a b:α)(r:List α):lh (a::b::r) 1=some b:=cj (j:=1) rfl
theorem at2{α:Type}(a b c:α)(r:List α):lh (a::b::c::r) 2=some c:=cj (j:=2) rfl
theorem strEq{a b:Str}(h:decide (V.str a=V.str b)=true):a=b:=V.str.inj (of_decide_eq_true h)
theorem vw{a b:Str}(h:¬decide (V.str a=V.str b)=true):¬a=b:=fun e=>h (by rw[e];exact decide_eq_true rfl)
theorem cX(w:Str):∀ss:List Str,inV (.str w) (ss.map V.str)=decide (w∈ss)
 | []=>rfl
 | x::r=>by
  have ih:=cX w r;unfold inV at ih ⊢;rw[map_cons,any_cons,ih];show((x==w)||_)=_;by_cases h:x=w
  ·subst h;simp
  ·have h':¬w=x:=fun e=>h e.symm;simp[h,h']
theorem aw{H:Hp}{l:Addr}{o:HO}(h:H l=none):Same H (upd H l o):=fun b u e=>by rw[az (bt e h)];exact e
theorem xH:bootBuiltins "int"=some (.type "int"):=by decide+kernel
theorem jN:bootBuiltins "all"=some (.builtin "all"):=by decide+kernel
theorem Dx:bootBuiltins "max"=some (.builtin "max"):=by decide+kernel
theorem aZ{H H1:Hp}{l:Addr}{o:HO}(e:Same H H1)(h:H l=none):Same H (upd H1 l o):=fun b u z=>by rw[az (bt z h)];exact e b u z
def dz:List Str:=["stop","back","halt","set","more","copy","add","less","load","keep","tell","see","put","take","jump","zero","below","call","mark","table"]
def w2:List Str:=["copy","add","less","load","keep"]
def w1:List Str:=["set","more","tell","see","put","take","zero","below","table"]
def w7:List Str:=["set","more","copy","add","less","load","take"]
def fA:List Str:=["copy","load"]
def fB:List Str:=["add","less","keep"]
def fC:List Str:=["more","tell","see","put","zero","below","table"]
def fD:List Str:=["stop","back","halt","set","take","jump","call","mark"]
def places:List (Str×List Int):=[("more",[1]),("copy",[2]),("add",[1,2]),("less",[1,2]),("load",[2]),("keep",[1,2]),("tell",[1]),("see",[1]),("put",[1]),("zero",[1]),("below",[1]),("table",[1])]
def eW(u:Str)(items:List V):Prop:=(u∈w2->∃b c:Int,items=[.int b,.int c])/\(u∈w1->∃(b:Int) (r:List V),items=.int b::r)
theorem eW.one{u:Str}{b:Int}{r:List V}(h:¬u∈w2):eW u (.int b::r):=⟨fun z=>absurd z h,fun _=>⟨b,r,rfl⟩⟩
theorem tI{K:Frag}{a b:String}{r:Bool}(h1:(Value.type a==Value.type b)=false)(h2:kitMeta b=true)(h3:(fastBuiltinMro a).map (·.contains (Value.type b))=some r):kitOne K (.type a) (.type b)=some r:=by unfold kitOne;rw[if_neg (by rw[h1];decide)];show(if kitMeta b=true then (fastBuiltinMro a).map (·.contains (Value.type b))else none)=some r;rw[if_pos h2];exact h3
theorem pR{K:Frag}{a:String}(h:(Value.type a==Value.type a)=true):kitOne K (.type a) (.type a)=some true:=by unfold kitOne;rw[if_pos h]
theorem jO{K:Frag}:kitOne K (.type "int") (.type "bool")=some false:=tI (by decide) (by decide+kernel) (by decide+kernel)
theorem xI{K:Frag}:kitOne K (.type "bool") (.type "int")=some true:=tI (by decide) (by decide+kernel) (by decide+kernel)
theorem A7{K:Frag}:kitOne K (.type "int") (.type "int")=some true:=pR (by decide)
theorem vx{K:Frag}:kitOne K (.type "bool") (.type "bool")=some true:=pR (by decide)
theorem jE{K:Frag}:kitOne K (.type "tuple") (.type "tuple")=some true:=pR (by decide)
theorem fY{K:Frag}:kitOne K (.type "list") (.type "list")=some true:=pR (by decide)
def cv:List Str:=["stop","back","halt","jump"]
def eT:List Str:=["jump","call","mark"]
def zb:List Str:=["zero","below"]
def Parts(H:Hp)(w:Str)(items:List V)(ts:List Int):Prop :=
 if w ="table"then ∃(b:V) (q:Addr),items=[b,.ref q]/\H q=some (.tup (ts.map V.int))
 else if w∈eT then ∃(t:Int) (f:V),items=[.int t,f]/\ts=[t]
 else if w∈zb then ∃(b:V) (t:Int) (f:V),items=[b,.int t,f]/\ts=[t]else ts=[]
def sg(H:Hp)(r:Addr)(w:Str)(ts:List Int):Prop:=∃items,H r=some (.tup (.str w::items))/\Parts H w items ts
theorem Parts.same{H H':Hp}{w:Str}{items:List V}{ts:List Int}(e:Same H H')(h:Parts H w items ts):Parts H' w items ts:=by
 unfold Parts at h ⊢;split
 ·rename_i h1;rw[if_pos h1]at h;obtain⟨b,q,h2,h3⟩:=h;exact⟨b,q,h2,e _ _ h3⟩
 ·rename_i h1;rw[if_neg h1]at h;exact h
theorem sg.same{H H':Hp}{r:Addr}{w:Str}{ts:List Int}(e:Same H H')(h:sg H r w ts):sg H' r w ts:=by obtain⟨items,h1,h2⟩:=h;exact⟨items,e _ _ h1,h2.same e⟩
def sh:List Str:=["stop","back","halt"]
structure Txt(K:Frag)(pr:Params)(mg:Str->Option Value):Prop where
 rat:∃p,mg "READ_AT"=some (.ref p)/\(∃es n,K.lookup p=some ⟨.type "dict",none,.dict es n,#[]⟩)/\(∀x∈places,∃q,eu K pr p x.1 (some (.ref q))/\∀H,bp K H q (x.2.map V.int))/\∀u∈fD,eu K pr p u none
 wr:∃p,mg "WRITING"=some (.ref p)/\∀H,bp K H p (w7.map V.str)
 ends:∃ p,mg "ENDS" = some (.ref p)/\∀ H,bp K H p (sh.map V.str)
 non:∃p,mg "NOT_GOING_ON"=some (.ref p)/\∀H,bp K H p (cv.map V.str)
 Pa:∃p,mg "ALL_BOXES"=some (.ref p)/\∀H,bp K H p ([0,1,2,3,4,5,6,7].map V.int)
 bnd:∃p,mg "BOUNDS"=some (.ref p)/\∃q,eu K pr p "box" (some (.ref q))/\∀H,bp K H q [.int 0,.int 7]
 set:mg "set"=none
 sorted:mg "sorted"=none
 list:mg "list"=none
 int:mg "int"=none
 bool:mg "bool"=none
 tuple:mg "tuple"=none
 Fn:mg "isinstance"=none
 min:mg "min"=none
 range:mg "range"=none
 len:mg "len"=none
 all:mg "all"=none
 enum:mg "enumerate"=none
 max:mg "max"=none
 GQ:∃p,mg "PARTS"=some (.ref p)/\Uu K pr p/\(∃q,eu K pr p "stop" (some (.ref q))/\∀H,bp K H q [])/\(∃q,eu K pr p "back" (some (.ref q))/\∀H,bp K H q [])/\(∃q,eu K pr p "halt" (some (.ref q))/\∀H,bp K H q [.str "number"])/\(∃q,eu K pr p "set" (some (.ref q))/\∀H,bp K H q [.str "box",.str "value"])/\(∃q,eu K pr p "more" (some (.ref q))/\∀H,bp K H q [.str "box",.str "value"])/\(∃q,eu K pr p "copy" (some (.ref q))/\∀H,bp K H q [.str "box",.str "box"])/\(∃q,eu K pr p "add" (some (.ref q))/\∀H,bp K H q [.str "box",.str "box"])/\(∃q,eu K pr p "less" (some (.ref q))/\∀H,bp K H q [.str "box",.str "box"])/\(∃q,eu K pr p "load" (some (.ref q))/\∀H,bp K H q [.str "box",.str "box"])/\(∃q,eu K pr p "keep" (some (.ref q))/\∀H,bp K H q [.str "box",.str "box"])/\(∃q,eu K pr p "tell" (some (.ref q))/\∀H,bp K H q [.str "box"])/\(∃q,eu K pr p "see" (some (.ref q))/\∀H,bp K H q [.str "box",.str "number"])/\(∃q,eu K pr p "put" (some (.ref q))/\∀H,bp K H q [.str "box",.str "aside"])/\(∃q,eu K pr p "take" (some (.ref q))/\∀H,bp K H q [.str "box",.str "aside"])/\(∃q,eu K pr p "jump" (some (.ref q))/\∀H,bp K H q [.str "target",.str "far"])/\(∃q,eu K pr p "zero" (some (.ref q))/\∀H,bp K H q [.str "box",.str "target",.str "far"])/\(∃q,eu K pr p "below" (some (.ref q))/\∀H,bp K H q [.str "box",.str "target",.str "far"])/\(∃q,eu K pr p "call" (some (.ref q))/\∀H,bp K H q [.str "target",.str "far"])/\(∃q,eu K pr p "mark" (some (.ref q))/\∀H,bp K H q [.str "target",.str "far"])/\(∃q,eu K pr p "table" (some (.ref q))/\∀H,bp K H q [.str "box",.str "targets"])
 qX:∃t,mg "MOST_WALKED"=some (.int (2000) t)
 qY:∃p,mg "NEEDED_KEYS"=some (.ref p)/\∀H,bp K H p [.str "leads",.str "forms",.str "free"]
 ny:∃p,mg "STAYING_PARTS"=some (.ref p)/\∀H,bp K H p [.str "box",.str "aside",.str "number",.str "value"]
 nA:∃p,mg "MAY_BE_PUT_IN"=some (.ref p)/\∀H,bp K H p [.str "set",.str "more",.str "copy",.str "add",.str "less",.str "put",.str "take",.str "see",.str "jump",.str "zero",.str "below",.str "halt"]
 xJ:∃p,mg "SPOILING"=some (.ref p)/\∀H,bp K H p [.str "set",.str "more",.str "add",.str "less"]
 dict:mg "dict"=none
 zip:mg "zip"=none
 abs:mg "abs"=none
 str:mg "str"=none
def iB(ms:List Int)(p:Int->Prop):Prop:=ms.Pairwise (· <= ·)/\ms.Nodup/\∀j,j∈ms↔p j
theorem iB.eq{p:Int->Prop}:∀{ms ns:List Int},iB ms p->iB ns p->ms=ns:=by intro ms ns a b;have hp:ms.Perm ns:=(List.perm_ext_iff_of_nodup a.2.1 b.2.1).mpr fun j=>(a.2.2 j).trans (b.2.2 j).symm;exact hp.eq_of_pairwise (le:=(· <= ·)) (fun x y _ _ h1 h2=>Int.le_antisymm h1 h2) a.1 b.1
def Need(u:Str)(items:List V)(j:Int):Prop:=(u∈fA/\items[1]? =some (.int j))\/(u∈fB/\(items[0]? =some (.int j)\/items[1]? =some (.int j)))\/(u∈fC/\items[0]? =some (.int j))
def zB(u:Str)(items:List V)(ms:List Int):Prop:=(u∈w7/\∃b r,items=.int b::r/\ms=[b])\/(¬u∈w7/\ms=[])
theorem Dy{u:Str}{items:List V}(h:eW u items)(hu:u∈w7):∃b r,items=V.int b::r:=by
 rcases(by decide+kernel:∀u∈w7,u∈w1\/u∈w2) u hu with z | z
 ·exact h.2 z
 ·obtain⟨b,c,e⟩:=h.1 z;exact⟨b,_,e⟩
section
variable {P:Program}{w:World}{K:Frag}{mg:Str->Option Value}{base:Heap}
inductive vy(vs:List V)(H:Hp)(Q:VK)(E_:XK):Prop
 | mk (r:Addr) (u:Str) (items:List V) (_:vs=[.ref r]) (_:H r=some (.tup (.str u::items))) (_:eW u items) (_:∀(l:Addr) (ms:List Int) (H':Hp),Same H H'->H l=none->H' l=some (.lst (ms.map V.int))->zB u items ms->Q (.ref l) H')
theorem Dz:aM ["row"] ["row"] (ao zx):=by walk_at "sc1"
theorem A8{f:Addr}{fd:el}(F:cy K "writes_of" "writes_of" zx f fd)(T:Txt K w.params mg):aN P w K mg base bu 1 f fd ["row"] vy:=by
 refine F.ok Dz (by walk_at "ln") (fun J4 A outer s H vs Q E hr h=>?_)
 ·obtain⟨r,u,items,rfl,hR,hI,k⟩:=h;obtain⟨p,hp,hq⟩:=T.wr;have hq:=hq H;refine⟨_,(aJ (aC (iT (aE bQ (aH aX (pv 0) aj (fun _ _=>rfl)) (c7 (v:=.ref p) rfl hp rfl) rfl) (aY (ae (aH aX (pv 0) aj (fun _ _=>rfl)) ah)) (aY ah)))),?_⟩;refine⟨_,rfl,r,_,_,_,rfl,rfl,bp.of hR,at0 _ _,p,w7.map V.str,rfl,.inr hq,rfl,rfl,_,rfl,?_⟩;show if inV (.str u) (w7.map V.str)=true then _ else _;rw[show inV (.str u) (w7.map V.str)=decide (u∈w7)from cX _ _];refine cK (fun e=>?_) (fun e=>?_)
  ·have e:=of_decide_eq_true e;obtain⟨b,r',rfl⟩:=Dy hI e;refine⟨_,rfl,r,_,_,.int b,rfl,rfl,bp.of hR,at1 _ _ _,zle,fun l nl=>?_⟩;exact k l [b] _ (aw nl) nl ai (.inl ⟨e,b,r',rfl,rfl⟩)
  ·have e:¬u∈w7:=fun z=>e (decide_eq_true z);refine⟨zle,fun l nl=>?_⟩;exact k l [] _ (aw nl) nl ai (.inr ⟨e,rfl⟩)
inductive zC(vs:List V)(H:Hp)(Q:VK)(E_:XK):Prop
 | mk (r:Addr) (u:Str) (items:List V) (_:vs=[.ref r]) (_:H r=some (.tup (.str u::items))) (_:u∈dz) (_:eW u items) (_:∀(l:Addr) (ms:List Int) (H':Hp),Same H H'->H l=none->H' l=some (.lst (ms.map V.int))->ms.length<=2->iB ms (Need u items)->Q (.ref l) H')
theorem A9{u:Str}{items:List V}(hu:u∈dz)(hI:eW u items):∃(ps ns:List Int),ps.length=ns.length/\ns.length<=2/\((u,ps)∈places\/(u∈fD/\ps=[]))/\(∀(i:Nat) p n,ps[i]? =some p->ns[i]? =some n->lh (.str u::items) p=some (.int n))/\∀j,j∈ns↔Need u items j:=by
 rcases(by decide+kernel:∀u∈dz,u∈fA\/u∈fB\/u∈fC\/u∈fD) u hu with h | h | h | h
 ·obtain⟨b,c,rfl⟩:=hI.1 ((by decide+kernel:∀u∈fA,u∈w2) u h);refine⟨[2],[c],rfl,by simp,.inl ((by decide+kernel:∀u∈fA,(u,([2]:List Int))∈places) u h),fun i p n a b=>?_,fun j=>?_⟩
  ·cases i with
   | zero=>simp at a b;subst a;subst b;exact at2 _ _ _ _
   | succ i=>simp at a
  ·have n1:=(by decide+kernel:∀u∈fA,¬u∈fB/\¬u∈fC) u h;simp[Need,h,n1.1,n1.2,eq_comm]
 ·obtain⟨b,c,rfl⟩:=hI.1 ((by decide+kernel:∀u∈fB,u∈w2) u h);refine⟨[1,2],[b,c],rfl,by simp,.inl ((by decide+kernel:∀u∈fB,(u,([1,2]:List Int))∈places) u h),fun i p n a b=>?_,fun j=>?_⟩
  ·cases i with
   | zero=>simp at a b;subst a;subst b;exact at1 _ _ _
   | succ i=>cases i with
    | zero=>simp at a b;subst a;subst b;exact at2 _ _ _ _
    | succ i=>simp at a
  ·have n1:=(by decide+kernel:∀u∈fB,¬u∈fA/\¬u∈fC) u h;simp[Need,h,n1.1,n1.2,eq_comm]
 ·obtain⟨b,r,rfl⟩:∃(b:Int) (r:List V),items=.int b::r:=hI.2 ((by decide+kernel:∀u∈fC,u∈w1) u h);refine⟨[1],[b],rfl,by simp,.inl ((by decide+kernel:∀u∈fC,(u,([1]:List Int))∈places) u h),fun i p n a b=>?_,fun j=>?_⟩
  ·cases i with
   | zero=>simp at a b;subst a;subst b;exact at1 _ _ _
   | succ i=>simp at a
  ·have n1:=(by decide+kernel:∀u∈fC,¬u∈fA/\¬u∈fB) u h;simp[Need,h,n1.1,n1.2,eq_comm]
 ·refine⟨[],[],rfl,by simp,.inr ⟨h,rfl⟩,fun i p n a=>by simp at a,fun j=>?_⟩;have n1:=(by decide+kernel:∀u∈fD,¬u∈fA/\¬u∈fB/\¬u∈fC) u h;simp[Need,n1.1,n1.2.1,n1.2.2]
theorem GU:aM ["row"] ["row"] (ao xA):=by walk_at "sc1"
def Ba:Scope:={kind:=.function,names:=[(".0",.local),("place",.local),("row",.free)],isGenerator:=false,isCoroutine:=false,more:=[]}
theorem si:cC (ao xA) Ba ["row"] ["place","row"] [none,some 0]:=by walk_at "sc2"
theorem DA{f:Addr}{fd:el}(F:cy K "reads_of" "reads_of" xA f fd)(T:Txt K w.params mg):aN P w K mg base bu 1 f fd ["row"] zC:=by
 refine F.ok GU (by walk_at "ln") (fun J4 A outer s H vs Q E hr h=>?_)
 ·obtain⟨r,u,items,rfl,hR,hu,hI,k⟩:=h;obtain⟨p,hp,hd,h1,h2⟩:=T.rat;obtain⟨ps,ns,hl,h2n,hps,hat,hmem⟩:=A9 hu hI;obtain⟨rr,hk,hrr⟩:∃rr,eu K w.params p u rr/\((∃q,rr=some (.ref q)/\∀H,bp K H q (ps.map V.int))\/(rr=none/\ps=[])):=by
   rcases hps with h | ⟨h,e⟩
   ·obtain⟨q,a,b⟩:=h1 _ h;exact⟨_,a,.inl ⟨q,rfl,b⟩⟩
   ·exact⟨none,h2 u h,.inr ⟨rfl,e⟩⟩
  refine⟨_,(aJ (aC (aG (fq rfl) (by rfl) T.sorted jt (ae (bq (mr rfl) (by rfl) T.set xG (ae (cW (N':=["place","row"]) (fr:=[none,some 0]) si rfl (k8 (C6 (c7 (v:=.ref p) (by rfl) hp rfl) (aH aX (pv 0) aj (fun _ _=>rfl)) (aV ah) ⟨rfl,rfl,rfl,rfl⟩)) (fun C s0 H0 fp=>(bg (i:=0) si.nd rfl (Or.inl rfl))) (fun C s0 H0 fp=>df) (fun C s0 H0 fp=>(aH (r:=JU K) aX (pv 1) (pv 0) (fun _ _=>rfl)))) ah)) ah)))),?_⟩;refine⟨p,rfl,hd,_,rfl,r,_,_,_,rfl,rfl,bp.of hR,at0 _ _,zle,fun t nt=>⟨u,rr,rfl,hk,?_⟩⟩;have s0:=aw (o:=.tup []) nt;obtain⟨a,ha,YW⟩:∃a,rr.getD (.ref t)=.ref a/\∀H',Same (upd H t (.tup [])) H'->bp K H' a (ps.map V.int):=by
   rcases hrr with ⟨q,rfl,b⟩ | ⟨rfl,rfl⟩
   ·exact⟨q,rfl,fun H' _=>b H'⟩
   ·exact⟨t,rfl,fun H' s'=>bp.of (s' _ _ ai)⟩
  rw[ha];refine⟨a,rfl,⟨_,YW _ (Same.refl _)⟩,fun D nD=>gW (K:=K) (a:=a) (xs:=ps.map V.int) (fun i σ ys H2=>∃v,σ=[v,some (.ref r)]/\ys=(ns.take i).map V.int/\Same (upd H t (.tup [])) H2/\H2 D=some (.lst ys)) ?_ ?_ ?_ ?_⟩
  ·exact⟨none,rfl,rfl,aw nD,ai⟩
  ·rintro i σ ys H2 _ ⟨v,rfl,rfl,s2,_⟩;exact YW _ s2
  ·rintro i x σ ys H2 hx ⟨v,rfl,rfl,s2,hD⟩;rw[ag]at hx;obtain⟨pp,hpp,rfl⟩:=map_eq_some_iff.mp hx;have hil:=(al.mp hpp).1;have hnn:ns[i]? =some ns[i]:=ac (by omega);refine⟨_,rfl,_,rfl,r,_,_,.int ns[i],rfl,rfl,bp.of (s2 _ _ (s0 _ _ hR)),hat i pp _ hpp hnn,hD,?_,?_⟩
   ·rw[length_map];exact lF (by rw[length_take];omega)
   ·refine⟨_,rfl,?_,aZ s2 nD,ai⟩;rw[List.take_succ,hnn,map_append];rfl
  ·rintro σ ys H2 ⟨v,rfl,rfl,s2,hD⟩;have e:ns.take (ps.map V.int).length=ns:=by rw[length_map,hl,take_length]
   rw[e]at hD;have sH:=s0.trans s2;refine⟨D,ns,rfl,aR.of hD,by omega,fun l' us UK hus hnd UL=>⟨l',us,rfl,ai,by omega,fun l2 ms vz hpm Fk=>?_⟩⟩;have s3:=sH.trans (aw (o:=qR P w l' us) UK);exact k l2 ms _ (s3.trans (aw vz)) (s3.free vz) ai (by rw[hpm.length_eq];omega) ⟨Fk,hpm.nodup_iff.mpr hnd,fun j=>by rw[hpm.mem_iff,UL,hmem]⟩
theorem c6{c A B:Prop}[Decidable c](h:c)(a:A):if c then A else B:=by rw[if_pos h];exact a
theorem bU{c A B:Prop}[Decidable c](h:¬c)(b:B):if c then A else B:=by rw[if_neg h];exact b
theorem DB:bootBuiltins "range"=some (.type "range"):=by decide+kernel
theorem Bb{K:Frag}{H H':Hp}{x:V}{t:Value}(s:Same H H')(h:gM K H x t):gM K H' x t:=by
 cases h with
 | non=>exact .non
 | bl x=>exact .bl x
 | int i=>exact .int i
 | str x=>exact .str x
 | flt x=>exact .flt x
 | lst e=>exact .lst (s _ _ e)
 | jg e=>exact .jg (s _ _ e)
 | tup e=>exact .tup (s _ _ e)
 | dK e=>exact .dK (s _ _ e)
 | dT e=>exact .dT (s _ _ e)
 | ins e a b c d f=>exact .ins (s _ _ e) a b c d f
def pS(K:Frag)(H:Hp)(x:V)(b:Bool):Prop:=(∃i:Int,x=.int i/\b=decide (0<=i/\i<=7))\/(b=false/\((∃y,x=.bl y)\/∃t,gM K H x t/\kitOne K t (.type "int")=some false))
theorem pS.same{K:Frag}{H H':Hp}{x:V}{b:Bool}(s:Same H H')(h:pS K H x b):pS K H' x b:=by
 rcases h with h | ⟨h,h2 | ⟨t,h3,h4⟩⟩
 ·exact .inl h
 ·exact .inr ⟨h,.inl h2⟩
 ·exact .inr ⟨h,.inr ⟨t,Bb s h3,h4⟩⟩
inductive oG(vs:List V)(H:Hp)(Q:VK)(E_:XK):Prop
 | mk (x:V) (b:Bool) (_:vs=[x]) (_:((b=true/\∃i,x=.int i)\/(b=false/\((∃y,x=.bl y)\/∃t,gM K H x t/\kitOne K t (.type "int")=some false)))) (_:Q (.bl b) H)
theorem GV:aM ["thing"] ["thing"] (ao Du):=by walk_at "sc1"
theorem DC{f:Addr}{fd:el}(F:cy K "is_whole" "is_whole" Du f fd)(T:Txt K w.params mg):aN P w K mg base bu 1 f fd ["thing"] (oG (K:=K)):=by
 refine F.ok GV (by walk_at "ln") (fun J4 A outer s H vs Q E hr h=>?_)
 ·obtain⟨x,b,rfl,h,k⟩:=h;refine⟨_,(aJ (aC (oN (aG cG (by rfl) T.Fn gA (ae (pv 0) (ae (eB (v:=.ty "int") (by rfl) T.int xH rfl) ah))) (iS (Cq (aG cG (by rfl) T.Fn gA (ae (pv 0) (ae (eB (v:=.ty "bool") (by rfl) T.bool zA rfl) ah)))))))),?_⟩;rcases h with ⟨rfl,i,rfl⟩ | ⟨rfl,⟨y,rfl⟩ | ⟨t,ht,hk⟩⟩
  ·refine⟨_,rfl,_,_,_,_,rfl,.int _,A7,true,rfl,c6 rfl ?_⟩;exact⟨_,rfl,_,_,_,_,rfl,.int _,jO,false,rfl,k⟩
  ·refine⟨_,rfl,_,_,_,_,rfl,.bl _,xI,true,rfl,c6 rfl ?_⟩;exact⟨_,rfl,_,_,_,_,rfl,.bl _,vx,true,rfl,k⟩
  ·exact⟨_,rfl,_,_,_,_,rfl,ht,hk,false,rfl,bU (by decide) k⟩
inductive IG(vs:List V)(H:Hp)(Q:VK)(E_:XK):Prop
 | mk (x:V) (b:Bool) (_:vs=[.str "box",x]) (_:pS K H x b) (_:Q (.bl b) H)
theorem Pb:aM ["kind","thing"] ["kind","thing"] (ao O9):=by walk_at "sc1"
theorem Kr{f fW:Addr}{fd my:el}(F:cy K "is_number_of" "is_number_of" O9 f fd)(T:Txt K w.params mg)(GW:aN P w K mg base bu 1 fW my ["thing"] (oG (K:=K)))(kW:KI K fW)(bW:Binds K my ["thing"] [])(mW:mg "is_whole"=some (.ref fW)):aN P w K mg base bu 2 f fd ["kind","thing"] (IG (K:=K)):=by
 refine F.ok Pb (by walk_at "ln") (fun J4 A outer s H vs Q E hr h=>?_)
 ·obtain⟨x,b,rfl,h,k⟩:=h;obtain⟨p,hp,q,hk,hq⟩:=T.bnd;refine⟨_,(aJ (aC (oN (aA GW hr (by rfl) mW kW bW .nil aQ (ae (pv 1) ah)) (iS (CB Ip Ip (aH aX (oF (c7 (v:=.ref p) (by rfl) hp rfl) (pv 0) (fun _ _=>rfl)) aj (fun _ _=>rfl)) (pv 1) (aH aX (oF (c7 (v:=.ref p) (by rfl) hp rfl) (pv 0) (fun _ _=>rfl)) aj (fun _ _=>rfl))))))),?_⟩;rcases h with ⟨i,rfl,rfl⟩ | ⟨rfl,h⟩
  ·refine⟨_,rfl,_,true,rfl,.inl ⟨rfl,i,rfl⟩,true,rfl,c6 rfl ?_⟩;refine⟨_,rfl,p,_,_,rfl,rfl,hk,q,_,0,_,rfl,rfl,hq _,at0 _ _,_,rfl,_,_,rfl,rfl,_,rfl,?_⟩;by_cases h0:0<=i
   ·refine c6 (decide_eq_true h0) ?_;refine⟨_,rfl,p,_,_,rfl,rfl,hk,q,_,1,_,rfl,rfl,hq _,at1 _ _ _,_,_,rfl,rfl,?_⟩;have e:decide (0<=i/\i<=7)=decide (i<=7):=decide_eq_decide.mpr ⟨fun z=>z.2,fun z=>⟨h0,z⟩⟩;rw[e]at k;exact k
   ·refine bU (fun z=>h0 (of_decide_eq_true z)) ?_;rw[decide_eq_false (fun z=>h0 z.1)]at k;exact k
  ·exact⟨_,rfl,_,false,rfl,.inr ⟨rfl,h⟩,false,rfl,bU (by decide) k⟩
def jP(H:Hp)(v:V)(ms:List Int):Prop:=∃q,v=.ref q/\H q=some (.tup (ms.map V.int))/\(∀b∈ms,0<=b/\b<=7)/\ms.Pairwise (· <= ·)/\ms.Nodup/\ms.length<64
def Pg(K:Frag)(H:Hp)(v:V):Prop:=(∃t,gM K H v t/\kitOne K t (.type "tuple")=some false)\/
 (∃(q:Addr) (xs:List V) (bs:List Bool),v=.ref q/\H q=some (.tup xs)/\bs.length=xs.length/\(∀(i:Nat) x b,xs[i]? =some x->bs[i]? =some b->pS K H x b)/\bs.all id=false/\xs.length<64)\/
 (∃(q:Addr) (ms:List Int),v=.ref q/\H q=some (.tup (ms.map V.int))/\(∀b∈ms,0<=b/\b<=7)/\ms.length<64/\¬(ms.Pairwise (· <= ·)/\ms.Nodup))
theorem jP.same{H H':Hp}{v:V}{ms:List Int}(s:Same H H')(h:jP H v ms):jP H' v ms:=by obtain⟨q,a,b,c⟩:=h;exact⟨q,a,s _ _ b,c⟩
inductive zD(vs:List V)(H:Hp)(Q:VK)(E_:XK):Prop
 | mk (v:V) (b:Bool) (_:vs=[v]) (_:((b=true/\∃ms,jP H v ms)\/(b=false/\Pg K H v))) (_:∀H',Same H H'->Q (.bl b) H')
theorem GX:aM ["thing"] ["thing"] (ao pN):=by walk_at "sc1"
def Bc:Scope:={kind:=.function,names:=[(".0",.local),("box",.local),("is_number_of",.globalImplicit)],isGenerator:=false,isCoroutine:=false,more:=[]}
theorem sj:cC (ao pN) Bc ["thing"] ["box"] [none]:=by walk_at "sc2"
theorem DE{f fN:Addr}{fd pT:el}(F:cy K "is_claim" "is_claim" pN f fd)(T:Txt K w.params mg)(GN:aN P w K mg base bu 2 fN pT ["kind","thing"] (IG (K:=K)))(kN:KI K fN)(bN:Binds K pT ["kind","thing"] [])(mN:mg "is_number_of"=some (.ref fN)):aN P w K mg base bu 3 f fd ["thing"] (zD (K:=K)):=by
 refine F.ok GX (by walk_at "ln") (fun J4 A outer s H vs Q E hr h=>?_)
 ·obtain⟨v,b,rfl,h,k⟩:=h;have hu:(A.deeper (PyProof.Rows.envOfC "is_claim" (ao pN) s.heap.objs.size f J4)).units<cLine:=Nat.lt_of_succ_lt (iM hr)
  refine⟨_,(aL (cS (iK (dm (cq (aG cG (by rfl) T.Fn gA (ae (pv 0) (ae (eB (v:=.ty "tuple") (by rfl) T.tuple gY rfl) ah))))) (eZ (dm (cq (aG (ez rfl) (by rfl) T.all jN (ae (cW (X:=(gi bu P w K mg base ["thing"] "is_claim" (ao pN) f J4 A outer s H E).wo) (N':=["box"]) (fr:=[none]) sj rfl (k8 (pv 0)) (fun C s0 H0 fp=>(bg (i:=0) sj.nd rfl (Or.inl rfl))) (fun C s0 H0 fp=>df) (fun C s0 H0 fp=>(aA GN hr (by rfl) mN kN bN .nil aQ (ae ay (ae (pv 0) ah))))) ah)))))).pt (aJ (aC dI)) aF)
   (aJ (aC (cT (sX hu) (bq cD (by rfl) T.list dq (ae (pv 0) ah)) (aG (fq rfl) (by rfl) T.sorted jt (ae (bq (tu rfl) (by rfl) T.set xG (ae (pv 0) ah)) ah)) (aP _))))),?_⟩
  rcases(show(∃t,b=false/\gM K H v t/\kitOne K t (.type "tuple")=some false)\/(∃(q:Addr) (xs:List V) (bs:List Bool),v=.ref q/\H q=some (.tup xs)/\bs.length=xs.length/\(∀(i:Nat) x b,xs[i]? =some x->bs[i]? =some b->pS K H x b)/\xs.length<64/\((bs.all id=false/\b=false)\/∃ms:List Int,xs=ms.map V.int/\bs.all id=true/\b=decide (ms.Pairwise (· <= ·)/\ms.Nodup))) by
   have Ph:∀(q:Addr) (ms:List Int),H q=some (.tup (ms.map V.int))->(∀b∈ms,0<=b/\b<=7)->(∀(i:Nat) x b,(ms.map V.int)[i]? =some x->(ms.map fun _=>true)[i]? =some b->pS K H x b):=fun q ms _ hr i x b hx hb=>by
    rw[ag]at hx hb;cases hm:ms[i]? with
    | none=>rw[hm]at hx;cases hx
    | some z=>
     rw[hm]at hx hb;cases hx;cases hb;exact .inl ⟨z,rfl,(decide_eq_true (hr z (am hm))).symm⟩
   have Pj:∀ms:List Int,(ms.map fun _=>true).all id=true:=fun ms=>by simp
   rcases h with ⟨rfl,ms,q,hv,hq,hr,hp,hn,hl⟩ | ⟨rfl,hb⟩
   ·exact .inr ⟨q,_,_,hv,hq,by simp,Ph q ms hq hr,by rw[length_map];exact hl,.inr ⟨ms,rfl,Pj ms,(decide_eq_true ⟨hp,hn⟩).symm⟩⟩
   ·rcases hb with ⟨t,ht,hk⟩ | ⟨q,xs,bs,hv,hq,hl,hbx,hf,h64⟩ | ⟨q,ms,hv,hq,hr,hl,hn⟩
    ·exact .inl ⟨t,rfl,ht,hk⟩
    ·exact .inr ⟨q,xs,bs,hv,hq,hl,hbx,h64,.inl ⟨hf,rfl⟩⟩
    ·exact .inr ⟨q,_,_,hv,hq,by simp,Ph q ms hq hr,by rw[length_map];exact hl,.inr ⟨ms,rfl,Pj ms,(decide_eq_false hn).symm⟩⟩)with ⟨t,rfl,ht,hk⟩ | ⟨q,xs,bs,rfl,hq,hl,hbx,h64,fin⟩
  ·refine⟨_,rfl,_,_,_,_,rfl,ht,hk,_,rfl,c6 rfl ?_⟩;exact k _ (.refl _)
  ·refine⟨_,rfl,_,_,_,_,rfl,.tup hq,jE,_,rfl,bU (by decide) ?_⟩;refine⟨_,rfl,q,rfl,⟨_,bp.of hq⟩,fun D nD=>gW (K:=K) (a:=q) (xs:=xs) (fun i σ ys H1=>∃(v:Option V),σ=[v]/\ys=(bs.take i).map V.bl/\Same H H1/\H1 D=some (.lst ys)) ?_ ?_ ?_ ?_⟩
   ·exact⟨none,rfl,rfl,aw nD,ai⟩
   ·rintro i σ ys H1 _ ⟨v,rfl,rfl,s1,_⟩;exact bp.of (s1 _ _ hq)
   ·rintro i x σ ys H1 hx ⟨v,rfl,rfl,s1,hD⟩;have hil:=(al.mp hx).1;have hbb:bs[i]? =some bs[i]:=ac (by omega);refine⟨_,rfl,x,bs[i],rfl,(hbx i x _ hx hbb).same s1,hD,?_,?_⟩
    ·rw[length_map,length_take];exact lF (by omega)
    ·refine⟨_,rfl,?_,aZ s1 nD,ai⟩;rw[List.take_succ,hbb,map_append];rfl
   ·rintro σ ys H1 ⟨v,rfl,rfl,s1,hD⟩;rw[show bs.take xs.length=bs by rw[<-hl,take_length]]at hD;refine⟨D,bs,rfl,aR.of hD,_,rfl,?_⟩;rcases fin with ⟨hf,rfl⟩ | ⟨ms,rfl,ht,rfl⟩
    ·rw[hf];exact c6 rfl (k H1 s1)
    ·rw[ht];refine bU (by decide) ?_;refine⟨_,rfl,q,_,rfl,.inr (bp.of (s1 _ _ hq)),fun l nl=>?_⟩;have s2:=s1.trans (aw (o:=.lst (ms.map V.int)) nl);have hll:upd H1 l (.lst (ms.map V.int)) l=_:=ai;generalize upd H1 l (.lst (ms.map V.int))=H2 at s2 hll ⊢;rw[length_map]at h64;refine⟨_,rfl,q,ms,rfl,bp.of (s2 _ _ hq),by omega,fun l2 us vz hlen hnd hmem=>?_⟩;have z3:=aw (o:=qR P w l2 us) vz;have h3:upd H2 l2 (qR P w l2 us) l2=_:=ai;have UM:=z3 _ _ hll;have s3:=s2.trans z3;refine⟨l2,us,rfl,h3,by omega,fun l3 ss Nw hperm Fk=>?_⟩;have z4:=aw (o:=.lst (ss.map V.int)) Nw;refine⟨l,l3,_,_,rfl,rfl,aR.of (z4 _ _ UM),aR.of ai,fun i a b ha hb=>?_,?_⟩
     ·rw[ag]at ha hb;cases h1:ms[i]? with
      | none=>rw[h1]at ha;cases ha
      | some x=>
       cases h2:ss[i]? with
       | none=>rw[h2]at hb;cases hb
       | some y=>
        rw[h1]at ha;rw[h2]at hb;cases ha;cases hb;exact .inl (.inr (.inl ⟨_,_,rfl,rfl⟩))
     ·have e:decide (ms.map V.int=ss.map V.int)=decide (ms.Pairwise (· <= ·)/\ms.Nodup):=by
       refine decide_eq_decide.mpr ⟨fun z=>?_,fun z=>?_⟩
       ·have z2:ms=ss:=(List.map_inj_right (fun _ _ h=>V.int.inj h)).mp z;rw[z2];exact⟨Fk,hperm.nodup_iff.mpr hnd⟩
       ·have r1:iB ms (· ∈ms):=⟨z.1,z.2,fun j=>Iff.rfl⟩;have r2:iB ss (· ∈ms):=⟨Fk,hperm.nodup_iff.mpr hnd,fun j=>by rw[hperm.mem_iff,hmem]⟩;rw[iB.eq r1 r2]
      have kk:=k _ (s3.trans z4);rw[<-e]at kk;exact kk
inductive tJ(vs:List V)(H:Hp)(Q:VK)(E_:XK):Prop
 | mk (r:Addr) (w:Str) (items:List V) (_:vs=[.ref r]) (_:H r=some (.tup (.str w::items))) (_:Q (.bl (!decide (w∈cv))) H)
theorem Ks:aM ["row"] ["row"] (ao IC):=by walk_at "sc1"
theorem GY{f:Addr}{fd:el}(F:cy K "goes_on" "goes_on" IC f fd)(T:Txt K w.params mg):aN P w K mg base bu 1 f fd ["row"] tJ:=by
 refine F.ok Ks (by walk_at "ln") (fun J4 A outer s H vs Q E hr h=>?_)
 ·obtain⟨r,w',items,rfl,hR,k⟩:=h;obtain⟨p,hp,hq⟩:=T.non;refine⟨_,aJ (aC (cT ip (aH aX (pv 0) aj (fun _ _=>rfl)) (c7 (v:=.ref p) rfl hp rfl) rfl)),?_⟩;refine⟨_,rfl,r,_,0,.str w',rfl,rfl,bp.of hR,at0 _ _,p,_,rfl,.inr (hq _),rfl,rfl,?_⟩;show Q (.bl (!inV (.str w') (cv.map V.str))) H;rw[cX];exact k
inductive eA(vs:List V)(H:Hp)(Q:VK)(E_:XK):Prop
 | mk (r:Addr) (w:Str) (ts:List Int) (_:vs=[.ref r]) (_:sg H r w ts) (_:∀(l:Addr) (H':Hp),Same H H'->H l=none->H' l=some (.lst (ts.map V.int))->Q (.ref l) H')
theorem sk:aM ["row","word"] ["row"] (ao vt):=by walk_at "sc1"
theorem xK{f:Addr}{fd:el}(F:cy K "targets_of" "targets_of" vt f fd)(T:Txt K w.params mg):aN P w K mg base bu 1 f fd ["row"] eA:=by
 refine F.ok sk (by walk_at "ln") (fun J4 A outer s H vs Q E hr h=>?_)
 ·obtain⟨r,w',ts,rfl,⟨items,hR,hP⟩,k⟩:=h
  refine⟨_,aL (aT (i:=1) sk.nd rfl (Or.inl rfl) (aH aX (pv 0) aj (fun _ _=>rfl)))
   (aL (cS (aE dJ (pv 1) ay (aP _)) (aJ (aC (bq cD (by rfl) T.list dq (ae (aH aX (pv 0) aj (fun _ _=>rfl)) ah)))) aF)
   (aL (cS (aE bQ (pv 1) (aV (ae ay (ae ay (ae ay ah)))) rfl) (aJ (aC (aY (ae (aH aX (pv 0) aj (fun _ _=>rfl)) ah)))) aF)
   (aL (cS (aE bQ (pv 1) (aV (ae ay (ae ay ah))) rfl) (aJ (aC (aY (ae (aH aX (pv 0) aj (fun _ _=>rfl)) ah)))) aF)
   (aJ (aC (aY ah)))))),?_⟩
  refine⟨_,rfl,r,_,0,.str w',rfl,rfl,bp.of hR,at0 _ _,_,rfl,rfl,_,rfl,?_⟩;refine cK (fun h1=>?_) (fun h1=>?_)
  ·have h1:=strEq h1;unfold Parts at hP;rw[if_pos h1]at hP;obtain⟨b,q,rfl,hq⟩:=hP;refine⟨_,rfl,r,_,2,.ref q,rfl,rfl,bp.of hR,at2 _ _ _ _,q,_,rfl,.inr (bp.of hq),fun l hl=>?_⟩;exact k l _ (aw hl) hl ai
  ·have h1:=vw h1;unfold Parts at hP;rw[if_neg h1]at hP;refine⟨_,rfl,xv,fun t ht=>⟨t,eT.map V.str,rfl,.inr (bp.of ai),rfl,rfl,_,rfl,?_⟩⟩;have s1:=aw (o:=.tup (eT.map V.str)) ht;have uL:=s1 _ _ hR;rw[show inV (.str w') (eT.map V.str)=decide (w'∈eT)from cX _ _];refine cK (fun h2=>?_) (fun h2=>?_)
   ·have h2:=of_decide_eq_true h2;rw[if_pos h2]at hP;obtain⟨t',f',rfl,rfl⟩:=hP;refine⟨_,rfl,r,_,1,.int t',rfl,rfl,bp.of uL,at1 _ _ _,lK,fun l hl=>?_⟩;exact k l _ (s1.trans (aw hl)) (s1.free hl) ai
   ·have h2:¬w'∈eT:=fun e=>h2 (decide_eq_true e);rw[if_neg h2]at hP;refine⟨_,rfl,iw,fun t2 zi=>⟨t2,zb.map V.str,rfl,.inr (bp.of ai),rfl,rfl,_,rfl,?_⟩⟩;have s2:=s1.trans (aw (o:=.tup (zb.map V.str)) zi);have Kt:=s2 _ _ hR;rw[show inV (.str w') (zb.map V.str)=decide (w'∈zb)from cX _ _];refine cK (fun h3=>?_) (fun h3=>?_)
    ·have h3:=of_decide_eq_true h3;rw[if_pos h3]at hP;obtain⟨b,t',f',rfl,rfl⟩:=hP;refine⟨_,rfl,r,_,2,.int t',rfl,rfl,bp.of Kt,at2 _ _ _ _,lK,fun l hl=>?_⟩;exact k l _ (s2.trans (aw hl)) (s2.free hl) ai
    ·have h3:¬w'∈zb:=fun e=>h3 (decide_eq_true e);rw[if_neg h3]at hP;subst hP;refine⟨Ko,fun l hl=>?_⟩;exact k l _ (s2.trans (aw hl)) (s2.free hl) ai
inductive DF(vs:List V)(H:Hp)(Q:VK)(E_:XK):Prop
 | mk (p q:Addr) (rows:List V) (r:Nat) (w:Str) (ts:List Int) (_:vs=[.ref p,.int r]) (_:aR K H p rows) (_:rows[r]? =some (.ref q)) (_:sg H q w ts) (_:ts.length<=16) (_:∀(l:Addr) (ms:List Int) (H':Hp),Same H H'->H l=none->H' l=some (.lst (ms.map V.int))->ms.Pairwise (· <= ·)->ms.Nodup->(∀j,j∈ms↔j∈ts\/(¬w∈cv/\j=r+1))->Q (.ref l) H')
theorem DG:aM ["rows","r","ways"] ["rows","r"] (ao IE):=by walk_at "sc1"
theorem GZ{f fG fT:Addr}{fd IH pU:el}(F:cy K "ways_of" "ways_of" IE f fd)(T:Txt K w.params mg)(GG:aN P w K mg base bu 1 fG IH ["row"] tJ)(kG:KI K fG)(bG:Binds K IH ["row"] [])(mG:mg "goes_on"=some (.ref fG))(GT:aN P w K mg base bu 1 fT pU ["row"] eA)(kT:KI K fT)(bT:Binds K pU ["row"] [])(mT:mg "targets_of"=some (.ref fT)):aN P w K mg base bu 2 f fd ["rows","r"] (DF (K:=K)):=by
 refine F.ok DG (by walk_at "ln") (fun J4 A outer s H vs Q E hr h=>?_)
 ·obtain⟨p,q,rows,r,w',ts,rfl,hS,hq,hR,hlen,k⟩:=h
  refine⟨_,aL (aT (i:=2) DG.nd rfl (Or.inl rfl) (aA GT hr (by rfl) mT kT bT .nil aQ (ae (aH aO (pv 0) (pv 1) (fun _ _=>rfl)) ah)))
   (aL (cS (cq (aA GG hr (by rfl) mG kG bG .nil aQ (ae (aH aO (pv 0) (pv 1) (fun _ _=>rfl)) ah)))
    (aJ (dy (iX ge gf gl eY (pv 2) (ae (aS cL (pv 1) aj) ah)))) aF)
   (aJ (aC (aG (fq rfl) (by rfl) T.sorted jt (ae (bq (mr rfl) (by rfl) T.set xG (ae (pv 2) ah)) ah))))),?_⟩
  refine⟨_,rfl,_,rfl,p,rows,r,.ref q,rfl,rfl,hS,cj hq,q,w',ts,rfl,hR,fun l H1 s1 nl hl=>?_⟩;have hS1:=s1.seq hS;obtain⟨items,hq1,_⟩:=hR.same s1;refine⟨_,rfl,_,rfl,p,rows,r,.ref q,rfl,rfl,hS1,cj hq,q,w',items,rfl,hq1,_,rfl,?_⟩;have fin:∀(ns:List Int) (H2:Hp),Same H H2->H2 l=some (.lst (ns.map V.int))->ns.length<=17->(∀j,j∈ns↔j∈ts\/(¬w'∈cv/\j=r+1))->
    R0 (gU P w) (uV (R0 (jD K P w) (uV (Aq 2) wL)) wL) [some (V.ref p),some (V.int r),some (V.ref l)] H2 Q:=by
   intro ns H2 s2 h2 hl2 hm;refine⟨_,rfl,l,ns,rfl,aR.of h2,by omega,fun l' us UK hu hnd UL=>⟨l',us,rfl,ai,by omega,fun l2 ms vz hp Fk=>?_⟩⟩;have s3:=s2.trans (aw (o:=qR P w l' us) UK);exact k l2 ms _ (s3.trans (aw vz)) (s3.free vz) ai Fk (hp.nodup_iff.mpr hnd) (fun j=>by rw[hp.mem_iff,UL,hm])
  refine cK (fun h1=>?_) (fun h1=>?_)
  ·have h1:¬w'∈cv:=by simpa using h1
   refine⟨_,rfl,.inl ⟨rfl,_,aR.of hl⟩,_,rfl,_,_,rfl,rfl,l,_,_,rfl,rfl,hl,?_,?_⟩
   ·rw[length_map];exact lF (by omega)
   ·have e:(ts.map V.int++ [V.int ((r:Int)+1)])=(ts++ [(r:Int)+1]).map V.int:=by simp
    rw[e];refine fin (ts++ [(r:Int)+1]) _ ?_ ai (by simp;omega) (fun j=>?_)
    ·intro b o z;rw[az (bt z nl)];exact s1 b o z
    ·rw[mem_append,mem_singleton];exact⟨fun z=>z.imp id fun e=>⟨h1,e⟩,fun z=>z.imp id fun e=>e.2⟩
  ·have h1:w'∈cv:=by simpa using h1
   refine fin ts _ s1 hl (by omega) (fun j=>⟨.inl,fun z=>z.elim id fun e=>absurd h1 e.1⟩)
theorem kl(w:Int):∀ss:List Int,inV (.int w) (ss.map V.int)=decide (w∈ss)
 | []=>rfl
 | x::r=>by
  have ih:=kl w r;unfold inV at ih ⊢;rw[map_cons,any_cons,ih];show((x==w)||_)=_;by_cases h:x=w
  ·subst h;simp
  ·have h':¬w=x:=fun e=>h e.symm;simp[h,h']
theorem ju(ms:List Int):(ms.map V.int).all jA=true:=by rw[all_eq_true];intro x hx;obtain⟨i,_,rfl⟩:=mem_map.mp hx;rfl
theorem sm:∀{ms xs:List Int},ms.Nodup->(∀j∈ms,j∈xs)->ms.length<=xs.length
 | [],_,_,_=>zero_le _
 | m::ms,xs,hn,h=>by have hm:m∈xs:=h m (by simp);have:=sm (ms:=ms) (xs:=xs.erase m) (nodup_cons.mp hn).2 (fun j hj=>(List.mem_erase_of_ne (fun(e:j=m)=>(nodup_cons.mp hn).1 (by rw[<-e];exact hj))).mpr (h j (by simp[hj])));rw[List.length_erase_of_mem hm]at this;have:0<xs.length:=List.length_pos_of_mem hm;simp;omega
theorem cH{n:Nat}(h:n<=1000000):n<=em:=le_trans h (by decide)
theorem bh{n:Nat}(h:n<=1000000):n<em:=kU h (by decide)
structure FR where
 u:Str
 is:List Int
 ts:List Int
def FR.Ok(d:FR):Prop:=d.u∈dz/\(d.u ="table"->∃b,d.is=[b])/\(d.u∈eT->∃t f,d.is=[t,f]/\d.ts=[t])/\(d.u∈zb->∃b t f,d.is=[b,t,f]/\d.ts=[t])/\
 (¬d.u ="table"->¬d.u∈eT->¬d.u∈zb->d.ts=[])/\(d.u∈w2->∃b c,d.is=[b,c])/\(d.u∈w1->∃b r,d.is=b::r)
def Ha(H:Hp)(q:Addr)(d:FR):Prop:=(d.u ="table"/\∃b p,d.is=[b]/\H q=some (.tup [.str d.u,.int b,.ref p])/\H p=some (.tup (d.ts.map V.int)))\/(¬d.u ="table"/\H q=some (.tup (.str d.u::d.is.map V.int)))
def cw(H:Hp)(q:Addr)(d:FR):Prop:=d.Ok/\Ha H q d
theorem cw.same{H H':Hp}{q:Addr}{d:FR}(s:Same H H')(h:cw H q d):cw H' q d:=by
 obtain⟨o,h⟩:=h;refine⟨o,?_⟩;rcases h with ⟨a,b,p,e,h1,h2⟩ | ⟨a,h1⟩
 ·exact .inl ⟨a,b,p,e,s _ _ h1,s _ _ h2⟩
 ·exact .inr ⟨a,s _ _ h1⟩
theorem cw.parts{H:Hp}{q:Addr}{d:FR}(h:cw H q d):∃items,H q=some (.tup (.str d.u::items))/\eW d.u items/\Parts H d.u items d.ts/\∀(i:Nat) (b:Int),(d.u∈w1\/d.u∈w2)->i<2->(d.u∈w1->i=0)->(items[i]? =some (.int b)↔d.is[i]? =some b):=by
 obtain⟨⟨hu,h1,h2,h3,h4,h5,h6⟩,h⟩:=h;rcases h with ⟨a,b,p,e,g1,g2⟩ | ⟨a,g1⟩
 ·refine⟨_,g1,eW.one (by rw[a];decide),?_,fun i b' _ hi hw=>?_⟩
  ·unfold Parts;rw[if_pos a];exact⟨_,p,rfl,g2⟩
  ·have:i=0:=hw (by rw[a];decide);subst this;rw[e];simp
 ·refine⟨_,g1,⟨fun z=>?_,fun z=>?_⟩,?_,fun i b' _ hi hw=>?_⟩
  ·obtain⟨b,c,e⟩:=h5 z;exact⟨b,c,by rw[e];rfl⟩
  ·obtain⟨b,r,e⟩:=h6 z;exact⟨b,r.map V.int,by rw[e];rfl⟩
  ·unfold Parts;rw[if_neg a];split
   ·rename_i z;obtain⟨t,f,e1,e2⟩:=h2 z;exact⟨t,.int f,by rw[e1];rfl,e2⟩
   ·rename_i z1;split
    ·rename_i z;obtain⟨b,t,f,e1,e2⟩:=h3 z;exact⟨.int b,t,.int f,by rw[e1];rfl,e2⟩
    ·rename_i z2;exact h4 a z1 z2
  ·rw[ag,map_eq_some_iff];exact⟨fun⟨y,e1,e2⟩=>by cases e2;exact e1,fun e=>⟨b',e,rfl⟩⟩
def pW(d:FR)(b:Int):Bool:=decide (d.u∈sh)||((decide (d.u∈fA)&&decide (d.is[1]? =some b))||((decide (d.u∈fB)&&(decide (d.is[0]? =some b)||decide (d.is[1]? =some b)))||(decide (d.u∈fC)&&decide (d.is[0]? =some b))))
def Nx(d:FR)(b:Int):Bool:=decide (d.u∈w7)&&decide (d.is[0]? =some b)
def II(d:FR)(r:Nat):List Int:=if d.u ="call"\/d.u∈cv then d.ts else d.ts++ [(r:Int)+1]
def xM(cl:List (List Int))(b s:Int):Bool:=match cl[s.toNat]? with
 | some c=>decide (b∈c)
 | none=>false
def jQ(d:FR)(cl:List (List Int))(r:Nat)(b:Int):Bool:=!pW d b&&(Nx d b||(II d r).all (xM cl b))
theorem vA{H:Hp}{q:Addr}{d:FR}{items:List V}(h:cw H q d)(hi:∀(i:Nat) (b:Int),(d.u∈w1\/d.u∈w2)->i<2->(d.u∈w1->i=0)->(items[i]? =some (.int b)↔d.is[i]? =some b))(b:Int):pW d b=true↔(d.u∈sh\/Need d.u items b):=by
 have hA:d.u∈fA->(items[1]? =some (.int b)↔d.is[1]? =some b):=fun z=>by have:=(by decide+kernel:∀u∈fA,u∈w2/\¬u∈w1) _ z;exact hi 1 b (.inr this.1) (by decide) (fun y=>absurd y this.2)
 have Sb:d.u∈fB->(items[0]? =some (.int b)↔d.is[0]? =some b):=fun z=>by have:=(by decide+kernel:∀u∈fB,u∈w2/\¬u∈w1) _ z;exact hi 0 b (.inr this.1) (by decide) (fun y=>absurd y this.2)
 have jw:d.u∈fB->(items[1]? =some (.int b)↔d.is[1]? =some b):=fun z=>by have:=(by decide+kernel:∀u∈fB,u∈w2/\¬u∈w1) _ z;exact hi 1 b (.inr this.1) (by decide) (fun y=>absurd y this.2)
 have hC:d.u∈fC->(items[0]? =some (.int b)↔d.is[0]? =some b):=fun z=>by have:=(by decide+kernel:∀u∈fC,u∈w1) _ z;exact hi 0 b (.inl this) (by decide) (fun _=>rfl)
 unfold pW Need;simp only[Bool.or_eq_true,Bool.and_eq_true,decide_eq_true_iff];refine or_congr_right (or_congr (and_congr_right fun z=>(hA z).symm) (or_congr (and_congr_right fun z=>or_congr (Sb z).symm (jw z).symm) (and_congr_right fun z=>(hC z).symm)))
theorem Be{d:FR}{items:List V}(hu:eW d.u items)(hi:∀(i:Nat) (b:Int),(d.u∈w1\/d.u∈w2)->i<2->(d.u∈w1->i=0)->(items[i]? =some (.int b)↔d.is[i]? =some b)){ms:List Int}(h:zB d.u items ms)(b:Int):decide (b∈ms)=Nx d b:=by
 unfold Nx;rcases h with ⟨a,b0,r,e,rfl⟩ | ⟨a,rfl⟩
 ·rw[decide_eq_true a,Bool.true_and];refine decide_eq_decide.mpr ?_;have hw:=(by decide+kernel:∀u∈w7,u∈w1\/u∈w2) _ a;rw[<-hi 0 b hw (by decide) (fun _=>rfl),e];simp[eq_comm]
 ·rw[decide_eq_false a];simp
inductive zE(vs:List V)(H:Hp)(Q:VK)(E_:XK):Prop
 | mk (q:Addr) (b:Int) (d:FR) (_:vs=[.ref q,.int b]) (_:cw H q d) (_:∀H',Same H H'->Q (.bl (pW d b)) H')
theorem Hb:aM ["row","box"] ["row","box"] (ao Dv):=by walk_at "sc1"
theorem DH{f fR:Addr}{fd zF:el}(F:cy K "needs_at_once" "needs_at_once" Dv f fd)(T:Txt K w.params mg)(GR:aN P w K mg base bu 1 fR zF ["row"] zC)(kR:KI K fR)(bR:Binds K zF ["row"] [])(mR:mg "reads_of"=some (.ref fR)):aN P w K mg base bu 2 f fd ["row","box"] zE:=by
 refine F.ok Hb (by walk_at "ln") (fun J4 A outer s H vs Q E hr h=>?_)
 ·obtain⟨q,b,d,rfl,hR,k⟩:=h;obtain⟨p,hp,hq⟩:=T.ends;obtain⟨items,g1,g2,g3,g4⟩:=hR.parts;refine⟨_,(aJ (aC (Cp (cT bQ (aH aX (pv 0) aj (fun _ _=>rfl)) (c7 (v:=.ref p) (by rfl) hp rfl) rfl) (iS (cT bQ (pv 1) (aA GR hr (by rfl) mR kR bR .nil aQ (ae (pv 0) ah)) rfl))))),?_⟩;refine⟨_,rfl,q,_,0,_,rfl,rfl,bp.of g1,at0 _ _,p,_,rfl,.inr (hq _),rfl,rfl,_,rfl,?_⟩;rw[show inV (.str d.u) (sh.map V.str)=decide (d.u∈sh)from cX _ _];refine cK (fun e=>?_) (fun e=>?_)
  ·have:pW d b=true:=(vA hR g4 b).mpr (.inl (of_decide_eq_true e));have kk:=k H (.refl _);rw[this]at kk;exact kk
  ·have e:¬d.u∈sh:=fun z=>e (decide_eq_true z);refine⟨_,rfl,_,rfl,q,d.u,_,rfl,g1,hR.1.1,g2,fun l ms H' s' nl hl hlen hrt=>?_⟩;refine⟨l,_,rfl,.inl (aR.of hl),rfl,ju ms,?_⟩;have kk:=k H' s';have e2:pW d b=decide (b∈ms):=by rw[Bool.eq_iff_iff,decide_eq_true_iff,vA hR g4 b,hrt.2.2 b];exact⟨fun z=>z.elim (fun y=>absurd y e) id,.inr⟩
   rw[e2,<-kl]at kk;exact kk
def cm(H:Hp)(lr:Addr)(ds:List FR):Prop:=∃qs:List Addr,H lr=some (.lst (qs.map V.ref))/\qs.length=ds.length/\∀(i:Nat) q d,qs[i]? =some q->ds[i]? =some d->cw H q d
theorem cm.same{H H':Hp}{lr:Addr}{ds:List FR}(s:Same H H')(h:cm H lr ds):cm H' lr ds:=by obtain⟨qs,a,b,c⟩:=h;exact⟨qs,s _ _ a,b,fun i q d h1 h2=>(c i q d h1 h2).same s⟩
theorem cm.get{H:Hp}{lr:Addr}{ds:List FR}{r:Nat}{d:FR}(h:cm H lr ds)(hd:ds[r]? =some d):∃(qs:List Addr) (q:Addr),H lr=some (.lst (qs.map V.ref))/\lh (qs.map V.ref) (r:Int)=some (.ref q)/\(qs.map V.ref)[r]? =some (.ref q)/\cw H q d:=by
 obtain⟨qs,a,b,c⟩:=h;have hr:=(al.mp hd).1;have hq:qs[r]? =some (qs[r]'(by omega)):=ac _;have hq':(qs.map V.ref)[r]? =some (.ref (qs[r]'(by omega))):=by rw[ag,hq];rfl
 exact⟨qs,_,a,cj hq',hq',c r _ d hq hd⟩
inductive zG(vs:List V)(H:Hp)(Q:VK)(E_:XK):Prop
 | mk (lr:Addr) (ds:List FR) (r:Nat) (d:FR) (_:vs=[.ref lr,.int (r:Int)]) (_:cm H lr ds) (_:ds[r]? =some d) (_:d.ts.length<=16) (_:∀(l:Addr) (ms:List Int) (H':Hp),Same H H'->H l=none->H' l=some (.lst (ms.map V.int))->ms.length<=1000->(∀j,j∈ms↔j∈II d r)->Q (.ref l) H')
theorem Hc:aM ["rows","r"] ["rows","r"] (ao Dw):=by walk_at "sc1"
theorem DI{f fT fW:Addr}{fd pU my:el}(F:cy K "ways_ahead" "ways_ahead" Dw f fd)(T:Txt K w.params mg)(GT:aN P w K mg base bu 1 fT pU ["row"] eA)(kT:KI K fT)(bT:Binds K pU ["row"] [])(mT:mg "targets_of"=some (.ref fT))(GW:aN P w K mg base bu 2 fW my ["rows","r"] (DF (K:=K)))(kW:KI K fW)(bW:Binds K my ["rows","r"] [])(mW:mg "ways_of"=some (.ref fW)):aN P w K mg base bu 3 f fd ["rows","r"] zG:=by
 refine F.ok Hc (by walk_at "ln") (fun J4 A outer s H vs Q E hr h=>?_)
 ·obtain⟨lr,ds,r,d,rfl,hR,hd,ht,k⟩:=h;have hr1:=hr.mono (show 1<=2 by decide);obtain⟨qs,q,g1,g2,YX,g3⟩:=hR.get hd;obtain⟨items,i1,i2,i3,i4⟩:=g3.parts;refine⟨_,(aJ (aC (iT (aE dJ (aH aX (aH aO (pv 0) (pv 1) (fun _ _=>rfl)) aj (fun _ _=>rfl)) ay (aP _)) (aA GT hr1 (by rfl) mT kT bT .nil aQ (ae (aH aO (pv 0) (pv 1) (fun _ _=>rfl)) ah)) (aA GW hr (by rfl) mW kW bW .nil aQ (ae (pv 0) (ae (pv 1) ah)))))),?_⟩;refine⟨_,rfl,_,rfl,lr,_,_,_,rfl,rfl,aR.of g1,g2,q,_,0,_,rfl,rfl,bp.of i1,at0 _ _,rfl,_,rfl,?_⟩;refine cK (fun e=>?_) (fun e=>?_)
  ·have e:=strEq e;refine⟨_,rfl,_,rfl,lr,_,_,_,rfl,rfl,aR.of g1,g2,q,d.u,d.ts,rfl,⟨items,i1,i3⟩,fun l H' s' nl hl=>?_⟩;refine k l d.ts H' s' nl hl (by omega) fun j=>?_;unfold II;rw[if_pos (.inl e)]
  ·have e:=vw e;refine⟨_,rfl,_,rfl,lr,q,_,r,d.u,d.ts,rfl,aR.of g1,YX,⟨items,i1,i3⟩,ht,fun l ms H' s' nl hl hp hn hm=>?_⟩;have hms:ms.length<=17:=by
    have hsub:ms ⊆ d.ts++ [(r:Int)+1]:=fun j hj=>by rw[mem_append,mem_singleton];exact((hm j).mp hj).imp id fun z=>z.2
    have:=sm hn hsub;rw[length_append,List.length_singleton]at this;omega
   refine k l ms H' s' nl hl (by omega) fun j=>?_;rw[hm j];unfold II;by_cases hn:d.u∈cv
   ·rw[if_pos (.inr hn)];exact⟨fun z=>z.elim id fun y=>absurd hn y.1,.inl⟩
   ·rw[if_neg (fun z=>z.elim e hn),mem_append,mem_singleton];exact⟨fun z=>z.imp id fun y=>y.2,fun z=>z.imp id fun y=>⟨hn,y⟩⟩
def dr(H:Hp)(lc:Addr)(cl:List (List Int)):Prop:=∃cs:List V,H lc=some (.lst cs)/\cs.length=cl.length/\∀(i:Nat) c ms,cs[i]? =some c->cl[i]? =some ms->jP H c ms
theorem dr.same{H H':Hp}{lc:Addr}{cl:List (List Int)}(s:Same H H')(h:dr H lc cl):dr H' lc cl:=by obtain⟨cs,a,b,c⟩:=h;exact⟨cs,s _ _ a,b,fun i x ms h1 h2=>(c i x ms h1 h2).same s⟩
inductive zH(vs:List V)(H:Hp)(Q:VK)(E_:XK):Prop
 | mk (lr lc:Addr) (ds:List FR) (cl:List (List Int)) (r:Nat) (d:FR) (b:Int) (_:vs=[.ref lr,.ref lc,.int (r:Int),.int b]) (_:cm H lr ds) (_:dr H lc cl) (_:ds[r]? =some d) (_:d.ts.length<=16) (_:(∀s∈II d r,0<=s/\s<cl.length)) (_:∀H',Same H H'->Q (.bl (jQ d cl r b)) H')
theorem Hd:aM ["rows","claims","r","box"] ["rows","claims","r","box"] (ao xB):=by walk_at "sc1"
def Bf:Scope:={kind:=.function,names:=[(".0",.local),("s",.local),("box",.free),("claims",.free)],isGenerator:=false,isCoroutine:=false,more:=[]}
theorem sq:cC (ao xB) Bf ["rows","claims","r","box"] ["s","box","claims"] [none,some 3,some 1]:=by walk_at "sc2"
theorem DJ{f fN fW fA:Addr}{fd pT my Pk:el}(F:cy K "is_right" "is_right" xB f fd)(T:Txt K w.params mg)(GN:aN P w K mg base bu 2 fN pT ["row","box"] zE)(kN:KI K fN)(bN:Binds K pT ["row","box"] [])(mN:mg "needs_at_once"=some (.ref fN))(GW:aN P w K mg base bu 1 fW my ["row"] vy)(kW:KI K fW)(bW:Binds K my ["row"] [])(mW:mg "writes_of"=some (.ref fW))(GA:aN P w K mg base bu 3 fA Pk ["rows","r"] zG)(kA:KI K fA)(bA:Binds K Pk ["rows","r"] [])(mA:mg "ways_ahead"=some (.ref fA)):aN P w K mg base bu 4 f fd ["rows","claims","r","box"] zH:=by
 refine F.ok Hd (by walk_at "ln") (fun J4 A outer s H vs Q E hr h=>?_)
 ·obtain⟨lr,lc,ds,cl,r,d,b,rfl,hR,hC,hd,ht,hin,k⟩:=h;have hr1:=hr.mono (show 1<=_ by decide);have hrN:=hr.mono (show 2<=_ by decide);obtain⟨qs,q,g1,g2,YX,g3⟩:=hR.get hd
  refine⟨_,(aL (cS (cq (aA GN hrN (by rfl) mN kN bN .nil aQ (ae (aH aO (pv 0) (pv 2) (fun _ _=>rfl)) (ae (pv 3) ah)))) (aJ (aC dI)) aF)
   (aJ (aC (Cp (cT bQ (pv 3) (aA GW hr1 (by rfl) mW kW bW .nil aQ (ae (aH aO (pv 0) (pv 2) (fun _ _=>rfl)) ah)) rfl) (iS (aG (ez rfl) (by rfl) T.all jN (ae (cW (N':=["s","box","claims"]) (fr:=[none,some 3,some 1]) sq rfl (cJ (aA GA hr (by rfl) mA kA bA .nil aQ (ae (pv 0) (ae (pv 2) ah)))) (fun C s0 H0 fp=>(bg (i:=0) sq.nd rfl (Or.inl rfl))) (fun C s0 H0 fp=>df) (fun C s0 H0 fp=>(cT (r:=Ox K false) bQ (pv 1) (aH (r:=JT K) aO (pv 2) (pv 0) (fun _ _=>rfl)) rfl))) ah))))))),?_⟩
  refine⟨_,rfl,_,rfl,lr,_,_,_,rfl,rfl,aR.of g1,g2,_,rfl,q,b,d,rfl,g3,fun H1 s1=>⟨_,rfl,?_⟩⟩;refine cK (fun e=>?_) (fun e=>?_)
  ·have kk:=k H1 s1;unfold jQ at kk;rw[e]at kk;exact kk
  ·have e:pW d b=false:=by simpa using e
   unfold jQ at k;rw[e]at k;obtain⟨items,i1,i2,i3,i4⟩:=(g3.same s1).parts;refine⟨_,rfl,_,rfl,_,rfl,lr,_,_,_,rfl,rfl,aR.of (s1 _ _ g1),g2,q,d.u,items,rfl,i1,i2,fun l ms H2 s2 nl hl hw=>?_⟩;refine⟨l,_,rfl,.inl (aR.of hl),rfl,ju ms,_,rfl,?_⟩;have s12:=s1.trans s2;rw[show inV (.int b) (ms.map V.int)=Nx d b from(kl _ _).trans (Be i2 i4 hw b)];refine cK (fun e2=>?_) (fun e2=>?_)
   ·have e2:Nx d b=true:=e2;have kk:=k H2 s12;rw[e2]at kk;exact kk
   ·have e2:Nx d b=false:=by simpa using e2
    rw[e2]at k;obtain⟨cs,c1,c2,c3⟩:=hC;refine⟨_,rfl,_,rfl,lr,ds,r,d,rfl,hR.same s12,hd,ht,fun la as H3 s3 nla hla hal ham=>?_⟩;have km:=s12.trans s3;have h3c:=km _ _ c1;refine⟨la,rfl,⟨_,aR.of hla⟩,fun D nD=>cO (K:=K) (a:=la) (xs:=as.map V.int) (fun i σ ys H4=>∃v:Option V,σ=[v,some (.int b),some (.ref lc)]/\ys=((as.take i).map (xM cl b)).map V.bl/\Same H3 H4/\H4 D=some (.lst ys)) ?_ ?_ ?_ ?_⟩
    ·exact⟨none,rfl,rfl,aw nD,ai⟩
    ·rintro i σ ys H4 _ ⟨v,rfl,rfl,s4,_⟩;exact aR.of (s4 _ _ hla)
    ·rintro i x σ ys H4 hx ⟨v,rfl,rfl,s4,hD⟩;rw[ag]at hx;obtain⟨j,hj,rfl⟩:=map_eq_some_iff.mp hx;have hil:=(al.mp hj).1;obtain⟨h0,h1⟩:=hin j ((ham j).mp (am hj));obtain⟨jn,rfl⟩:=Int.eq_ofNat_of_zero_le h0;have hjn:jn<cl.length:=by omega
     have hcl:cl[jn]? =some cl[jn]:=ac hjn;have hcs:cs[jn]? =some (cs[jn]'(by omega)):=ac _;obtain⟨qc,hqc,hq1,_⟩:=c3 jn _ _ hcs hcl;rw[hqc]at hcs;have UN:xM cl b ((jn:Nat):Int)=decide (b∈cl[jn]):=by unfold xM;rw[lv,hcl]
     refine⟨_,rfl,_,rfl,_,rfl,lc,_,_,_,rfl,rfl,aR.of (s4 _ _ h3c),cj (j:=jn) hcs,qc,_,rfl,.inr (bp.of (s4 _ _ (km _ _ hq1))),rfl,ju _,hD,?_,_,rfl,?_,aZ s4 nD,ai⟩
     ·rw[length_map,length_map,length_take];exact bh (by omega)
     ·rw[take_add_one,hj,map_append,map_append];show _=_++ [V.bl (xM cl b ((jn:Nat):Int))];rw[UN,<-kl];rfl
    ·rintro σ ys H4 ⟨v,rfl,rfl,s4,hD⟩;rw[length_map,take_length]at hD;refine⟨D,_,rfl,aR.of hD,?_⟩;have kk:=k H4 (km.trans s4);have e3:(II d r).all (xM cl b)=(as.map (xM cl b)).all id:=by rw[Bool.eq_iff_iff,all_eq_true,all_eq_true];exact⟨fun z y hy=>by obtain⟨j,hj,rfl⟩:=mem_map.mp hy;exact z j ((ham j).mp hj),fun z j hj=>z _ (mem_map.mpr ⟨j,(ham j).mpr hj,rfl⟩)⟩
     rw[e3]at kk;exact kk
theorem iC{X:Cx}{K:Frag}(hK:X.K=K){i j:Nat}{x y:Str}{px py pt:Pos}{k:Nat}(hc:X.calm=true)(hN:X.N.Nodup)(hi:X.N[i]? =some x)(hx:Loc X.env.scope x)(hj:X.N[j]? =some y)(hy:Loc X.env.scope y)
  (hf:X.fn x=true\/X.env.scope.names.lookup x=some .local:=by first | exact .inl rfl | exact .inr rfl) (hf2:X.fn y=true\/X.env.scope.names.lookup y=some .local:=by first | exact .inl rfl | exact .inr rfl):
  PG X (.Tuple [.Name x px,.Name y py] k pt) (N9 K 2 (Cv (iL i) (Cv (iL j) N8))):=hK▸wA (n:=2) hc (gJ (bg hN hi hx hf) (gJ (bg hN hj hy hf2) sC))
def qZ(ds:List FR)(cl:List (List Int))(r:Nat):Bool:=match ds[r]?,cl[r]? with
 | some d,some c=>c.any fun b=>!jQ d cl r b
 | _,_=>false
def firstBad(ds:List FR)(cl:List (List Int)):Option Nat:=(List.range ds.length).find? (qZ ds cl)
def vB(ds:List FR):Prop:=∀(r:Nat) d,ds[r]? =some d->d.ts.length<=16/\∀s∈II d r,0<=s/\s<ds.length
theorem Bg{ds:List FR}{cl:List (List Int)}{r:Nat}(hr:r<ds.length)(h:qZ ds cl r=true)(hlt:∀j,j<r->qZ ds cl j=false):firstBad ds cl=some r:=by unfold firstBad;rw[List.find?_range_eq_some];exact⟨h,mem_range.mpr hr,fun j hj=>by rw[hlt j hj];rfl⟩
theorem DK{ds:List FR}{cl:List (List Int)}(h:∀j,j<ds.length->qZ ds cl j=false):firstBad ds cl=none:=by unfold firstBad;rw[List.find?_eq_none];intro j hj;rw[h j (mem_range.mp hj)];decide
inductive DL(vs:List V)(H:Hp)(Q:VK)(E_:XK):Prop
 | mk (lr lc:Addr) (ds:List FR) (cl:List (List Int)) (_:vs=[.ref lr,.ref lc]) (_:cm H lr ds) (_:dr H lc cl) (_:cl.length=ds.length) (_:ds.length<=3000) (_:vB ds) (_:firstBad ds cl=none) (_:∀H',Same H H'->Q .non H')
theorem xN:aM ["rows","claims","r","claim"] ["rows","claims"] (ao zy):=by walk_at "sc1"
def DM:Scope:={kind:=.function,names:=[(".0",.local),("box",.local),("is_right",.globalImplicit),("claims",.free),("r",.free),("rows",.free)],isGenerator:=false,isCoroutine:=false,more:=[]}
theorem vC:cC (ao zy) DM ["rows","claims","r","claim"] ["box","rows","claims","r"] [none,some 0,some 1,some 2]:=by walk_at "sc2"
theorem He{f fL fR:Addr}{fd zI zF:el}(F:cy K "check_free" "check_free" zy f fd)(T:Txt K w.params mg)(GL:aN P w K mg base bu 3 fL zI ["thing"] (zD (K:=K)))(kL:KI K fL)(bL:Binds K zI ["thing"] [])(mL:mg "is_claim"=some (.ref fL))(GR:aN P w K mg base bu 4 fR zF ["rows","claims","r","box"] zH)(kR:KI K fR)(bR:Binds K zF ["rows","claims","r","box"] [])(mR:mg "is_right"=some (.ref fR)):aN P w K mg base bu 5 f fd ["rows","claims"] DL:=by
 refine F.ok xN (by walk_at "ln") (fun J4 A outer s H vs Q E hr h=>?_)
 ·obtain⟨lr,l,ds,cl,rfl,hR,hC,hlen,hn,hP,hfb,hq⟩:=h;have UO:=hr.mono (show 3<=4 by decide)
  refine⟨_,(aL (cS (dm (cq (aG cG (by rfl) T.Fn gA (ae (pv 1) (ae (eB (v:=.ty "list") (by rfl) T.list dq rfl) ah))))) jk aF)
   (aL (dA PassesOwn.never rfl (ei rfl T.range (ae (aG aK (by rfl) T.len bV (ae (pv 0) ah)) ah)) (bg (i:=2) xN.nd rfl (Or.inr rfl)) (aJ (cS (iK (aE Oh (pv 2) (aG aK (by rfl) T.len bV (ae (pv 1) ah)) (aP _)) (eZ (dm (cq (aA GL UO (by rfl) mL kL bL .nil aQ (ae (aH aO (pv 1) (pv 2) (fun _ _=>rfl)) ah)))))).pt jk aF)))
   (aL (cS (aE rO (aG aK (by rfl) T.len bV (ae (pv 1) ah)) (aG aK (by rfl) T.len bV (ae (pv 0) ah)) (aP _)) jk aF)
   (aJ (dA PassesOwn.never rfl (oE rfl T.enum (ae (pv 1) ah)) (iC (K:=K) (i:=2) (j:=3) rfl rfl xN.nd rfl (Or.inr rfl) rfl (Or.inl rfl)) (aJ (cS (dm (cq (aG (ez rfl) (by rfl) T.all jN (ae (cW (X:=(gi bu P w K mg base ["rows","claims","r","claim"] "check_free" (ao zy) f J4 A outer s H E).wo) (N':=["box","rows","claims","r"]) (fr:=[none,some 0,some 1,some 2]) vC rfl (k8 (pv 3)) (fun C s0 H0 fp=>(bg (i:=0) vC.nd rfl (Or.inl rfl))) (fun C s0 H0 fp=>df) (fun C s0 H0 fp=>(aA GR hr (by rfl) mR kR bR .nil aQ (ae (pv 1) (ae (pv 2) (ae (pv 3) (ae (pv 0) ah))))))) ah)))) jk aF))))))),?_⟩
  obtain⟨qs,g1,g2,g3⟩:=id hR;obtain⟨cs,c1,c2,c3⟩:=id hC;have gd:∀j,j<ds.length->∃x ms,cs[j]? =some x/\cl[j]? =some ms/\jP H x ms:=fun j hj=>by have h1:cs[j]? =some (cs[j]'(by omega)):=ac _;have h2:cl[j]? =some (cl[j]'(by omega)):=ac _;exact⟨_,_,h1,h2,c3 j _ _ h1 h2⟩
  refine⟨_,rfl,_,_,_,_,rfl,.lst c1,fY,_,rfl,bU (by decide) ?_⟩;refine⟨_,rfl,lr,_,rfl,.inl (aR.of g1),_,rfl,by rw[length_map];omega,by rw[length_map];omega,gL (n:=(((qs.map V.ref).length:Nat):Int).toNat) (fun i σ H6=>∃v2:Option V,σ=[some (.ref lr),some (.ref l),v2,none]/\Same H H6) ?_ ?_ ?_⟩
  ·exact⟨none,rfl,.refl _⟩
  ·rintro i σ H6 hi ⟨v2,rfl,s6⟩;have hin:i<ds.length:=by rw[lv,length_map,g2]at hi;exact hi
   obtain⟨x,ms,hx,_,hg⟩:=gd i hin;refine⟨_,rfl,_,rfl,l,_,rfl,.inl (aR.of (s6 _ _ c1)),_,_,rfl,rfl,_,rfl,?_⟩;refine bU (fun z=>absurd (of_decide_eq_true z) (by omega)) ?_;refine⟨_,rfl,_,rfl,l,_,_,x,rfl,rfl,aR.of (s6 _ _ c1),(by rw[Int.zero_add];exact cj hx),x,true,rfl,.inl ⟨rfl,ms,hg.same s6⟩,fun H7 s7=>⟨_,rfl,bU (by decide) ?_⟩⟩;exact⟨_,rfl,s6.trans s7⟩
  ·rintro σ H6 ⟨v2,rfl,s6⟩;have h6:=s6 _ _ c1;have hr6:=s6 _ _ g1;refine⟨_,rfl,l,_,rfl,.inl (aR.of h6),_,rfl,lr,_,rfl,.inl (aR.of hr6),_,_,rfl,rfl,_,rfl,?_⟩;refine bU (fun z=>absurd (of_decide_eq_true z) (by rw[length_map];omega)) ?_;refine⟨_,rfl,l,rfl,⟨_,aR.of h6⟩,ke (xs:=cs) (fun i σ H7=>i<=ds.length/\(∀j,j<i->qZ ds cl j=false)/\∃v2 v3:Option V,σ=[some (.ref lr),some (.ref l),v2,v3]/\Same H H7) ?_ ?_ ?_ ?_⟩
   ·exact⟨zero_le _,fun j hj=>absurd hj (by omega),_,_,rfl,s6⟩
   ·rintro i σ H7 hi ⟨_,_,v2,v3,rfl,s7⟩;exact aR.of (s7 _ _ c1)
   ·rintro i x σ H7 tt hx Fo ⟨_,hlt,v2,v3,rfl,s7⟩;have hic:=(al.mp hx).1;have hid:i<ds.length:=by omega
    obtain⟨x',ms,hx',hms,hg⟩:=gd i hid;rw[hx]at hx';cases hx';have hd:ds[i]? =some ds[i]:=ac hid;generalize ds[i]=d at hd;obtain⟨p1,p2⟩:=hP i d hd;have Pl:=s7.trans (aw (o:=.tup [V.int i,x]) Fo);have htt:upd H7 tt (.tup [V.int i,x]) tt=_:=ai;generalize upd H7 tt (.tup [V.int i,x])=H8 at Pl htt ⊢;refine⟨tt,_,rfl,bp.of htt,rfl,_,_,rfl,_,_,rfl,rfl,?_⟩;obtain⟨q,rfl,YZ,hr8,_,_,h64⟩:=hg;refine⟨_,rfl,q,rfl,⟨_,bp.of (Pl _ _ YZ)⟩,fun D nD=>gW (K:=K) (a:=q) (xs:=ms.map V.int) (fun j σ ys H9=>∃v:Option V,σ=[v,some (.ref lr),some (.ref l),some (.int (i:Int))]/\ys=((ms.take j).map (jQ d cl i)).map V.bl/\Same H8 H9/\H9 D=some (.lst ys)) ?_ ?_ ?_ ?_⟩
    ·exact⟨none,rfl,rfl,aw nD,ai⟩
    ·rintro j σ ys H9 _ ⟨v,rfl,rfl,s9,_⟩;exact bp.of (s9 _ _ (Pl _ _ YZ))
    ·rintro j y σ ys H9 hy ⟨v,rfl,rfl,s9,hD⟩;rw[ag]at hy;obtain⟨b,hb1,rfl⟩:=map_eq_some_iff.mp hy;have hjl:=(al.mp hb1).1;have t9:=Pl.trans s9;refine⟨_,rfl,_,rfl,_,rfl,_,rfl,lr,l,ds,cl,i,d,b,rfl,hR.same t9,hC.same t9,hd,p1,fun s hs=>by rw[hlen];exact p2 s hs,fun YN qN=>⟨qN _ _ hD,?_,_,rfl,?_,aZ (s9.trans qN) nD,ai⟩⟩
     ·rw[length_map,length_map,length_take];exact bh (by omega)
     ·rw[take_add_one,hb1,map_append,map_append];rfl
    ·rintro σ ys H9 ⟨v,rfl,rfl,s9,hD⟩;rw[length_map,take_length]at hD;refine⟨D,_,rfl,aR.of hD,_,rfl,?_⟩;have hbad:qZ ds cl i=!((ms.map (jQ d cl i)).all id):=by unfold qZ;rw[hd,hms];show(ms.any fun b=>!jQ d cl i b)=_;rw[all_map,Bool.eq_iff_iff,List.any_eq_true];simp
     refine cK (fun e=>?_) (fun e=>?_)
     ·have hb:qZ ds cl i=true:=by rw[hbad];exact e
      have z:=Bg hid hb hlt;rw[hfb]at z;cases z
     ·have hb:qZ ds cl i=false:=by rw[hbad];exact Bool.eq_false_iff.mpr e
      refine⟨hid,fun j hj=>?_,_,_,rfl,Pl.trans s9⟩;rcases Nat.lt_or_eq_of_le (Nat.le_of_lt_succ hj)with z | z
      ·exact hlt j z
      ·rw[z];exact hb
   ·rintro σ H7 ⟨_,hlt,v2,v3,rfl,s7⟩;exact hq _ s7
theorem zJ{n j:Nat}(h:j<n):uY n (j:Int)=some j:=by unfold uY;rw[if_pos (by omega),if_pos (by omega)];rfl
theorem UP{t u:TS}{D:Ends}{σ:St}{H:Hp}(h:∀v:TS,v=u->uT t v D σ H):uT t u D σ H:=h u rfl
theorem xO{t u v:TS}{D:Ends}{σ:St}{H:Hp}(e:v=uT t u)(h:∀x:TS,x=u->uT t x D σ H):v D σ H:=e▸h u rfl
theorem cutE{t v:TS}{D:Ends}{σ:St}{H:Hp}(e:v=t)(h:t D σ H):v D σ H:=e▸h
theorem UQ{c:TT}{tb u v:TS}{D:Ends}{σ:St}{H:Hp}(e:v=uT (wB c tb) u)(h:∀x y:TS,x=tb->y=u->uT (wB c x) y D σ H):v D σ H:=e▸h tb u rfl rfl
@[elab_as_elim] theorem bZ{G:Hp}{l:Addr}{o:HO}{P:Hp->Prop}(n:G l=none)(h:∀G1,Same G G1->G1 l=some o->P G1):P (upd G l o):=h _ (aw n) ai
def isStar:Expr->Bool
 | .Starred _ _=>true
 | _=>false
theorem Hf{e:Expr}{es:List Expr}{env:Env}(h:isStar e=false):starEach (e::es) env=(false,eval e env)::starEach es env:=starEach.eq_3 _ _ _ (fun e1 p h1=>by rw[h1]at h;cases h)
inductive IJ(X:Cx):List Expr->List TE->Prop where
 | nil:IJ X [] []
 | cons {e:Expr} {te:TE} {es:List Expr} {ts:List TE} (h:PE X e te) (r:IJ X es ts) (hs:isStar e=false:=by rfl):IJ X (e::es) (te::ts)
def DN:List TE->TA
 | []=>wL
 | te::ts=>uV te (DN ts)
theorem IJ.pa{X:Cx}{es:List Expr}{ts:List TE}(h:IJ X es ts):PA X es (DN ts):=by
 induction h with
 | nil=>exact ah
 | cons h r hs ih=>exact ae h ih (Hf hs)
theorem zK{X:Cx}{es:List Expr}{ts:List TE}{pos:Pos}(h:IJ X es ts):PE X (.List es pos) (JP (DN ts)):=aY h.pa
theorem tK{X:Cx}{es:List Expr}{ts:List TE}{pos:Pos}{x1}(h:IJ X es ts):PE X (.Tuple es x1 pos) (Ol (DN ts)):=aV h.pa
@[irreducible] def DO(X:Cx)(e:Expr)(t:TE):Prop:=PE X e t
@[irreducible] def Ny(X:Cx)(e:Stmt)(t:TS):Prop:=PS X e t
theorem Hg{X:Cx}{es:List Expr}{ts:List TE}{pos:Pos}(h:IJ X es ts):DO X (.List es pos) (JP (DN ts)):=by unfold DO;exact aY h.pa
theorem Hh{X:Cx}{pos:Pos}{i:Nat}{x:Str}{e:Expr}{te:TE}{pos':Pos}(hN:X.N.Nodup)(hi:X.N[i]? =some x)(hx:Loc X.env.scope x)(he:DO X e te)(hs:swapsWith e (some (.Name x pos')) pos.line X.env=pure false:=by rfl)(hf:X.fn x=true\/X.env.scope.names.lookup x=some .local:=by first | exact .inl rfl | exact .inr rfl | assumption):
  Ny X (.Assign [.Name x pos'] e pos) (Cw te (iL i)):=by
 unfold DO at he;unfold Ny;exact aT hN hi hx he hs hf
theorem vD{X:Cx}{st:Stmt}{t:TS}(h:Ny X st t):Nr X st t:=by unfold Ny at h;exact aq h
theorem tL:bootBuiltins "dict"=some (.type "dict"):=by decide+kernel
theorem eN:∀(ns:List Str) (vs:List V) (i:Nat) (x:Str),ns.Nodup->ns[i]? =some x->(ns.zip vs).lookup x=vs[i]?
 | [],_,i,x,_,h=>by simp at h
 | n::ns,[],i,x,_,h=>by simp
 | n::ns,v::vs,0,x,_,h=>by
  have e:n=x:=by simpa using h
  subst e;rw[zip_cons_cons,List.lookup_cons_self];rfl
 | n::ns,v::vs,i+1,x,hn,h=>by have hn':=nodup_cons.mp hn;have hm:x∈ns:=am (by simpa using h);have ne:¬x=n:=fun e=>hn'.1 (e▸hm);rw[zip_cons_cons,List.lookup_cons,show(x==n)=false from beq_eq_false_iff_ne.mpr ne];exact eN ns vs i x hn'.2 (by simpa using h)
theorem tM:∀(ns:List Str) (vs:List V) (x:Str),¬x∈ns->(ns.zip vs).lookup x=none
 | [],_,_,_=>by simp
 | _::_,[],_,_=>by simp
 | n::ns,v::vs,x,h=>by have ne:¬x=n:=fun e=>h (by simp[e]);rw[zip_cons_cons,List.lookup_cons,show(x==n)=false from beq_eq_false_iff_ne.mpr ne];exact tM ns vs x fun z=>h (by simp[z])
theorem oH(y:V):∀(ns:List Str) (vs:List V) (i:Nat) (x:Str),ns.Nodup->ns[i]? =some x->i<vs.length->gb x y (ns.zip vs)=ns.zip (vs.set i y)
 | [],_,i,x,_,h,_=>by simp at h
 | n::ns,[],i,x,_,h,l=>by simp at l
 | n::ns,v::vs,0,x,_,h,_=>by
  have e:n=x:=by simpa using h
  subst e;show(if n=n then _ else _)=_;rw[if_pos rfl];rfl
 | n::ns,v::vs,i+1,x,hn,h,l=>by have hn':=nodup_cons.mp hn;have hm:x∈ns:=am (by simpa using h);have ne:¬n=x:=fun e=>hn'.1 (e▸hm);show(if n=x then _ else (n,v)::gb x y (ns.zip vs))=_;rw[if_neg ne,oH y ns vs i x hn'.2 (by simpa using h) (by simpa using l)];rfl
def dX(H H':Hp):Prop:=∀b xs,H b=some (.tup xs)->H' b=some (.tup xs)
theorem dX.of{H H':Hp}(e:Same H H'):dX H H':=fun b xs h=>e b _ h
theorem dX.upd{H:Hp}{p:Addr}{o o':HO}(h:H p=some o)(n:∀xs,o≠.tup xs):dX H (upd H p o'):=fun b xs e=>by rw[az (jy e h (fun z=>n xs z.symm))];exact e
def Keeps(R:Addr->Prop)(H H':Hp):Prop:=∀c o,H c=some o->(¬R c\/∃xs,o=.tup xs)->H' c=some o
theorem Keeps.refl{R:Addr->Prop}{H:Hp}:Keeps R H H:=fun _ _ e _=>e
theorem Keeps.trans{R:Addr->Prop}{H H1 H2:Hp}(a:Keeps R H H1)(b:Keeps R H1 H2):Keeps R H H2:=fun c o e n=>b c o (a c o e n) n
theorem Keeps.same{R:Addr->Prop}{H H':Hp}(s:Same H H'):Keeps R H H':=fun c o e _=>s c o e
theorem Keeps.more{R R':Addr->Prop}{H H':Hp}(a:Keeps R H H')(h:∀c,R c->R' c):Keeps R' H H':=fun c o e n=>a c o e (n.imp (fun z y=>z (h c y)) id)
theorem Keeps.tups{R:Addr->Prop}{H H':Hp}(a:Keeps R H H'):dX H H':=fun b xs e=>a b _ e (.inr ⟨xs,rfl⟩)
theorem Keeps.upd{R:Addr->Prop}{H H':Hp}{p:Addr}{o o':HO}(a:Keeps R H H')(h:H' p=some o)(hn:∀xs,o≠.tup xs)(hp:R p):Keeps R H (L2.upd H' p o'):=fun c u e n=>by
 have e':=a c u e n;have:c≠p:=fun z=>by
  rw[z,h]at e';have e':=Option.some.inj e';rcases n with n | ⟨xs,rfl⟩
  ·exact n (z▸hp)
  ·exact hn xs e'
 rw[az this];exact e'
def cY(a:Addr)(H H':Hp):Prop:=∀c o,c≠a->H c=some o->H' c=some o
theorem cY.trans{a:Addr}{H H' Y0:Hp}(e:cY a H H')(e':cY a H' Y0):cY a H Y0:=fun c o n h=>e' c o n (e c o n h)
theorem cY.put{a:Addr}{H:Hp}{o:HO}:cY a H (upd H a o):=fun c u n h=>by rw[az n];exact h
theorem cY.same{a:Addr}{H H':Hp}(e:Same H H'):cY a H H':=fun c o _ h=>e c o h
theorem cY.free{l:Addr}{H H1:Hp}{q:Addr}(x:cY l H H1)(h:q≠l)(n:H1 q=none):H q=none:=by
 cases e:H q with
 | none=>rfl
 | some o=>rw[x q o h e]at n;exact absurd n (by simp)
def Sd:List (Str×List Str):=[("stop",[]),("back",[]),("halt",["number"]),("set",["box","value"]),("more",["box","value"]),("copy",["box","box"]),("add",["box","box"]),("less",["box","box"]),("load",["box","box"]),("keep",["box","box"]),("tell",["box"]),("see",["box","number"]),("put",["box","aside"]),("take",["box","aside"]),("jump",["target","far"]),("zero",["box","target","far"]),("below",["box","target","far"]),("call",["target","far"]),("mark",["target","far"]),("table",["box","targets"])]
def bf(u:Str):List Str:=(Sd.lookup u).getD []
def cI:List Str:=["jump","zero","below","call","mark"]
inductive GF(n:Int):FR->Prop
 | val {u:Str} {b c:Int} (h:u∈zL2) (hb:0<=b/\b<=7):GF n ⟨u,[b,c],[]⟩
 | two {u:Str} {b c:Int} (h:u∈w2) (hb:0<=b/\b<=7) (hc:0<=c/\c<=7):GF n ⟨u,[b,c],[]⟩
 | B4 {u:Str} {b c:Int} (h:u∈zL1) (hb:0<=b/\b<=7) (hc:0<=c):GF n ⟨u,[b,c],[]⟩
 | tell {b:Int} (hb:0<=b/\b<=7):GF n ⟨"tell",[b],[]⟩
 | halt {c:Int}:GF n ⟨"halt",[c],[]⟩
 | non {u:Str} (h:u∈zL3):GF n ⟨u,[],[]⟩
 | jmp {u:Str} {t c:Int} (h:u∈zL4) (ht:0<=t/\t<n):GF n ⟨u,[t,c],[t]⟩
 | B5 {u:Str} {b t c:Int} (h:u∈zL0) (hb:0<=b/\b<=7) (ht:0<=t/\t<n):GF n ⟨u,[b,t,c],[t]⟩
 | tab {b:Int} {ts:List Int} (hb:0<=b/\b<=7) (hl:1<=ts.length/\ts.length<=16) (ht:∀t∈ts,0<=t/\t<n):GF n ⟨"table",[b],ts⟩
theorem GF.ok{n:Int}{d:FR}(h:GF n d):d.Ok:=by
 cases h with
 | @val u b c h hb=>
  obtain⟨h1,h2,h3,h4,h5⟩:=(by decide+kernel:∀u∈zL2,u∈dz/\¬u ="table"/\¬u∈eT/\¬u∈zb/\¬u∈w2) u h;exact⟨h1,fun z=>absurd z h2,fun z=>absurd z h3,fun z=>absurd z h4,fun _ _ _=>rfl,fun z=>absurd z h5,fun _=>⟨b,_,rfl⟩⟩
 | @two u b c h hb hc=>
  obtain⟨h1,h2,h3,h4,h5⟩:=(by decide+kernel:∀u∈w2,u∈dz/\¬u ="table"/\¬u∈eT/\¬u∈zb/\¬u∈w1) u h;exact⟨h1,fun z=>absurd z h2,fun z=>absurd z h3,fun z=>absurd z h4,fun _ _ _=>rfl,fun _=>⟨b,c,rfl⟩,fun z=>absurd z h5⟩
 | @B4 u b c h hb hc=>
  obtain⟨h1,h2,h3,h4,h5⟩:=(by decide+kernel:∀u∈zL1,u∈dz/\¬u ="table"/\¬u∈eT/\¬u∈zb/\¬u∈w2) u h;exact⟨h1,fun z=>absurd z h2,fun z=>absurd z h3,fun z=>absurd z h4,fun _ _ _=>rfl,fun z=>absurd z h5,fun _=>⟨b,_,rfl⟩⟩
 | @tell b hb=>
  obtain⟨h1,h2,h3,h4,h5⟩:=(by decide+kernel:("tell": Str)∈dz/\¬("tell": Str)="table"/\¬("tell": Str)∈eT/\¬("tell": Str)∈zb/\¬("tell": Str)∈w2);exact⟨h1,fun z=>absurd z h2,fun z=>absurd z h3,fun z=>absurd z h4,fun _ _ _=>rfl,fun z=>absurd z h5,fun _=>⟨b,_,rfl⟩⟩
 | @halt c=>
  obtain⟨h1,h2,h3,h4,h5,h6⟩:=(by decide+kernel:("halt": Str)∈dz/\¬("halt": Str)="table"/\¬("halt": Str)∈eT/\¬("halt": Str)∈zb/\¬("halt": Str)∈w2/\¬("halt": Str)∈w1);exact⟨h1,fun z=>absurd z h2,fun z=>absurd z h3,fun z=>absurd z h4,fun _ _ _=>rfl,fun z=>absurd z h5,fun z=>absurd z h6⟩
 | @non u h=>
  obtain⟨h1,h2,h3,h4,h5,h6⟩:=(by decide+kernel:∀u∈zL3,u∈dz/\¬u ="table"/\¬u∈eT/\¬u∈zb/\¬u∈w2/\¬u∈w1) u h;exact⟨h1,fun z=>absurd z h2,fun z=>absurd z h3,fun z=>absurd z h4,fun _ _ _=>rfl,fun z=>absurd z h5,fun z=>absurd z h6⟩
 | @jmp u t c h ht=>
  obtain⟨h1,h2,h3,h4,h5,h6⟩:=(by decide+kernel:∀u∈zL4,u∈dz/\¬u ="table"/\u∈eT/\¬u∈zb/\¬u∈w2/\¬u∈w1) u h;exact⟨h1,fun z=>absurd z h2,fun _=>⟨t,c,rfl,rfl⟩,fun z=>absurd z h4,fun _ z=>absurd h3 z,fun z=>absurd z h5,fun z=>absurd z h6⟩
 | @B5 u b t c h hb ht=>
  obtain⟨h1,h2,h3,h4,h5⟩:=(by decide+kernel:∀u∈zL0,u∈dz/\¬u ="table"/\¬u∈eT/\u∈zb/\¬u∈w2) u h;exact⟨h1,fun z=>absurd z h2,fun z=>absurd z h3,fun _=>⟨b,t,c,rfl,rfl⟩,fun _ _ z=>absurd h4 z,fun z=>absurd z h5,fun _=>⟨b,_,rfl⟩⟩
 | @tab b ts hb hl ht=>
  obtain⟨h1,h3,h4,h5⟩:=(by decide+kernel:("table": Str)∈dz/\¬("table": Str)∈eT/\¬("table": Str)∈zb/\¬("table": Str)∈w2);exact⟨h1,fun _=>⟨b,rfl⟩,fun z=>absurd z h3,fun z=>absurd z h4,fun z=>absurd rfl z,fun z=>absurd z h5,fun _=>⟨b,_,rfl⟩⟩
theorem GF.ts{n:Int}{d:FR}(h:GF n d):d.ts.length<=16/\∀t∈d.ts,0<=t/\t<n:=by
 cases h with
 | jmp h ht=>exact⟨zle,fun t z=>by rw[mem_singleton.mp z];exact ht⟩
 | B5 h hb ht=>exact⟨zle,fun t z=>by rw[mem_singleton.mp z];exact ht⟩
 | tab hb hl ht=>exact⟨hl.2,ht⟩
 | _=>exact⟨zero_le _,fun t z=>nomatch z⟩
theorem GF.mono{n m:Int}{d:FR}(h:GF n d)(l:n<=m):GF m d:=by
 cases h with
 | val h hb=>exact .val h hb
 | two h hb hc=>exact .two h hb hc
 | B4 h hb hc=>exact .B4 h hb hc
 | tell hb=>exact .tell hb
 | halt=>exact .halt
 | non h=>exact .non h
 | jmp h ht=>exact .jmp h ⟨ht.1,by omega⟩
 | B5 h hb ht=>exact .B5 h hb ⟨ht.1,by omega⟩
 | tab hb hl ht=>exact .tab hb hl fun t z=>⟨(ht t z).1,by have:=(ht t z).2;omega⟩
theorem Ha.tups{H H':Hp}{q:Addr}{d:FR}(h:Ha H q d)(s:dX H H'):Ha H' q d:=by
 rcases h with ⟨a,b,p,e,h1,h2⟩ | ⟨a,h1⟩
 ·exact .inl ⟨a,b,p,e,s _ _ h1,s _ _ h2⟩
 ·exact .inr ⟨a,s _ _ h1⟩
theorem cw.tups{H H':Hp}{q:Addr}{d:FR}(h:cw H q d)(s:dX H H'):cw H' q d:=⟨h.1,h.2.tups s⟩
def bY(H:Hp)(xs:List V)(ds:List FR):Prop:=∃qs:List Addr,xs=qs.map V.ref/\qs.length=ds.length/\∀(i:Nat) q d,qs[i]? =some q->ds[i]? =some d->cw H q d
theorem bY.tups{H H':Hp}{xs:List V}{ds:List FR}(h:bY H xs ds)(s:dX H H'):bY H' xs ds:=h.imp fun qs z=>⟨z.1,z.2.1,fun i q d a b=>(z.2.2 i q d a b).tups s⟩
theorem bY.rows{H:Hp}{lr:Addr}{xs:List V}{ds:List FR}(h:bY H xs ds)(e:H lr=some (.lst xs)):cm H lr ds:=by obtain⟨qs,rfl,a,b⟩:=h;exact⟨qs,e,a,b⟩
theorem Txt.Sd{pr:Params}(T:Txt K pr mg):∃p,mg "PARTS"=some (.ref p)/\∀u∈dz,∃q,eu K pr p u (some (.ref q))/\∀H,bp K H q ((bf u).map V.str):=by obtain⟨p,hp,_,h0,h1,h2,h3,h4,h5,h6,h7,h8,h9,h10,h11,h12,h13,h14,h15,IK,UR,h18,US⟩:=T.GQ;refine⟨p,hp,fun u hu=>?_⟩;rcases(by decide+kernel:∀u:Str,u∈dz->(u=("stop": Str)/\bf u=([]:List Str))\/(u=("back": Str)/\bf u=([]:List Str))\/(u=("halt": Str)/\bf u=(["number"]:List Str))\/(u=("set": Str)/\bf u=(["box","value"]:List Str))\/(u=("more": Str)/\bf u=(["box","value"]:List Str))\/(u=("copy": Str)/\bf u=zL5)\/(u=("add": Str)/\bf u=zL5)\/(u=("less": Str)/\bf u=zL5)\/(u=("load": Str)/\bf u=zL5)\/(u=("keep": Str)/\bf u=zL5)\/(u=("tell": Str)/\bf u=(["box"]:List Str))\/(u=("see": Str)/\bf u=(["box","number"]:List Str))\/(u=("put": Str)/\bf u=zL6)\/(u=("take": Str)/\bf u=zL6)\/(u=("jump": Str)/\bf u=zL8)\/(u=("zero": Str)/\bf u=zL10)\/(u=("below": Str)/\bf u=zL10)\/(u=("call": Str)/\bf u=zL8)\/(u=("mark": Str)/\bf u=zL8)\/(u=("table": Str)/\bf u=(["box","targets"]:List Str))) u hu with ⟨rfl,e⟩ | ⟨rfl,e⟩ | ⟨rfl,e⟩ | ⟨rfl,e⟩ | ⟨rfl,e⟩ | ⟨rfl,e⟩ | ⟨rfl,e⟩ | ⟨rfl,e⟩ | ⟨rfl,e⟩ | ⟨rfl,e⟩ | ⟨rfl,e⟩ | ⟨rfl,e⟩ | ⟨rfl,e⟩ | ⟨rfl,e⟩ | ⟨rfl,e⟩ | ⟨rfl,e⟩ | ⟨rfl,e⟩ | ⟨rfl,e⟩ | ⟨rfl,e⟩ | ⟨rfl,e⟩<;>rw[e]<;>assumption
theorem jR{xs:List V}{v:V}(h:xs.getLast? =some v):lh xs (-1)=some v:=by
 unfold lh uY;have hl:xs.length≠0:=fun z=>by rw[length_eq_zero_iff.mp z]at h;cases h
 rw[if_neg (by decide),if_pos (by omega)];show xs[((-1:Int)+(xs.length:Int)).toNat]? =_;rw[show((-1:Int)+(xs.length:Int)).toNat=xs.length-1 by omega,<-List.getLast?_eq_getElem?];exact h
def d7(d:FR):Int:=if d.u∈cI then d.is.getLast?.getD 0 else 0
theorem cw.nt{H:Hp}{q:Addr}{d:FR}(h:cw H q d)(n:¬d.u ="table"):H q=some (.tup (.str d.u::d.is.map V.int)):=by
 rcases h.2 with ⟨a,_⟩ | ⟨_,a⟩
 ·exact absurd a n
 ·exact a
theorem cw.tb{H:Hp}{q:Addr}{d:FR}(h:cw H q d)(n:d.u ="table"):∃b p,d.is=[b]/\H q=some (.tup [.str d.u,.int b,.ref p])/\H p=some (.tup (d.ts.map V.int)):=by
 rcases h.2 with ⟨_,a⟩ | ⟨a,_⟩
 ·exact a
 ·exact absurd n a
theorem GF.far{n:Int}{d:FR}(h:GF n d)(hu:d.u∈cI):¬d.u ="table"/\∃c r,d.is=r++ [c]/\d7 d=c:=by
 have ht:¬d.u ="table":=fun z=>by rw[z]at hu;exact absurd hu (by decide+kernel)
 refine⟨ht,?_⟩;unfold d7;rw[if_pos hu];cases h with
 | @jmp u t c h ht=>exact⟨c,[t],rfl,rfl⟩
 | @B5 u b t c h hb ht=>exact⟨c,[b,t],rfl,rfl⟩
 | @val u b c h hb=>exact⟨c,[b],rfl,rfl⟩
 | @two u b c h hb hc=>exact⟨c,[b],rfl,rfl⟩
 | @B4 u b c h hb hc=>exact⟨c,[b],rfl,rfl⟩
 | @tell b hb=>exact⟨b,[],rfl,rfl⟩
 | @halt c=>exact⟨c,[],rfl,rfl⟩
 | @tab b ts hb hl ht=>exact⟨b,[],rfl,rfl⟩
 | @non u h=>exact absurd hu ((by decide+kernel:∀u∈zL3,¬u∈cI) u h)
def pV(mz ks:List Str)(items:List V):List V:=((ks.zip items).filter fun x=>decide (x.1∈mz)).map (·.2)
def pI(mz ks:List Str)(is:List Int):List Int:=((ks.zip is).filter fun x=>decide (x.1∈mz)).map (·.2)
def cZ(d:FR)(mz:List Str):List Int:=pI mz (bf d.u) d.is
theorem DP(mz:List Str):∀(ks:List Str) (is:List Int),pV mz ks (is.map V.int)=(pI mz ks is).map V.int
 | [],_=>rfl
 | _::_,[]=>rfl
 | k::ks,i::is=>by
  have ih:=DP mz ks is;unfold pV pI at ih ⊢;rw[map_cons,zip_cons_cons,zip_cons_cons,filter_cons,filter_cons];by_cases c:k∈mz
  ·simp only[c,decide_true,if_true,map_cons];rw[ih]
  ·simp only[c,decide_false,Bool.false_eq_true,if_false];exact ih
theorem Hi{mz:List Str}{ks:List Str}{items:List V}{i:Nat}{k:Str}{x:V}(h1:ks[i]? =some k)(h2:items[i]? =some x):pV mz (ks.take (i+1)) (items.take (i+1))=pV mz (ks.take i) (items.take i)++(if k∈mz then [x]else []):=by
 have l1:=(al.mp h1).1;have l2:=(al.mp h2).1;unfold pV;rw[take_add_one,take_add_one,h1,h2,toList_some,toList_some,List.zip_append (by rw[length_take,length_take];omega),List.filter_append,map_append];congr 1;show((List.filter _ [(k,x)]).map _)=_;rw[filter_cons];by_cases c:k∈mz
 ·simp[c]
 ·simp[c]
theorem Ku(mz ks:List Str)(items:List V):(pV mz ks items).length<=ks.length:=by unfold pV;rw[length_map];exact le_trans (List.length_filter_le _ _) (by rw[length_zip];exact Nat.min_le_left _ _)
theorem IL(a:V)(l:List V):qK (a::l) (some 1) none=l:=by unfold qK;simp[HT.d9]
theorem GF.len{n:Int}{d:FR}(h:GF n d)(ht:¬d.u ="table"):d.is.length=(bf d.u).length:=by
 cases h with
 | @val u b c h hb=>exact(by decide+kernel:∀u∈zL2,2=(bf u).length) u h
 | @two u b c h hb hc=>exact(by decide+kernel:∀u∈w2,2=(bf u).length) u h
 | @B4 u b c h hb hc=>exact(by decide+kernel:∀u∈zL1,2=(bf u).length) u h
 | @tell b hb=>exact(by decide+kernel:1=(bf "tell").length)
 | @halt c=>exact(by decide+kernel:1=(bf "halt").length)
 | @non u h=>exact(by decide+kernel:∀u∈zL3,0=(bf u).length) u h
 | @jmp u t c h ht=>exact(by decide+kernel:∀u∈zL4,2=(bf u).length) u h
 | @B5 u b t c h hb ht=>exact(by decide+kernel:∀u∈zL0,3=(bf u).length) u h
 | @tab b ts hb hl ht'=>exact absurd rfl ht
theorem Bh{H:Hp}{q:Addr}{d:FR}{n:Int}(h:cw H q d)(g:GF n d):∃items,H q=some (.tup (.str d.u::items))/\items.length=(bf d.u).length/\(bf d.u).length<=3/\∀mz:List Str,¬("targets": Str)∈mz->pV mz (bf d.u) items=(cZ d mz).map V.int:=by
 have h3:(bf d.u).length<=3:=(by decide+kernel:∀u∈dz,(bf u).length<=3) d.u h.1.1;by_cases c:d.u ="table"
 ·obtain⟨b,p,e,h1,h2⟩:=h.tb c;refine⟨_,h1,by rw[c];exact(by decide+kernel:2=(bf "table").length),h3,fun mz hk=>?_⟩;unfold cZ;rw[c,e,show bf "table"=(["box","targets"]:List Str)from by decide+kernel];unfold pV pI;by_cases cb:("box": Str)∈mz
  ·simp[cb,hk]
  ·simp[cb,hk]
 ·exact⟨_,h.nt c,by rw[length_map];exact g.len c,h3,fun mz _=>DP mz _ _⟩
inductive Kv(vs:List V)(H:Hp)(Q:VK)(E_:XK):Prop
 | mk (u:Str) (_:vs=[.str u]) (_:u∈dz) (_:Q (.bl (decide (u∈cI))) H)
theorem UT:aM ["word"] ["word"] (ao lL):=by walk_at "sc1"
theorem xP{f:Addr}{fd:el}(F:cy K "has_far" "has_far" lL f fd)(T:Txt K w.params mg): aN P w K mg base bu 1 f fd ["word"] Kv:=by
 refine F.ok UT (by walk_at "ln") (fun J4 A outer s H vs Q E hr h=>?_)
 ·obtain⟨u,rfl,Pm,k⟩:=h;obtain⟨pp,hpp,hpk⟩:=T.Sd;obtain⟨q,hq,hS⟩:=hpk u Pm;refine ck (au (aq (aC (cT bQ ay (oF (c7 (v:=.ref pp) (by rfl) hpp rfl) (pv 0) (fun _ _=>rfl)) rfl)))) ?_;refine⟨_,rfl,pp,u,_,rfl,rfl,hq,q,_,rfl,.inr (hS _),rfl,?_,?_⟩
  ·rw[all_map,all_eq_true];exact fun _ _=>rfl
  show Q (.bl (inV (.str "far") ((bf u).map V.str))) H;rw[cX,show decide (("far": Str)∈bf u)=decide (u∈cI)from(by decide+kernel:∀u∈dz,decide (("far": Str)∈bf u)=decide (u∈cI)) u Pm];exact k
inductive Pn(vs:List V)(H:Hp)(Q:VK)(E_:XK):Prop
 | mk (q:Addr) (d:FR) (n:Int) (_:vs=[.ref q]) (_:cw H q d) (_:GF n d) (_:Q (.int (d7 d)) H)
theorem UU:aM ["row"] ["row"] (ao pQ):=by walk_at "sc1"
theorem Bi{f fH:Addr}{fd Pp:el}(F:cy K "far_of" "far_of" pQ f fd)(T:Txt K w.params mg)(GH:aN P w K mg base bu 1 fH Pp ["word"] Kv)(kH:KI K fH)(bH:Binds K Pp ["word"] [])(mH:mg "has_far"=some (.ref fH)):aN P w K mg base bu 2 f fd ["row"] Pn:=by
 refine F.ok UU (by walk_at "ln") (fun J4 A outer s H vs Q E hr h=>?_)
 ·obtain⟨q,d,n,rfl,hR,hG,k⟩:=h;obtain⟨items,hq,_⟩:=hR.parts;refine ck (au (aq (aC (iT (cq (aA GH hr (by rfl) mH kH bH .nil aQ (ae (aH aX (pv 0) aj (fun _ _=>rfl)) ah))) (aH aX (pv 0) (iV fh aj) (fun _ _=>rfl)) aj)))) ?_;refine⟨_,rfl,q,_,0,_,rfl,rfl,bp.of hq,at0 _ _,d.u,rfl,hR.1.1,_,rfl,?_⟩;refine cK (fun e=>?_) (fun e=>?_)
  ·obtain⟨ht,c,r,e1,e2⟩:=hG.far (of_decide_eq_true e);have h1:=hR.nt ht;refine⟨_,rfl,_,rfl,q,_,_,.int c,rfl,rfl,bp.of h1,jR ?_,by rw[<-e2];exact k⟩;rw[e1,map_append];show(V.str d.u::(r.map V.int++ [V.int c])).getLast? =_;rw[<-List.cons_append,List.getLast?_append];rfl
  ·have e3:d7 d=0:=if_neg (fun z=>e (decide_eq_true z));rw[e3]at k;exact k
inductive Kw(vs:List V)(H:Hp)(Q:VK)(E_:XK):Prop
 | mk (q pk:Addr) (d:FR) (n:Int) (ks:List Str) (_:vs=[.ref q,.ref pk]) (_:cw H q d) (_:GF n d) (_:(∀H1,Same H H1->bp K H1 pk (ks.map V.str))) (_:¬("targets": Str)∈ks) (_:∀(l:Addr) (H1:Hp),Same H H1->H l=none->H1 l=some (.lst ((cZ d ks).map V.int))->Q (.ref l) H1)
theorem UW:aM ["row","kinds"] ["row","kinds"] (ao ix):=by walk_at "sc1"
def Kx:Scope:={kind:=.function,names:=[(".0",.local),("kind",.local),("part",.local),("kinds",.free)],isGenerator:=false,isCoroutine:=false,more:=[]}
theorem DQ:cC (ao ix) Kx ["row","kinds"] ["kind","part","kinds"] [none,none,some 1]:=by walk_at "sc2"
theorem vE{f:Addr}{fd:el}(F:cy K "parts_of" "parts_of" ix f fd)(T:Txt K w.params mg): aN P w K mg base bu 1 f fd ["row","kinds"] (Kw (K:=K)):=by
 refine F.ok UW (by walk_at "ln") (fun J4 A outer s H vs Q E hr h=>?_)
 ·obtain⟨q,pk,d,n,ks,rfl,hR,hG,hK,hnt,k⟩:=h;obtain⟨pp,hpp,hpk⟩:=T.Sd;obtain⟨qk,hqk,hS⟩:=hpk d.u hR.1.1;obtain⟨items,hq,hil,h3,hpV⟩:=Bh hR hG;refine ck (au (aq (aC (cW (N':=["kind","part","kinds"]) (fr:=[none,none,some 1]) DQ rfl (Kg rfl T.zip (ae (oF (c7 (v:=.ref pp) (by rfl) hpp rfl) (aH aX (pv 0) aj (fun _ _=>rfl)) (fun _ _=>rfl)) (ae (gN sJ (pv 0) (il aj) j3) ah))) (fun C s0 H0 fp=>(iC (K:=K) (i:=0) (j:=1) rfl rfl DQ.nd rfl (Or.inl rfl) rfl (Or.inl rfl))) (fun C s0 H0 fp=>(j7 (aE (r:=Ox K false) bQ (pv 0) (pv 2) rfl))) (fun C s0 H0 fp=>(pv 1)))))) ?_;refine⟨_,rfl,q,_,0,_,rfl,rfl,bp.of hq,at0 _ _,pp,d.u,_,rfl,rfl,hqk,?_⟩;refine⟨_,rfl,1,rfl,q,_,rfl,bp.of hq,?_,fun p1 np1=>?_⟩
  ·intro z;have:HT.d9 (V.str d.u::items).length 0 (some 1)=0:=z.1;simp[HT.d9]at this
  rw[IL];have s1:=aw (o:=.tup items) np1;have hp1:upd H p1 (.tup items) p1=_:=ai;generalize upd H p1 (.tup items)=G1 at s1 hp1 ⊢
  refine⟨qk,p1,rfl,⟨_,hS _⟩,⟨_,bp.of hp1⟩,fun D nD=>Df (K:=K) (a:=qk) (b:=p1) (xs:=(bf d.u).map V.str) (zs:=items) (by rw[length_map,hil])
    (fun i σ ys G=>∃(v1 v2:Option V),σ=[v1,v2,some (.ref pk)]/\ys=pV ks ((bf d.u).take i) (items.take i)/\Same G1 G/\G D=some (.lst ys)) ?_ ?_ ?_ ?_⟩
  ·exact⟨none,none,rfl,by simp[pV],aw nD,ai⟩
  ·rintro i σ ys G _ ⟨v1,v2,rfl,rfl,s2,_⟩;exact⟨hS _,bp.of (s2 _ _ hp1)⟩
  ·rintro i y z σ ys G t hy hz nt ⟨v1,v2,rfl,rfl,s2,hD⟩;rw[ag]at hy;obtain⟨kd,hkd,rfl⟩:=map_eq_some_iff.mp hy;have s3:=aw (o:=.tup [.str kd,z]) nt;have ht:upd G t (.tup [.str kd,z]) t=_:=ai;have hsn:=Hi (mz:=ks) hkd hz;have hDt:=s3 _ _ hD;generalize upd G t (.tup [.str kd,z])=G3 at s3 ht hDt ⊢;refine⟨t,_,rfl,bp.of ht,rfl,_,_,rfl,_,_,rfl,rfl,?_⟩;refine⟨_,rfl,_,rfl,pk,_,rfl,.inr (hK _ (s1.trans (s2.trans s3))),rfl,?_,?_⟩
   ·rw[all_map,all_eq_true];exact fun _ _=>rfl
   refine⟨_,rfl,?_⟩;show if inV (.str kd) (ks.map V.str)=true then _ else _;rw[cX];refine cK (fun e=>?_) (fun e=>?_)
   ·rw[if_pos (of_decide_eq_true e)]at hsn;have hl:=Ku ks ((bf d.u).take i) (items.take i);have hl2:((bf d.u).take i).length<=3:=le_trans (by rw[length_take];exact Nat.min_le_right _ _) h3;exact⟨_,rfl,hDt,bh (by omega),_,_,rfl,hsn.symm,aZ (s2.trans s3) nD,ai⟩
   ·rw[if_neg (fun z=>e (decide_eq_true z)),append_nil]at hsn;rw[<-hsn]at hDt ⊢;exact⟨_,_,rfl,rfl,s2.trans s3,hDt⟩
  ·rintro σ ys G ⟨v1,v2,rfl,rfl,s2,hD⟩;rw[length_map,take_of_length_le (le_refl _),take_of_length_le (by omega),hpV ks hnt]at hD;refine k D _ (s1.trans s2) ?_ hD;cases e:H D with
   | none=>rfl
   | some o=>rw[s1 _ _ e]at nD;cases nD
def nxt(d:FR)(n:Int):List Int:=d.ts++(if d.u∈cv then []else [n+1])
theorem xQ{n:Int}{d:FR}(ks:List Str)(hu:d.u∈dz):(cZ d ks).length<=3:=by unfold cZ pI;rw[length_map];refine le_trans (List.length_filter_le _ _) (le_trans (by rw[length_zip];exact Nat.min_le_left _ _) ((by decide+kernel:∀u∈dz,(bf u).length<=3) d.u hu))
theorem zL{kvs:List (Key×V)}{k:Key}{v:V}{j:Key}:(cM (putK kvs k v) j).isSome=true↔(cM kvs j).isSome=true\/j=k:=by
 rw[gQ];by_cases c:j=k
 ·rw[if_pos c];exact⟨fun _=>.inr c,fun _=>rfl⟩
 ·rw[if_neg c];exact⟨.inl,fun z=>z.elim id fun y=>absurd y c⟩
inductive Pq(vs:List V)(H:Hp)(Q:VK)(E_:XK):Prop
 | mk (lr:Addr) (ds:List FR) (n:Int) (_:vs=[.ref lr]) (_:cm H lr ds) (_:(∀d∈ds,GF n d)) (_:ds.length<=1000) (_:∀(pd:Addr) (kvs:List (Key×V)) (H1:Hp),Same H H1->H1 pd=some (.dK kvs)->(∀j:Int,(cM kvs (Sum.inl j)).isSome=true↔∃d∈ds,j∈cZ d ["aside"])->Q (.ref pd) H1)
theorem Hj:aM ["rows","named","row","aside"] ["rows"] (ao ft):=by walk_at "sc1"
theorem nE{f fP:Addr}{fd sr:el}(F:cy K "asides_named" "asides_named" ft f fd)(T:Txt K w.params mg)(GP:aN P w K mg base bu 1 fP sr ["row","kinds"] (Kw (K:=K)))(kP:KI K fP)(bP:Binds K sr ["row","kinds"] [])(mP:mg "parts_of"=some (.ref fP)):aN P w K mg base bu 2 f fd ["rows"] Pq:=by
 refine F.ok Hj (by walk_at "ln") (fun J4 A outer s H vs Q E hr h=>?_)
 ·obtain⟨lr,ds,n,rfl,hR,hG,hl,k⟩:=h;have hu:=iM hr;obtain⟨qs,h0,hql,hqr⟩:=id hR
  refine ck (ak (aq (aT (i:=1) Hj.nd rfl (Or.inl rfl) gS))
   (ak (aq (dA PassesOwn.never rfl (cJ (pv 0)) (bg (i:=2) Hj.nd rfl (Or.inl rfl)) (aJ (dA PassesOwn.never rfl (cJ (aA GP hr (by rfl) mP kP bP .nil aQ (ae (pv 2) (ae (aV (ae ay ah)) ah)))) (bg (i:=3) Hj.nd rfl (Or.inl rfl)) (aJ (iq hu (pv 1) (pv 3) dI rfl))))))
   (au (aq (aC (pv 1)))))) ?_
  refine fun pd Hk=>?_;have s1:=aw (o:=.dK []) Hk;have hpd:upd H pd (.dK []) pd=_:=ai;generalize upd H pd (.dK [])=G1 at s1 hpd ⊢;refine⟨_,rfl,lr,rfl,⟨_,aR.of (s1 _ _ h0)⟩,gK (K:=K) (xs:=qs.map V.ref) (fun i σ G=>∃(v2 v3:Option V) (kvs:List (Key×V)),σ=[some (.ref lr),some (.ref pd),v2,v3]/\Same H G/\G pd=some (.dK kvs)/\kvs.length<=3*i/\∀j:Int,(cM kvs (Sum.inl j)).isSome=true↔∃d∈ds.take i,j∈cZ d ["aside"]) ?_ ?_ ?_ ?_⟩
  ·exact⟨none,none,[],rfl,s1,hpd,zero_le _,fun j=>by simp[cM]⟩
  ·rintro i σ G _ ⟨v2,v3,kvs,rfl,s2,_⟩;exact aR.of (s2 _ _ h0)
  ·rintro i x σ G hx ⟨v2,v3,kvs,rfl,s2,hd,hkl,hv⟩;rw[ag]at hx;obtain⟨q,hq,rfl⟩:=map_eq_some_iff.mp hx;have hil:i<ds.length:=by have:=(al.mp hq).1;omega
   have hdi:ds[i]? =some ds[i]:=ac hil;have hg:=hG _ (bi hil);have htk:∀p:FR->Prop,(∃d∈ds.take (i+1),p d)↔(∃d∈ds.take i,p d)\/p ds[i]:=fun p=>by
    rw[take_add_one,hdi,toList_some];constructor
    ·rintro⟨d,hd,hp⟩;rcases mem_append.mp hd with z | z
     ·exact .inl ⟨d,z,hp⟩
     ·rw[mem_singleton.mp z]at hp;exact .inr hp
    ·rintro(⟨d,hd,hp⟩ | hp)
     ·exact⟨d,List.mem_append_left _ hd,hp⟩
     ·exact⟨_,List.mem_append_right _ mem_cons_self,hp⟩
   have hF:=(hqr i q _ hq hdi).same s2;generalize ds[i]=d at hdi hg htk hF;refine⟨_,rfl,zle,fun pt Y1=>?_⟩;have s3:=aw (o:=.tup [V.str "aside"]) Y1;have hpt:upd G pt (.tup [V.str "aside"]) pt=_:=ai;have IQ:=s3 _ _ hd;generalize upd G pt (.tup [V.str "aside"])=G3 at s3 hpt IQ ⊢;refine⟨q,pt,d,n,["aside"],rfl,hF.same s3,hg,fun G4 s4=>bp.of (s4 _ _ hpt),by decide+kernel,fun l G4 s4 nl B6=>?_⟩;have hpl:=xQ (n:=n) ["aside"] hF.1.1;have UX:pd≠l:=fun z=>by rw[z,nl]at IQ;cases IQ
   have s24:=s2.trans (s3.trans s4);refine⟨l,rfl,⟨_,aR.of B6⟩,gK (K:=K) (xs:=(cZ d ["aside"]).map V.int) (fun c σ G=>∃(v3:Option V) (kvs':List (Key×V)),σ=[some (.ref lr),some (.ref pd),some (.ref q),v3]/\Same H G/\G l=some (.lst ((cZ d ["aside"]).map V.int))/\G pd=some (.dK kvs')/\kvs'.length<=3*i+c/\∀j:Int,(cM kvs' (Sum.inl j)).isSome=true↔(∃d∈ds.take i,j∈cZ d ["aside"])\/j∈(cZ d ["aside"]).take c) ?_ ?_ ?_ ?_⟩
   ·exact⟨_,kvs,rfl,s24,B6,s4 _ _ IQ,hkl,fun j=>by rw[hv j];simp⟩
   ·rintro c σ G _ ⟨_,_,rfl,_,z,_⟩;exact aR.of z
   ·rintro c x σ G hx ⟨v3,kvs',rfl,s5,UY,B7,Y2,Se⟩;rw[ag]at hx;obtain⟨a,ha,rfl⟩:=map_eq_some_iff.mp hx;have hcl:=(al.mp ha).1;refine⟨_,rfl,_,rfl,pd,_,rfl,lA.k (k:=Sum.inl a) B7 (bh (by omega)),?_⟩;refine⟨_,_,rfl,aZ s5 Hk,by rw[az (Ne.symm UX)];exact UY,ai,le_trans (cU _ _ _) (by omega),fun j=>?_⟩;rw[zL,Se j,take_add_one,ha,toList_some,mem_append,mem_singleton,or_assoc];exact or_congr Iff.rfl (or_congr Iff.rfl ⟨fun z=>Sum.inl.inj z,fun z=>by rw[z]⟩)
   ·rintro σ G ⟨v3,kvs',rfl,s5,UY,B7,Y2,Se⟩;rw[length_map]at Y2 Se;refine⟨_,_,_,rfl,s5,B7,by omega,fun j=>?_⟩;rw[Se j,htk,take_of_length_le (le_refl _)]
  ·rintro σ G ⟨v2,v3,kvs,rfl,s2,hd,hkl,hv⟩;rw[length_map,hql,take_of_length_le (le_refl _)]at hv;exact⟨_,rfl,k pd kvs _ s2 hd hv⟩
def StandsAt(ld:List (Option Int))(r:Int)(n:Nat):Prop:=ld[n]? =some (some r)/\∀n':Nat,ld[n']? =some (some r)->n'=n
inductive Ky(vs:List V)(H:Hp)(Q:VK)(E_:XK):Prop
 | mk (ll:Addr) (ld:List (Option Int)) (_:vs=[.ref ll]) (_:H ll=some (.lst (ld.map oV))) (_:ld.length<=5000) (_:∀(pd:Addr) (kvs:List (Key×V)) (H1:Hp),Same H H1->H1 pd=some (.dK kvs)->(∀(r:Int) (n:Nat),StandsAt ld r n->cM kvs (Sum.inl r)=some (.int (n:Int)))->Q (.ref pd) H1)
theorem Kz:aM ["leads","places","n","lead"] ["leads"] (ao iZ):=by walk_at "sc1"
theorem tN{f:Addr}{fd:el}(F:cy K "places_of" "places_of" iZ f fd)(T:Txt K w.params mg): aN P w K mg base bu 1 f fd ["leads"] Ky:=by
 refine F.ok Kz (by walk_at "ln") (fun J4 A outer s H vs Q E hr h=>?_)
 ·obtain⟨ll,ld,rfl,hl,hn,k⟩:=h;have hu:=iM hr
  refine ck (ak (aq (aT (i:=1) Kz.nd rfl (Or.inl rfl) gS))
   (ak (aq (dA PassesOwn.never rfl (oE rfl T.enum (ae (pv 0) ah)) (iC (K:=K) (i:=2) (j:=3) rfl rfl Kz.nd rfl (Or.inl rfl) rfl (Or.inl rfl)) (aJ (cS (aE ik (pv 3) dM (aP _)) (aJ (iq hu (pv 1) (pv 3) (pv 2) rfl)) aF))))
   (au (aq (aC (pv 1)))))) ?_
  refine fun pd Hk=>?_;have s1:=aw (o:=.dK []) Hk;have hpd:upd H pd (.dK []) pd=_:=ai;generalize upd H pd (.dK [])=G1 at s1 hpd ⊢;refine⟨_,rfl,ll,rfl,⟨_,aR.of (s1 _ _ hl)⟩,ke (K:=K) (xs:=ld.map oV) (fun i σ G=>∃(v2 v3:Option V) (kvs:List (Key×V)),σ=[some (.ref ll),some (.ref pd),v2,v3]/\Same H G/\G pd=some (.dK kvs)/\kvs.length<=i/\∀(r:Int) (n:Nat),StandsAt ld r n->n<i->cM kvs (Sum.inl r)=some (.int (n:Int))) ?_ ?_ ?_ ?_⟩
  ·exact⟨none,none,[],rfl,s1,hpd,le_refl _,fun r n _ hj=>absurd hj (Nat.not_lt_zero _)⟩
  ·rintro i σ G _ ⟨v2,v3,kvs,rfl,s2,_⟩;exact aR.of (s2 _ _ hl)
  ·rintro i x σ G tt hx Fo ⟨v2,v3,kvs,rfl,s2,hd,hkl,hv⟩;rw[ag]at hx;obtain⟨a,ha,rfl⟩:=map_eq_some_iff.mp hx;have hi:=(al.mp ha).1;have s3:=s2.trans (aw (o:=.tup [V.int i,oV a]) Fo);have IQ:=aw (o:=.tup [V.int i,oV a]) Fo _ _ hd;have htt:upd G tt (.tup [V.int i,oV a]) tt=_:=ai;generalize upd G tt (.tup [V.int i,oV a])=G3 at s3 IQ htt ⊢;refine⟨tt,_,rfl,bp.of htt,rfl,_,_,rfl,_,_,rfl,rfl,?_⟩;cases a with
   | none=>
    refine⟨_,rfl,rfl,_,rfl,bU (by decide) ⟨_,_,_,rfl,s3,IQ,by omega,fun r n hs hj=>?_⟩⟩;refine hv r n hs ?_;have:n≠i:=fun z=>by rw[z]at hs;rw[hs.1]at ha;cases ha
    omega
   | some r0=>
    refine⟨_,rfl,rfl,_,rfl,c6 (by simp[oV]) ?_⟩;refine⟨_,rfl,_,rfl,_,rfl,pd,_,rfl,lA.k (k:=Sum.inl r0) IQ (bh (by omega)),?_⟩;refine⟨_,_,_,rfl,aZ s3 Hk,ai,le_trans (cU _ _ _) (by omega),fun r n hs hj=>?_⟩;rw[gQ];by_cases e:r=r0
    ·subst e;rw[if_pos rfl,hs.2 i ha]
    ·rw[if_neg (fun z=>e (Sum.inl.inj z))];refine hv r n hs ?_;have:n≠i:=fun z=>by rw[z]at hs;rw[hs.1]at ha;cases ha;exact e rfl
     omega
  ·rintro σ G ⟨v2,v3,kvs,rfl,s2,hd,hkl,hv⟩;rw[length_map]at hv;exact⟨_,rfl,k pd kvs _ s2 hd fun r n hs=>hv r n hs (al.mp hs.1).1⟩
inductive KA(vs:List V)(H:Hp)(Q:VK)(E_:XK):Prop
 | mk (lr:Addr) (ds:List FR) (n:Nat) (d:FR) (_:vs=[.ref lr,.int (n:Int)]) (_:cm H lr ds) (_:ds[n]? =some d) (_:d.ts.length<=16) (_:∀(l:Addr) (H1:Hp),Same H H1->H l=none->H1 l=some (.lst ((nxt d n).map V.int))->Q (.ref l) H1)
theorem cw.at_{H:Hp}{q:Addr}{d:FR}(h:cw H q d):sg H q d.u d.ts:=by obtain⟨items,h1,_,h2,_⟩:=h.parts;exact⟨items,h1,h2⟩
theorem Pr:aM ["new","n","following"] ["new","n"] (ao i0):=by walk_at "sc1"
theorem tO{f fT fG:Addr}{fd pU IH:el}(F:cy K "next_rows" "next_rows" i0 f fd)(T:Txt K w.params mg)(GT:aN P w K mg base bu 1 fT pU ["row"] eA)(kT:KI K fT)(bT:Binds K pU ["row"] [])(mT:mg "targets_of"=some (.ref fT))(GG:aN P w K mg base bu 1 fG IH ["row"] tJ)(kG:KI K fG)(bG:Binds K IH ["row"] [])(mG:mg "goes_on"=some (.ref fG)):aN P w K mg base bu 2 f fd ["new","n"] KA:=by
 refine F.ok Pr (by walk_at "ln") (fun J4 A outer s H vs Q E hr h=>?_)
 ·obtain⟨lr,ds,n,d,rfl,hR,hd,IK,k⟩:=h;obtain⟨qs,q,h1,h2,h3,hF⟩:=hR.get hd
  refine ck (ak (aq (aT (i:=2) Pr.nd rfl (Or.inl rfl) (aA GT hr (by rfl) mT kT bT .nil aQ (ae (aH aO (pv 0) (pv 1) (fun _ _=>rfl)) ah))))
   (ak (bj (cq (aA GG hr (by rfl) mG kG bG .nil aQ (ae (aH aO (pv 0) (pv 1) (fun _ _=>rfl)) ah))) (au (aq (dy (iX ge gf gl eY (pv 2) (ae (aS cL (pv 1) aj) ah))))) (aU aF))
   (au (aq (aC (pv 2)))))) ?_
  refine⟨_,rfl,_,rfl,lr,_,_,.ref q,rfl,rfl,aR.of h1,h2,q,d.u,d.ts,rfl,hF.at_,fun l G1 s1 nl hl=>?_⟩;obtain⟨items,hq,_⟩:=(hF.same s1).parts;have hne:lr≠l:=fun z=>by rw[z,nl]at h1;cases h1
  refine⟨_,rfl,_,rfl,lr,_,_,.ref q,rfl,rfl,aR.of (s1 _ _ h1),h2,q,d.u,items,rfl,hq,_,rfl,?_⟩;unfold nxt at k;by_cases c:d.u∈cv
  ·rw[decide_eq_true c];rw[if_pos c,append_nil]at k;exact bU (by decide) ⟨_,rfl,k l G1 s1 nl hl⟩
  ·rw[decide_eq_false c];rw[if_neg c]at k;refine c6 (by decide) ?_;refine⟨_,rfl,.inl ⟨rfl,_,aR.of hl⟩,_,rfl,_,_,rfl,rfl,l,_,_,rfl,rfl,hl,bh (by rw[length_map];omega),?_⟩;refine⟨_,rfl,k l _ (aZ s1 nl) nl ?_⟩;rw[ai,map_append];rfl
def ko:List Str:=["set","more","copy","add","less","put","take","see","jump","zero","below","halt"]
def rc(d:FR)(a:Int->Bool):Bool:=decide (d.u∈ko)&& !(decide (d.u ="put")&&a (d.is.getD 1 0))
inductive Pt(vs:List V)(H:Hp)(Q:VK)(E_:XK):Prop
 | mk (q pd:Addr) (d:FR) (n:Int) (kvs:List (Key×V)) (_:vs=[.ref q,.ref pd]) (_:cw H q d) (_:GF n d) (_:H pd=some (.dK kvs)) (_:Q (.bl (rc d fun j=>(cM kvs (Sum.inl j)).isSome)) H)
theorem UZ:aM ["row","named"] ["row","named"] (ao eR):=by walk_at "sc1"
theorem lO{f:Addr}{fd:el}(F:cy K "may_be_put_in" "may_be_put_in" eR f fd)(T:Txt K w.params mg): aN P w K mg base bu 1 f fd ["row","named"] Pt:=by
 refine F.ok UZ (by walk_at "ln") (fun J4 A outer s H vs Q E hr h=>?_)
 ·obtain⟨q,pd,d,n,kvs,rfl,hR,hG,hd,k⟩:=h;have hu:=iM hr;obtain⟨pp,hpp,hS⟩:=T.nA;obtain⟨items,hq,_⟩:=hR.parts;refine ck (au (aq (aC (oN (cT bQ (aH aX (pv 0) aj (fun _ _=>rfl)) (c7 (v:=.ref pp) (by rfl) hpp rfl) rfl) (iS (Cq (oN (cT dJ (aH aX (pv 0) aj (fun _ _=>rfl)) ay (aP _)) (iS (Ck (CN hu (aH aX (pv 0) aj (fun _ _=>rfl)) (pv 1))))))))))) ?_;refine⟨_,rfl,q,_,0,_,rfl,rfl,bp.of hq,at0 _ _,pp,ko.map V.str,rfl,.inr (hS _),rfl,rfl,?_⟩;unfold rc at k;rw[cX];refine⟨_,rfl,?_⟩;show if decide (d.u∈ko)=true then _ else _;refine cK (fun e=>?_) (fun e=>?_)
  ·rw[e,Bool.true_and]at k;refine⟨_,rfl,q,_,0,_,rfl,rfl,bp.of hq,at0 _ _,rfl,_,rfl,?_⟩;by_cases c:d.u ="put"
   ·refine c6 (by rw[c];rfl) ?_;rw[decide_eq_true c,Bool.true_and]at k;have hq2:=hR.nt (by rw[c];decide);have hi:∃b a,d.is=[b,a]:=by
     have h1:d.u∈zL1:=by rw[c];decide+kernel
     cases hG with
     | @B4 u b a h hb hc=>exact⟨b,a,rfl⟩
     | @val u b a h hb=>exact⟨b,a,rfl⟩
     | @two u b a h hb hc=>exact⟨b,a,rfl⟩
     | @jmp u b a h ht=>exact⟨b,a,rfl⟩
     | @tell b hb=>exact absurd h1 (by show ¬("tell": Str)∈_;decide+kernel)
     | @halt a=>exact absurd h1 (by show ¬("halt": Str)∈_;decide+kernel)
     | @non u h=>exact absurd h1 ((by decide+kernel:∀u∈zL3,¬u∈zL1) u h)
     | @B5 u b t a h hb ht=>exact absurd h1 ((by decide+kernel:∀u∈zL0,¬u∈zL1) u h)
     | @tab b ts hb hl ht=>exact absurd h1 (by show ¬("table": Str)∈_;decide+kernel)
    obtain⟨b,a,e2⟩:=hi;rw[e2]at hq2 k;exact⟨_,rfl,q,_,2,_,rfl,rfl,bp.of hq2,at2 _ _ _ _,_,rfl,pd,_,rfl,dP.k (k:=Sum.inl a) hd,_,rfl,k⟩
   ·rw[decide_eq_false c]at k;exact bU (fun z=>c (V.str.inj (of_decide_eq_true z))) ⟨_,rfl,k⟩
  ·rw[Bool.eq_false_iff.mpr e]at k;exact k
def su:List Str:=["box","aside","number","value"]
def jS(d e:FR):Bool:=decide (d.u=e.u)&&decide (d.ts.length=e.ts.length)&&decide (cZ d su=cZ e su)
theorem pX{xs ys:List Int}(i:Nat)(a b:V)(h1:(xs.map V.int)[i]? =some a)(h2:(ys.map V.int)[i]? =some b):C4 a b\/(a=.non/\b=.non):=by rw[ag]at h1 h2;obtain⟨x,_,rfl⟩:=map_eq_some_iff.mp h1;obtain⟨y,_,rfl⟩:=map_eq_some_iff.mp h2;exact .inl (by simp[C4])
theorem pY{xs ys:List Int}:decide (xs.map V.int=ys.map V.int)=decide (xs=ys):=by
 by_cases c:xs=ys
 ·rw[c];simp
 ·rw[decide_eq_false c,decide_eq_false fun z=>c ((List.map_inj_right fun a b h=>V.int.inj h).mp z)]
theorem tP(n:Nat):(replicate n true).all id=true:=by simp
theorem pZ(n:Nat):(replicate n true).map V.bl++ [V.bl true]=(replicate (n+1) true).map V.bl:=by rw[List.replicate_succ',map_append];rfl
inductive Pu(vs:List V)(H:Hp)(Q:VK)(E_:XK):Prop
 | mk (q p:Addr) (d e:FR) (n m:Int) (_:vs=[.ref q,.ref p]) (_:cw H q d) (_:cw H p e) (_:GF n d) (_:GF m e) (_:∀H1,Same H H1->Q (.bl (jS d e)) H1)
theorem U0:aM ["row","old_row"] ["row","old_row"] (ao eQ):=by walk_at "sc1"
theorem lP{f fT fP:Addr}{fd pU sr:el}(F:cy K "can_stand_for" "can_stand_for" eQ f fd)(T:Txt K w.params mg)(GT:aN P w K mg base bu 1 fT pU ["row"] eA)(kT:KI K fT)(bT:Binds K pU ["row"] [])(mT:mg "targets_of"=some (.ref fT))(GP:aN P w K mg base bu 1 fP sr ["row","kinds"] (Kw (K:=K)))(kP:KI K fP)(bP:Binds K sr ["row","kinds"] [])(mP:mg "parts_of"=some (.ref fP)):aN P w K mg base bu 2 f fd ["row","old_row"] Pu:=by
 refine F.ok U0 (by walk_at "ln") (fun J4 A outer s H vs Q E hr h=>?_)
 ·obtain⟨q,p,d,e,n,m,rfl,hR,Kt,hG,hG2,k⟩:=h;have hu0:=hr.oU;obtain⟨pp,hpp,hS⟩:=T.ny;obtain⟨items,hq,_⟩:=hR.parts;obtain⟨items2,hp,_⟩:=Kt.parts
  refine ck (ak (bj (iK (aE rN (aH aX (pv 0) aj (fun _ _=>rfl)) (aH aX (pv 1) aj (fun _ _=>rfl)) (aP _)) (eZ (aE rN (aG aK (by rfl) T.len bV (ae (aA GT hr (by rfl) mT kT bT .nil aQ (ae (pv 0) ah)) ah)) (aG aK (by rfl) T.len bV (ae (aA GT hr (by rfl) mT kT bT .nil aQ (ae (pv 1) ah)) ah)) (aP _)))).pt (au (aq (aC dI))) (aU aF))
   (au (aq (aC (cT (sX hu0) (aA GP hr (by rfl) mP kP bP .nil aQ (ae (pv 0) (ae (c7 (v:=.ref pp) (by rfl) hpp rfl) ah))) (aA GP hr (by rfl) mP kP bP .nil aQ (ae (pv 1) (ae (c7 (v:=.ref pp) (by rfl) hpp rfl) ah))) (aP _)))))) ?_
  refine⟨_,rfl,q,_,0,_,rfl,rfl,bp.of hq,at0 _ _,_,rfl,p,_,0,_,rfl,rfl,bp.of hp,at0 _ _,rfl,_,rfl,?_⟩;unfold jS at k;by_cases c:d.u=e.u
  ·rw[decide_eq_true c,Bool.true_and]at k;refine bU (by rw[c];simp) ?_;refine⟨_,rfl,q,d.u,d.ts,rfl,hR.at_,fun l1 G1 s1 n1 h1=>?_⟩;refine⟨l1,_,rfl,.inl (aR.of h1),_,rfl,p,e.u,e.ts,rfl,(Kt.same s1).at_,fun l2 G2 s2 n2 h2=>?_⟩;have s12:=s1.trans s2;refine⟨l2,_,rfl,.inl (aR.of h2),rfl,_,rfl,?_⟩;by_cases c2:d.ts.length=e.ts.length
   ·rw[decide_eq_true c2,Bool.true_and]at k;refine bU (by simp[c2]) ?_;refine⟨_,rfl,q,pp,d,n,su,rfl,hR.same s12,hG,fun H' _=>hS H',by decide+kernel,fun l3 G3 s3 n3 h3=>?_⟩;have km:=s12.trans s3;refine⟨_,rfl,p,pp,e,m,su,rfl,Kt.same km,hG2,fun H' _=>hS H',by decide+kernel,fun l4 G4 s4 n4 h4=>?_⟩;refine⟨l3,l4,_,_,rfl,rfl,aR.of (s4 _ _ h3),aR.of h4,pX,?_⟩;rw[pY];exact k G4 (km.trans s4)
   ·rw[decide_eq_false c2,Bool.false_and]at k;exact c6 (by rw[decide_eq_false (fun z=>c2 (by have:=V.int.inj z;rw[length_map,length_map]at this;omega))];rfl) (k G2 s12)
  ·rw[decide_eq_false c,Bool.false_and,Bool.false_and]at k;exact c6 (by rw[decide_eq_false (fun z=>c (V.str.inj z))];rfl) (k H (.refl _))
inductive Pw(vs:List V)(H:Hp)(Q:VK)(E_:XK):Prop
 | mk (lf lr:Addr) (fs:List Int) (ds:List FR) (n:Int) (_:vs=[.ref lf,.ref lr]) (_:H lf=some (.lst (fs.map V.int))) (_:fs.length<=5000) (_:cm H lr ds) (_:(∀d∈ds,GF n d)) (_:ds.length<=5000) (_:∀H1,Same H H1->Q (.bl (decide (fs=ds.map d7))) H1)
theorem U1:aM ["forms","old"] ["forms","old"] (ao dE):=by walk_at "sc1"
def KC:Scope:={kind:=.function,names:=[(".0",.local),("form",.local),("is_whole",.globalImplicit)],isGenerator:=false,isCoroutine:=false,more:=[]}
theorem DR:cC (ao dE) KC ["forms","old"] ["form"] [none]:=by walk_at "sc2"
def KD:Scope:={kind:=.function,names:=[(".0",.local),("row",.local),("far_of",.globalImplicit)],isGenerator:=false,isCoroutine:=false,more:=[]}
theorem DS:cC (ao dE) KD ["forms","old"] ["row"] [none]:=by walk_at "sc2"
theorem tQ{f fW fF:Addr}{fd my zM:el}(F:cy K "are_forms" "are_forms" dE f fd)(T:Txt K w.params mg)(GW:aN P w K mg base bu 1 fW my ["thing"] (oG (K:=K)))(kW:KI K fW)(bW:Binds K my ["thing"] [])(mW:mg "is_whole"=some (.ref fW))(GF:aN P w K mg base bu 2 fF zM ["row"] Pn)(kF:KI K fF)(bF:Binds K zM ["row"] [])(mF:mg "far_of"=some (.ref fF)):aN P w K mg base bu 3 f fd ["forms","old"] Pw:=by
 refine F.ok U1 (by walk_at "ln") (fun J4 A outer s H vs Q E hr h=>?_)
 ·obtain⟨lf,lr,fs,ds,n,rfl,hf,hfl,hR,hG,hl,k⟩:=h;have hu0:=hr.oU;have hr1:=hr.mono (show 1<=_ by decide);obtain⟨qs,h0,hql,hqr⟩:=id hR
  refine ck (ak (bj (iK (dm (cq (aG cG (by rfl) T.Fn gA (ae (pv 0) (ae (eB (v:=.ty "list") (by rfl) T.list dq rfl) ah))))) (eZ (dm (cq (aG (ez rfl) (by rfl) T.all jN (ae (cW (X:=(gi bu P w K mg base ["forms","old"] "are_forms" (ao dE) f J4 A outer s H E).wo) (N':=["form"]) (fr:=[none]) DR rfl (cJ (pv 0)) (fun C s0 H0 fp=>(bg (i:=0) DR.nd rfl (Or.inl rfl))) (fun C s0 H0 fp=>df) (fun C s0 H0 fp=>(aA GW hr1 (by rfl) mW kW bW .nil aQ (ae (pv 0) ah)))) ah)))))).pt (au (aq (aC dI))) (aU aF))
   (au (aq (aC (cT (sX hu0) (pv 0) (cW (X:=(gi bu P w K mg base ["forms","old"] "are_forms" (ao dE) f J4 A outer s H E).wo) (N':=["row"]) (fr:=[none]) DS rfl (cJ (pv 1)) (fun C s0 H0 fp=>(bg (i:=0) DS.nd rfl (Or.inl rfl))) (fun C s0 H0 fp=>df) (fun C s0 H0 fp=>(aA GF hr (by rfl) mF kF bF .nil aQ (ae (pv 0) ah)))) (aP _)))))) ?_
  refine⟨_,rfl,_,_,_,_,rfl,.lst hf,fY,_,rfl,bU (by decide) ?_⟩;refine⟨_,rfl,lf,rfl,⟨_,aR.of hf⟩,fun D nD=>cO (K:=K) (xs:=fs.map V.int) (fun i σ ys G=>∃v:Option V,σ=[v]/\ys=(replicate i true).map V.bl/\Same H G/\G D=some (.lst ys)) ?_ ?_ ?_ ?_⟩
  ·exact⟨none,rfl,rfl,aw nD,ai⟩
  ·rintro i σ ys G _ ⟨v,rfl,rfl,s1,_⟩;exact aR.of (s1 _ _ hf)
  ·rintro i x σ ys G hx ⟨v,rfl,rfl,s1,hD⟩;rw[ag]at hx;obtain⟨a,ha,rfl⟩:=map_eq_some_iff.mp hx;have hi:=(al.mp ha).1;exact⟨_,rfl,_,true,rfl,.inl ⟨rfl,a,rfl⟩,hD,bh (by rw[length_map,length_replicate];omega),_,rfl,pZ i,aZ s1 nD,ai⟩
  ·rintro σ ys G ⟨v,rfl,rfl,s1,hD⟩;refine⟨D,_,rfl,aR.of hD,_,rfl,?_⟩;rw[tP];refine bU (by decide) ?_;refine⟨_,rfl,_,rfl,lr,rfl,⟨_,aR.of (s1 _ _ h0)⟩,fun D2 Fp=>cO (K:=K) (xs:=qs.map V.ref) (fun i σ ys G'=>∃v:Option V,σ=[v]/\ys=((ds.take i).map d7).map V.int/\Same G G'/\G' D2=some (.lst ys)) ?_ ?_ ?_ ?_⟩
   ·exact⟨none,rfl,rfl,aw Fp,ai⟩
   ·rintro i σ ys G' _ ⟨v,rfl,rfl,s2,_⟩;exact aR.of (s2 _ _ (s1 _ _ h0))
   ·rintro i x σ ys G' hx ⟨v,rfl,rfl,s2,hD2⟩;rw[ag]at hx;obtain⟨q,hq,rfl⟩:=map_eq_some_iff.mp hx;have hil:i<ds.length:=by have:=(al.mp hq).1;omega
    have hdi:ds[i]? =some ds[i]:=ac hil;refine⟨_,rfl,q,ds[i],n,rfl,(hqr i q _ hq hdi).same (s1.trans s2),hG _ (bi hil),hD2,bh (by rw[length_map,length_map,length_take];omega),_,rfl,?_,aZ s2 Fp,ai⟩;rw[take_add_one,hdi,toList_some,map_append,map_append];rfl
   ·rintro σ ys G' ⟨v,rfl,rfl,s2,hD2⟩;rw[length_map,hql,take_of_length_le (le_refl _)]at hD2;refine⟨lf,D2,_,_,rfl,rfl,aR.of (s2 _ _ (s1 _ _ hf)),aR.of hD2,pX,?_⟩;rw[pY];exact k G' (s1.trans s2)
def iO(n:Nat):List Int:=(List.range n).map fun j:Nat=>(j:Int)
theorem KG(n:Nat):((List.range n).map fun(j:Nat)=>V.int (j:Int))=(iO n).map V.int:=by unfold iO;rw[map_map];rfl
theorem Hl(n:Nat):(iO n).Pairwise (· <= ·):=by unfold iO;rw[List.pairwise_map];exact List.pairwise_lt_range.imp fun h=>by omega
def p5(ld:List (Option Int))(n0 n1:Nat):Prop:=ld.length=n1/\(ld.filterMap id).Perm (iO n0)
inductive Px(vs:List V)(H:Hp)(Q:VK)(E_:XK):Prop
 | mk (ll:Addr) (ld:List (Option Int)) (n0 n1:Nat) (_:vs=[.ref ll,.int (n0:Int),.int (n1:Int)]) (_:H ll=some (.lst (ld.map oV))) (_:(ld.filterMap id).length<64/\ld.length<=1000) (_:n0<=1000) (_:∀(b:Bool) (H1:Hp),(b=true↔p5 ld n0 n1)->Same H H1->Q (.bl b) H1)
theorem Py:aM ["leads","how_many_old","how_many_new","numbers"] ["leads","how_many_old","how_many_new"] (ao dD):=by walk_at "sc1"
def KH:Scope:={kind:=.function,names:=[(".0",.local),("lead",.local)],isGenerator:=false,isCoroutine:=false,more:=[]}
theorem DT:cC (ao dD) KH ["leads","how_many_old","how_many_new","numbers"] ["lead"] [none]:=by walk_at "sc2"
def KJ:Scope:={kind:=.function,names:=[(".0",.local),("number",.local),("is_whole",.globalImplicit)],isGenerator:=false,isCoroutine:=false,more:=[]}
theorem DU:cC (ao dD) KJ ["leads","how_many_old","how_many_new","numbers"] ["number"] [none]:=by walk_at "sc2"
theorem tR{f fW:Addr}{fd my:el}(F:cy K "are_leads" "are_leads" dD f fd)(T:Txt K w.params mg)(GW:aN P w K mg base bu 1 fW my ["thing"] (oG (K:=K)))(kW:KI K fW)(bW:Binds K my ["thing"] [])(mW:mg "is_whole"=some (.ref fW)):aN P w K mg base bu 2 f fd ["leads","how_many_old","how_many_new"] Px:=by
 refine F.ok Py (by walk_at "ln") (fun J4 A outer s H vs Q E hr h=>?_)
 ·obtain⟨ll,ld,n0,n1,rfl,hl,⟨hnl,h64⟩,hn0,k⟩:=h;have hu0:=hr.oU
  refine ck (ak (bj (iK (dm (cq (aG cG (by rfl) T.Fn gA (ae (pv 0) (ae (eB (v:=.ty "list") (by rfl) T.list dq rfl) ah))))) (eZ (aE rN (aG aK (by rfl) T.len bV (ae (pv 0) ah)) (pv 2) (aP _)))).pt (au (aq (aC dI))) (aU aF))
   (ak (aq (oC (i:=3) (X:=(gi bu P w K mg base ["leads","how_many_old","how_many_new","numbers"] "are_leads" (ao dD) f J4 A outer s H E).wo) (N':=["lead"]) (fr:=[none]) Py.nd rfl rfl DT rfl (cJ (pv 0)) (fun C s0 H0 fp=>(bg (i:=0) DT.nd rfl (Or.inl rfl))) (fun C s0 H0 fp=>(j7 (aE ik (pv 0) dM (aP _)))) (fun C s0 H0 fp=>(pv 0))))
   (au (aq (aC (oN (aG (ez rfl) (by rfl) T.all jN (ae (cW (X:=(gi bu P w K mg base ["leads","how_many_old","how_many_new","numbers"] "are_leads" (ao dD) f J4 A outer s H E).wo) (N':=["number"]) (fr:=[none]) DU rfl (cJ (pv 3)) (fun C s0 H0 fp=>(bg (i:=0) DU.nd rfl (Or.inl rfl))) (fun C s0 H0 fp=>df) (fun C s0 H0 fp=>(aA GW hr (by rfl) mW kW bW .nil aQ (ae (pv 0) ah)))) ah)) (iS (cT (sX hu0) (aG qU (by rfl) T.sorted jt (ae (pv 3) ah)) (bq (qT rfl) (by rfl) T.list dq (ae (bq vn (by rfl) T.range DB (ae (pv 1) ah)) ah)) (aP _))))))))) ?_
  refine⟨_,rfl,_,_,_,_,rfl,.lst hl,fY,_,rfl,bU (by decide) ?_⟩;refine⟨_,rfl,ll,_,rfl,.inl (aR.of hl),_,rfl,rfl,_,rfl,?_⟩;by_cases c:ld.length=n1;rotate_left
  ·exact c6 (by rw[decide_eq_false (fun z=>c (by have:=V.int.inj z;rw[length_map]at this;omega))];rfl) (k false H ⟨fun z=>(nomatch z),fun z=>absurd z.1 c⟩ (.refl _))
  refine bU (by rw[length_map,c];simp) ?_;refine⟨_,rfl,ll,rfl,⟨_,aR.of hl⟩,fun D nD=>cO (K:=K) (xs:=ld.map oV) (fun i σ ys G=>∃v:Option V,σ=[v]/\ys=((ld.take i).filterMap id).map V.int/\Same H G/\G D=some (.lst ys)) ?_ ?_ ?_ ?_⟩
  ·exact⟨none,rfl,rfl,aw nD,ai⟩
  ·rintro i σ ys G _ ⟨v,rfl,rfl,s1,_⟩;exact aR.of (s1 _ _ hl)
  ·rintro i x σ ys G hx ⟨v,rfl,rfl,s1,hD⟩;rw[ag]at hx;obtain⟨a,ha,rfl⟩:=map_eq_some_iff.mp hx;have hi:=(al.mp ha).1;have hlen:((ld.take i).filterMap id).length<=i:=le_trans (List.length_filterMap_le _ _) (by rw[length_take];omega);cases a with
   | none=>
    refine⟨_,rfl,rfl,_,rfl,bU (by decide) ⟨_,rfl,?_,s1,?_⟩⟩
    ·rw[take_add_one,ha,toList_some,filterMap_append];simp
    ·exact hD
   | some r=>
    refine⟨_,rfl,rfl,_,rfl,c6 (by simp[oV]) ⟨_,rfl,hD,bh (by rw[length_map];omega),_,rfl,?_,aZ s1 nD,ai⟩⟩;rw[take_add_one,ha,toList_some,filterMap_append,map_append];rfl
  rintro σ ys G ⟨v,rfl,rfl,s1,hD⟩;rw[length_map,take_of_length_le (le_refl _)]at hD;refine⟨_,rfl,D,rfl,⟨_,aR.of hD⟩,fun D2 Fp=>cO (K:=K) (xs:=(ld.filterMap id).map V.int) (fun i σ ys G'=>∃v:Option V,σ=[v]/\ys=(replicate i true).map V.bl/\Same G G'/\G' D2=some (.lst ys)) ?_ ?_ ?_ ?_⟩
  ·exact⟨none,rfl,rfl,aw Fp,ai⟩
  ·rintro i σ ys G' _ ⟨v,rfl,rfl,s2,_⟩;exact aR.of (s2 _ _ hD)
  ·rintro i x σ ys G' hx ⟨v,rfl,rfl,s2,hD2⟩;rw[ag]at hx;obtain⟨a,ha,rfl⟩:=map_eq_some_iff.mp hx;have hi:=(al.mp ha).1;exact⟨_,rfl,_,true,rfl,.inl ⟨rfl,a,rfl⟩,hD2,bh (by rw[length_map,length_replicate];omega),_,rfl,pZ i,aZ s2 Fp,ai⟩
  rintro σ ys G2 ⟨v,rfl,rfl,s2,hD2⟩;refine⟨D2,_,rfl,aR.of hD2,?_⟩;rw[tP];refine⟨_,rfl,c6 rfl ?_⟩;refine⟨_,rfl,D,_,rfl,aR.of (s2 _ _ hD),hnl,fun l3 ms n3 hpm Fk=>?_⟩;have s3:=aw (o:=.lst (ms.map V.int)) n3;have h3:upd G2 l3 (.lst (ms.map V.int)) l3=_:=ai;generalize upd G2 l3 (.lst (ms.map V.int))=G3 at s3 h3 ⊢;refine⟨_,rfl,_,rfl,fun p4 n4=>?_⟩;have s4:=aw (o:=.rng 0 (n0:Int)) n4;have h4:upd G3 p4 (.rng 0 (n0:Int)) p4=_:=ai;generalize upd G3 p4 (.rng 0 (n0:Int))=G4 at s4 h4 ⊢;refine⟨p4,n0,rfl,h4,hn0,fun l5 n5=>?_⟩;rw[KG];have s5:=aw (o:=.lst ((iO n0).map V.int)) n5;have h5:upd G4 l5 (.lst ((iO n0).map V.int)) l5=_:=ai;generalize upd G4 l5 (.lst ((iO n0).map V.int))=G5 at s5 h5 ⊢;refine⟨l3,l5,_,_,rfl,rfl,aR.of (s5 _ _ (s4 _ _ h3)),aR.of h5,pX,?_⟩;rw[pY];refine k _ G5 ?_ (s1.trans (s2.trans (s3.trans (s4.trans s5))));rw[decide_eq_true_iff];constructor
  ·intro e;exact⟨c,by rw[<-e];exact hpm.symm⟩
  ·intro e;exact(hpm.trans e.2).eq_of_pairwise (le:=(· <= ·)) (fun x y _ _ h1 h2=>Int.le_antisymm h1 h2) Fk (Hl n0)
theorem IU{X:Cx}:Passes (Nu X.prog X.w) X E0:=fun _ _ _ _ _ _ _ ⟨_,_,_,_,_,_,_,_,_,_,_,_,_,_,_,h⟩=>h.elim
inductive Pz(vs:List V)(H:Hp)(Q:VK)(E_:XK):Prop
 | mk (lr lc:Addr) (ds:List FR) (cl:List (List Int)) (_:vs=[.ref lr,.ref lc]) (_:cm H lr ds) (_:dr H lc cl) (_:cl.length=ds.length) (_:ds.length<=3000) (_:vB ds) (_:firstBad ds cl=none) (_:∀H1,Same H H1->Q (.bl true) H1)
theorem U2:aM ["old","claims"] ["old","claims"] (ao jK):=by walk_at "sc1"
theorem vF{f fC:Addr}{fd IV:el}(F:cy K "are_free" "are_free" jK f fd)(T:Txt K w.params mg)(GC:aN P w K mg base bu 5 fC IV ["rows","claims"] DL)(kC:KI K fC)(bC:Binds K IV ["rows","claims"] [])(mC:mg "check_free"=some (.ref fC)):aN P w K mg base bu 6 f fd ["old","claims"] Pz:=by
 refine F.ok U2 (by walk_at "ln") (fun J4 A outer s H vs Q E hr h=>?_)
 ·obtain⟨lr,lc,ds,cl,rfl,hR,hC,hl,h3,hP,hb,k⟩:=h
  refine ck (ak (aq (Gh (aJ (dy (aA GC hr (by rfl) mC kC bC .nil aQ (ae (pv 0) (ae (pv 1) ah)))))))
   (au (aq (aC dI)))) ?_
  refine⟨_,rfl,_,rfl,lr,lc,ds,cl,rfl,hR,hC,hl,h3,hP,hb,fun H1 s1=>k H1 s1⟩
structure p6(H:Hp)(pp ll lf lc:Addr):Prop where
 at_:∃kvs,H pp=some (.dK kvs)/\cM kvs (Sum.inr "leads": Key)=some (.ref ll)/\cM kvs (Sum.inr "forms": Key)=some (.ref lf)/\cM kvs (Sum.inr "free": Key)=some (.ref lc)
theorem p6.same{H H1:Hp}{pp ll lf lc:Addr}(h:p6 H pp ll lf lc)(s:Same H H1):p6 H1 pp ll lf lc:=⟨h.at_.imp fun kvs z=>⟨s _ _ z.1,z.2⟩⟩
def tS(ds:List FR)(j:Int):Bool:=decide (∃d∈ds,j∈cZ d ["aside"])
def RowW(ds:List FR)(d:FR):Option Int->Prop
 | none=>rc d (tS ds)=true
 | some r=>∀e,ds[r.toNat]? =some e->jS d e=true
def Sf(aI c5:List FR)(ld:List (Option Int))(fs:List Int):Prop:=p5 ld aI.length c5.length/\fs=aI.map d7/\∀(i:Nat) d l,c5[i]? =some d->ld[i]? =some l->RowW aI d l
theorem p7{ld:List (Option Int)}{n0 n1:Nat}(h:p5 ld n0 n1){i:Nat}{r:Int}(e:ld[i]? =some (some r)):∃j:Nat,r=(j:Int)/\j<n0:=by have h1:r∈ld.filterMap id:=mem_filterMap.mpr ⟨some r,am e,rfl⟩;have h2:=h.2.mem_iff.mp h1;unfold iO at h2;obtain⟨j,hj,rfl⟩:=mem_map.mp h2;exact⟨j,rfl,mem_range.mp hj⟩
theorem cm.row{H:Hp}{lr:Addr}{ds:List FR}(h:cm H lr ds){j:Nat}{d:FR}(hd:ds[j]? =some d):∃xs q,H lr=some (.lst xs)/\lh xs (j:Int)=some (.ref q)/\cw H q d:=by obtain⟨qs,q,a,b,_,c⟩:=h.get hd;exact⟨_,q,a,b,c⟩
theorem xR{d:FR}{a b:Int->Bool}(h:∀j,a j=b j):rc d a=rc d b:=by unfold rc;rw[h]
inductive PB(vs:List V)(H:Hp)(Q:VK)(E_:XK):Prop
 | mk (l0 l1 pp ll lf lc:Addr) (aI c5:List FR) (ld:List (Option Int)) (fs:List Int) (cl:List (List Int)) (n m:Int) (_:vs=[.ref l0,.ref l1,.ref pp]) (_:cm H l0 aI) (_:cm H l1 c5) (_:p6 H pp ll lf lc) (_:H ll=some (.lst (ld.map oV))) (_:(ld.filterMap id).length<64/\ld.length<=1000) (_:H lf=some (.lst (fs.map V.int))) (_:fs.length<=1000) (_:dr H lc cl) (_:cl.length=aI.length) (_:aI.length<=1000) (_:c5.length<=1000) (_:(∀d∈aI,GF n d)) (_:(∀d∈c5,GF m d)) (_:vB aI) (_:firstBad aI cl=none) (_:∀(b:Bool) (H1:Hp),(b=true↔Sf aI c5 ld fs)->Same H H1->Q (.bl b) H1)
theorem Hm:aM ["old","new","paper","leads","named","row","lead"] ["old","new","paper"] (ao gm):=by walk_at "sc1"
theorem p8{f fL fF fN fM fS fE:Addr}{fd zI zM pT Y3 PD Y4:el}(F:cy K "stands_well" "stands_well" gm f fd)(T:Txt K w.params mg)(GL:aN P w K mg base bu 2 fL zI ["leads","how_many_old","how_many_new"] Px)(kL:KI K fL)(bL:Binds K zI ["leads","how_many_old","how_many_new"] [])(mL:mg "are_leads"=some (.ref fL))(GF:aN P w K mg base bu 3 fF zM ["forms","old"] Pw)(kF:KI K fF)(bF:Binds K zM ["forms","old"] [])(mF:mg "are_forms"=some (.ref fF))(GN:aN P w K mg base bu 2 fN pT ["rows"] Pq)(kN:KI K fN)(bN:Binds K pT ["rows"] [])(mN:mg "asides_named"=some (.ref fN))(GM:aN P w K mg base bu 1 fM Y3 ["row","named"] Pt)(kM:KI K fM)(bM:Binds K Y3 ["row","named"] [])(mM:mg "may_be_put_in"=some (.ref fM))(GS:aN P w K mg base bu 2 fS PD ["row","old_row"] Pu)(kS:KI K fS)(bS:Binds K PD ["row","old_row"] [])(mS:mg "can_stand_for"=some (.ref fS))(GE:aN P w K mg base bu 6 fE Y4 ["old","claims"] Pz)(kE:KI K fE)(bE:Binds K Y4 ["old","claims"] [])(mE:mg "are_free"=some (.ref fE)):aN P w K mg base bu 7 f fd ["old","new","paper"] PB:=by
 refine F.ok Hm (by walk_at "ln") (fun J4 A outer s H vs Q E hr h=>?_)
 ·obtain⟨l0,l1,pp,ll,lf,lc,aI,c5,ld,fs,cl,n,m,rfl,Fq,uL,hP,kc,h64,hfs,hfl,hC,hcl,hl0,hl1,Fs,KL,PF,hbad,k⟩:=h;have hu:=iM hr;have hr1:=hr.mono (show 1<=_ by decide);have hr2:=hr.mono (show 2<=_ by decide);have U3:=hr.mono (show 3<=_ by decide);obtain⟨kvs,hp,hv1,hv2,IW⟩:=id hP.at_;obtain⟨Y5,g0,U4,U5⟩:=id Fq;obtain⟨Sg,g1,Y6,gr1⟩:=id uL
  refine ck (ak (aq (aT (i:=3) Hm.nd rfl (Or.inl rfl) (c9 hu (pv 2) ay (fun _ _=>rfl))))
   (ak (bj (iK (dm (cq (aA GL hr2 (by rfl) mL kL bL .nil aQ (ae (pv 3) (ae (aG aK (by rfl) T.len bV (ae (pv 0) ah)) (ae (aG aK (by rfl) T.len bV (ae (pv 1) ah)) ah)))))) (eZ (dm (cq (aA GF U3 (by rfl) mF kF bF .nil aQ (ae (c9 hu (pv 2) ay (fun _ _=>rfl)) (ae (pv 0) ah))))))).pt (au (aq (aC dI))) (aU aF))
   (ak (aq (aT (i:=4) Hm.nd rfl (Or.inl rfl) (aA GN hr2 (by rfl) mN kN bN .nil aQ (ae (pv 0) ah))))
   (ak (aq (dA PassesOwn.never rfl (Gu rfl T.zip (ae (pv 1) (ae (pv 3) ah))) (iC (K:=K) (i:=5) (j:=6) rfl rfl Hm.nd rfl (Or.inl rfl) rfl (Or.inl rfl)) (aL (cS (sA (aE sF (pv 6) dM (aP _)) (oy (dm (cq (aA GM hr1 (by rfl) mM kM bM .nil aQ (ae (pv 5) (ae (pv 4) ah))))))).pt (aJ (aC dI)) aF)
   (aJ (cS (sA (aE ik (pv 6) dM (aP _)) (oy (dm (cq (aA GS hr2 (by rfl) mS kS bS .nil aQ (ae (pv 5) (ae (aH aO (pv 0) (pv 6) (fun _ _=>rfl)) ah))))))).pt (aJ (aC dI)) aF)))))
   (au (aq (aC (aA GE hr (by rfl) mE kE bE .nil aQ (ae (pv 0) (ae (c9 hu (pv 2) ay (fun _ _=>rfl)) ah)))))))))) ?_
  refine⟨_,rfl,pp,_,rfl,by rw[<-hv1];exact dP.k (k:=(Sum.inr "leads": Key)) hp,?_⟩;refine⟨_,rfl,_,rfl,l0,_,rfl,.inl (aR.of g0),_,rfl,l1,_,rfl,.inl (aR.of g1),ll,ld,aI.length,c5.length,by rw[length_map,U4,length_map,Y6];rfl,kc,h64,by omega,fun b1 G1 hb1 s1=>?_⟩;refine⟨_,rfl,?_⟩;cases b1 with
  | false=>exact c6 rfl (k false G1 ⟨fun z=>(nomatch z),fun z=>by have:=hb1.mpr z.1;cases this⟩ s1)
  | true=>
  have hL:=hb1.mp rfl;refine bU (by decide) ?_;refine⟨_,rfl,pp,_,rfl,by rw[<-hv2];exact dP.k (k:=(Sum.inr "forms": Key)) (s1 _ _ hp),_,rfl,lf,l0,fs,aI,n,rfl,s1 _ _ hfs,by omega,Fq.same s1,Fs,by omega,fun G2 s2=>?_⟩;refine⟨_,rfl,?_⟩;by_cases cf:fs=aI.map d7;rotate_left
  ·rw[decide_eq_false cf];exact c6 rfl (k false G2 ⟨fun z=>(nomatch z),fun z=>absurd z.2.1 cf⟩ (s1.trans s2))
  rw[decide_eq_true cf];refine bU (by decide) ?_;have s12:=s1.trans s2;refine⟨_,rfl,l0,aI,n,rfl,Fq.same s12,Fs,hl0,fun pd zN G3 s3 hpd hnm=>?_⟩;have km:=s12.trans s3;have hnm':∀j,(cM zN (Sum.inl j)).isSome=tS aI j:=fun j=>by unfold tS;rw[Bool.eq_iff_iff,decide_eq_true_iff];exact hnm j
  refine⟨_,rfl,_,rfl,l1,ll,rfl,⟨_,aR.of (km _ _ g1)⟩,⟨_,aR.of (km _ _ kc)⟩,Dq (K:=K) (xs:=Sg.map V.ref) (ys:=ld.map oV) (by rw[length_map,length_map,Y6,hL.1])
   (fun i σ G=>∃(v1 v2:Option V),σ=[some (.ref l0),some (.ref l1),some (.ref pp),some (.ref ll),some (.ref pd),v1,v2]/\Same G3 G/\∀(j:Nat) d l,j<i->c5[j]? =some d->ld[j]? =some l->RowW aI d l) ?_ ?_ ?_ ?_⟩
  ·exact⟨none,none,rfl,.refl _,fun j d l h=>absurd h (Nat.not_lt_zero _)⟩
  ·rintro i σ G _ ⟨v1,v2,rfl,s4,_⟩;exact⟨aR.of (s4 _ _ (km _ _ g1)),aR.of (s4 _ _ (km _ _ kc))⟩
  ·rintro i x y σ G tt hx hy Fo ⟨v1,v2,rfl,s4,hw⟩;rw[ag]at hx hy;obtain⟨q,hq,rfl⟩:=map_eq_some_iff.mp hx;obtain⟨a,ha,rfl⟩:=map_eq_some_iff.mp hy;have hil:i<c5.length:=by have:=(al.mp hq).1;omega
   have hdi:c5[i]? =some c5[i]:=ac hil;have hg:=KL _ (bi hil);generalize c5[i]=d at hdi hg;have s5:=s4.trans (aw (o:=.tup [.ref q,oV a]) Fo);have htt:upd G tt (.tup [.ref q,oV a]) tt=_:=ai;generalize upd G tt (.tup [.ref q,oV a])=G5 at s5 htt ⊢;have B8:=km.trans s5;have hF:=(gr1 i q d hq hdi).same B8;have fin:RowW aI d a->∀(j:Nat) d' l,j<i+1->c5[j]? =some d'->ld[j]? =some l->RowW aI d' l:=fun hw0 j d' l hj h1 h2=>by
    by_cases c:j=i
    ·subst c;rw[hdi]at h1;rw[ha]at h2;cases h1;cases h2;exact hw0
    ·exact hw j d' l (by omega) h1 h2
   refine⟨tt,_,rfl,bp.of htt,rfl,_,_,rfl,_,_,rfl,rfl,?_⟩;cases a with
   | none=>
    refine⟨_,rfl,rfl,_,rfl,c6 rfl ?_⟩;refine⟨_,rfl,_,rfl,q,pd,d,m,zN,rfl,hF,hg,s5 _ _ hpd,_,rfl,?_⟩;rw[xR hnm'];by_cases c:rc d (tS aI)=true
    ·rw[c];refine bU (by decide) ?_;exact⟨_,rfl,rfl,_,rfl,bU (by decide) ⟨_,_,rfl,s5,fin c⟩⟩
    ·rw[Bool.eq_false_iff.mpr c];exact c6 rfl (k false G5 ⟨fun z=>(nomatch z),fun z=>absurd (z.2.2 i d none hdi ha) c⟩ B8)
   | some r=>
    obtain⟨j,rfl,hj⟩:=p7 hL ha;have Sh:aI[j]? =some aI[j]:=ac hj;have hge:=Fs _ (bi hj);generalize aI[j]=e at Sh hge;obtain⟨xs,qe,a1,a2,a3⟩:=(Fq.same B8).row Sh;refine⟨_,rfl,rfl,_,rfl,bU (by simp[oV]) ?_⟩;refine⟨_,rfl,rfl,_,rfl,c6 (by simp[oV]) ?_⟩;refine⟨_,rfl,_,rfl,_,rfl,l0,_,_,.ref qe,rfl,rfl,aR.of a1,a2,q,qe,d,e,m,n,rfl,hF,a3,hg,hge,fun G6 s6=>⟨_,rfl,?_⟩⟩;by_cases c:jS d e=true
    ·rw[c];refine bU (by decide) ⟨_,_,rfl,s5.trans s6,fin ?_⟩;intro e' he';rw[lv,Sh]at he';cases he';exact c
    ·rw[Bool.eq_false_iff.mpr c];refine c6 rfl (k false G6 ⟨fun z=>(nomatch z),fun z=>absurd (z.2.2 i d _ hdi ha e (by rw[lv];exact Sh)) c⟩ (B8.trans s6))
  ·rintro σ G ⟨v1,v2,rfl,s4,hw⟩;have uM:=km.trans s4;refine⟨_,rfl,_,rfl,pp,_,rfl,by rw[<-IW];exact dP.k (k:=(Sum.inr "free": Key)) (uM _ _ hp),l0,lc,aI,cl,rfl,Fq.same uM,hC.same uM,hcl,by omega,PF,hbad,fun G5 s5=>?_⟩;refine k true G5 ⟨fun _=>⟨hL,cf,fun i d l h1 h2=>hw i d l ?_ h1 h2⟩,fun _=>rfl⟩ (uM.trans s5);rw[length_map];have:=(al.mp h1).1;omega
abbrev Nz:Stmt:=inClass (top 46) 0
abbrev NA:Stmt:=inClass (top 46) 1
abbrev NB:Stmt:=inClass (top 46) 2
abbrev NC:Stmt:=inClass (top 47) 0
abbrev ND:Stmt:=inClass (top 47) 1
abbrev IY:Stmt:=inClass (top 47) 2
structure Bd where
 pl:Nat
 held:List (Option Int)
 af:Int->Option Int
 gn:Int->Bool
structure BA where
 (x dx hl ad gd:Addr)
def d8:List Str:=["place","held","held_aside","gone"]
theorem gZ:d8.Nodup:=by decide+kernel
def IZ(m:BA)(p:V):List V:=[p,.ref m.hl,.ref m.ad,.ref m.gd]
abbrev jF(m:BA)(p:V):List (Str×V):=d8.zip (IZ m p)
variable {m:BA}{p v:V}
theorem vG:(jF m p).lookup ("place": Str)=some p:=eN d8 _ 0 _ gZ rfl
theorem xS:(jF m p).lookup ("held": Str)=some (.ref m.hl):=eN d8 _ 1 _ gZ rfl
theorem KN:(jF m p).lookup ("held_aside": Str)=some (.ref m.ad):=eN d8 _ 2 _ gZ rfl
theorem KO:(jF m p).lookup ("gone": Str)=some (.ref m.gd):=eN d8 _ 3 _ gZ rfl
theorem PH{x:Str}(hx:¬x∈d8):(jF m p).lookup x=none:=tM d8 _ x hx
theorem PJ:gb "place" v (jF m p)=jF m v:=(oH v d8 (IZ m p) 0 _ gZ rfl (by show 0<4;decide)).trans rfl
theorem PK:(jF m p).length<1000:=by show 4<1000;decide
structure dh(C:Addr)(H:Hp)(m:BA)(b:Bd)(N:Nat):Prop where
 obj:H m.x=some (.ins C m.dx (jF m (.int (b.pl:Int))))
 hd:H m.hl=some (.lst (b.held.map oV))
 h8:b.held.length=8
 as:∃kvs,H m.ad=some (.dK kvs)/\(∀j:Int,(cM kvs (Sum.inl j)).getD .non=oV (b.af j))/\kvs.length<=N
 go:∃kvs,H m.gd=some (.dK kvs)/\(∀j:Int,(cM kvs (Sum.inl j)).isSome=b.gn j)/\kvs.length<=N
 I0:m.ad≠m.gd
def hU(m:BA)(c:Addr):Prop:=c=m.x\/c=m.hl\/c=m.ad\/c=m.gd
theorem dh.keeps{C:Addr}{H H1:Hp}{m:BA}{b:Bd}{N:Nat}{R:Addr->Prop}(h:dh C H m b N)(k:Keeps R H H1)(n:∀c,hU m c->¬R c):dh C H1 m b N:=by obtain⟨k1,a1,a2,a3⟩:=h.as;obtain⟨k2,c1,c2,c3⟩:=h.go;exact⟨k _ _ h.obj (.inl (n _ (.inl rfl))),k _ _ h.hd (.inl (n _ (.inr (.inl rfl)))),h.h8,⟨k1,k _ _ a1 (.inl (n _ (.inr (.inr (.inl rfl))))),a2,a3⟩,⟨k2,k _ _ c1 (.inl (n _ (.inr (.inr (.inr rfl))))),c2,c3⟩,h.I0⟩
theorem dh.same{C:Addr}{H H1:Hp}{m:BA}{b:Bd}{N:Nat}(h:dh C H m b N)(s:Same H H1):dh C H1 m b N:=h.keeps (R:=fun _=>False) (.same s) fun _ _ z=>z
theorem dh.mono{C:Addr}{H:Hp}{m:BA}{b:Bd}{N M:Nat}(h:dh C H m b N)(l:N<=M):dh C H m b M:=by obtain⟨k1,a1,a2,a3⟩:=h.as;obtain⟨k2,c1,c2,c3⟩:=h.go;exact⟨h.obj,h.hd,h.h8,⟨k1,a1,a2,by omega⟩,⟨k2,c1,c2,by omega⟩,h.I0⟩
def lQ:List Str:=["set","more","add","less"]
def hAt(xs:List (Option Int))(i:Int):Option Int:=(xs[i.toNat]?).getD none
def gC{α:Type}(f:Int->α)(i:Int)(v:α):Int->α:=fun j=>if j=i then v else f j
def dF(b:Bd)(d:FR):Bd :=
 if d.u ="copy"then {b with held:=b.held.set (d.is.getD 0 0).toNat (hAt b.held (d.is.getD 1 0)),gn:=gC b.gn b.pl true}
 else if d.u ="take"then {b with held:=b.held.set (d.is.getD 0 0).toNat (b.af (d.is.getD 1 0)),gn:=gC b.gn b.pl true}
 else if d.u ="put"then {b with af:=gC b.af (d.is.getD 1 0) (hAt b.held (d.is.getD 0 0)),gn:=gC b.gn b.pl true}
 else if d.u∈lQ then {b with held:=b.held.set (d.is.getD 0 0).toNat none,gn:=gC b.gn b.pl true}
 else {b with gn:=gC b.gn b.pl true}
structure BT(K:Frag)(C:Addr):Prop where
 cl:Cls K C
 n1:er K C "place"
 n2:er K C "held"
 n3:er K C "held_aside"
 n4:er K C "gone"
structure WT(K:Frag)(C:Addr):Prop where
 cl:Cls K C
 n1:er K C "walked"
 n2:er K C "looped"
 n3:er K C "ends"
def iD:List Str:=["walked","looped","ends"]
theorem hV:iD.Nodup:=by decide+kernel
abbrev dv(n:Int)(lo:Bool)(e:Addr):List (Str×V):=iD.zip [.int n,.bl lo,.ref e]
variable {n n2:Int}{lo l2:Bool}{e:Addr}
theorem Y7:(dv n lo e).lookup ("walked": Str)=some (.int n):=eN iD _ 0 _ hV rfl
theorem U6:(dv n lo e).lookup ("looped": Str)=some (.bl lo):=eN iD _ 1 _ hV rfl
theorem Y8:(dv n lo e).lookup ("ends": Str)=some (.ref e):=eN iD _ 2 _ hV rfl
theorem PL{x:Str}(hx:¬x∈iD):(dv n lo e).lookup x=none:=tM iD _ x hx
theorem KP:gb "walked" (.int n2) (dv n lo e)=dv n2 lo e:=(oH (.int n2) iD _ 0 _ hV rfl (by show 0<3;decide)).trans rfl
theorem KQ:gb "looped" (.bl l2) (dv n lo e)=dv n l2 e:=(oH (.bl l2) iD _ 1 _ hV rfl (by show 1<3;decide)).trans rfl
theorem Ja:(dv n lo e).length<1000:=by show 3<1000;decide
inductive KR(C:Addr)(vs:List V)(H:Hp)(Q:VK)(E_:XK):Prop
 | mk (x dx:Addr) (v1 v2 v3 v4:V) (_:vs=[.ref x,v1,v2,v3,v4]) (_:H x=some (.ins C dx [])) (_:Q .non (upd H x (.ins C dx (d8.zip [v1,v2,v3,v4]))))
theorem U7:aM ["self","place","held","held_aside","gone"] ["self","place","held","held_aside","gone"] (ao Nz):=by walk_at "sc1"
theorem PN{f:Addr}{fd:el}{C:Addr}(F:cy K "__init__" "Branch.__init__" Nz f fd)(T:Txt K w.params mg)(TB:BT K C): aN P w K mg base bu 1 f fd ["self","place","held","held_aside","gone"] (KR C):=by
 refine F.ok U7 (by walk_at "ln") (fun J4 A outer s H vs Q E hr h=>?_)
 ·obtain⟨x,dx,v1,v2,v3,v4,rfl,hx,k⟩:=h
  refine ck (ak (aq (gh (pv 0) (pv 1) rfl))
   (ak (aq (gh (pv 0) (pv 2) rfl))
   (ak (aq (gh (pv 0) (pv 3) rfl))
   (au (aq (gh (pv 0) (pv 4) rfl)))))) ?_
  refine⟨_,rfl,_,rfl,x,C,dx,_,rfl,hx,TB.cl,TB.n1,(by show 0<1000;decide),?_⟩;refine⟨_,rfl,_,rfl,x,C,dx,_,rfl,ai,TB.cl,TB.n2,(by show 1<1000;decide),?_⟩;rw[jh];refine⟨_,rfl,_,rfl,x,C,dx,_,rfl,ai,TB.cl,TB.n3,(by show 2<1000;decide),?_⟩;rw[jh];refine⟨_,rfl,_,rfl,x,C,dx,_,rfl,ai,TB.cl,TB.n4,(by show 3<1000;decide),?_⟩;rw[jh];exact k
def p9(H:Hp)(m:BA):Prop:=H m.x=none/\H m.hl=none/\H m.ad=none/\H m.gd=none
theorem p9.of{H H1:Hp}{m:BA}(s:Same H H1)(h:p9 H1 m):p9 H m:=by
 have k:∀c,H1 c=none->H c=none:=fun c n=>by
  cases e:H c with
  | none=>rfl
  | some o=>rw[s _ _ e]at n;cases n
 exact⟨k _ h.1,k _ h.2.1,k _ h.2.2.1,k _ h.2.2.2⟩
inductive PR(C:Addr)(vs:List V)(H:Hp)(Q:VK)(E_:XK):Prop
 | mk (m:BA) (b:Bd) (N p:Nat) (_:vs=[.ref m.x,.int (p:Int)]) (_:dh C H m b N) (_:∀(m1:BA) (H1:Hp),Same H H1->p9 H m1->dh C H1 m1 {b with pl:=p} N->Q (.ref m1.x) H1)
theorem U8:aM ["self","place"] ["self","place"] (ao NA):=by walk_at "sc1"
theorem PU{f fI:Addr}{fd Y9:el}{C:Addr}(F:cy K "forked" "Branch.forked" NA f fd)(T:Txt K w.params mg)(TB:BT K C)(MkI:Mk K C fI)(GI:aN P w K mg base bu 1 fI Y9 ["self","place","held","held_aside","gone"] (KR C))(bI:Binds K Y9 ["self","place","held","held_aside","gone"] [])(mI:mg "Branch"=some (.ref C)):aN P w K mg base bu 3 f fd ["self","place"] (PR C):=by
 refine F.ok U8 (by walk_at "ln") (fun J4 A outer s H vs Q E hr h=>?_)
 ·obtain⟨m,b,N,p,rfl,hB,k⟩:=h;obtain⟨PV,a1,a2,a3⟩:=id hB.as;obtain⟨zN,c1,c2,c3⟩:=id hB.go;refine ck (au (aq (aC (yQ MkI GI hr (by rfl) mI bI .nil aQ (ae (pv 1) (ae (bq cD (by rfl) T.list dq (ae (cB (pv 0) rfl) ah)) (ae (bq kj (by rfl) T.dict tL (ae (cB (pv 0) rfl) ah)) (ae (bq kj (by rfl) T.dict tL (ae (cB (pv 0) rfl) ah)) ah)))))))) ?_;refine⟨_,rfl,_,rfl,m.x,C,m.dx,_,_,rfl,hB.obj,TB.cl,TB.n2,xS,m.hl,_,rfl,.inl (aR.of hB.hd),fun l1 Si=>?_⟩;have s1:=aw (o:=.lst (b.held.map oV)) Si;have h1:upd H l1 (.lst (b.held.map oV)) l1=_:=ai;generalize upd H l1 (.lst (b.held.map oV))=G1 at s1 h1 ⊢;refine⟨_,rfl,m.x,C,m.dx,_,_,rfl,s1 _ _ hB.obj,TB.cl,TB.n3,KN,m.ad,_,rfl,s1 _ _ a1,fun l2 vz=>?_⟩;have s2:=s1.trans (aw (o:=.dK PV) vz);have h12:=aw (o:=.dK PV) vz _ _ h1;have h2:upd G1 l2 (.dK PV) l2=_:=ai;generalize upd G1 l2 (.dK PV)=G2 at s2 h2 h12 ⊢;refine⟨_,rfl,m.x,C,m.dx,_,_,rfl,s2 _ _ hB.obj,TB.cl,TB.n4,KO,m.gd,_,rfl,s2 _ _ c1,fun l3 Nw=>?_⟩;have t3:=aw (o:=.dK zN) Nw;have s3:=s2.trans t3;have h13:=t3 _ _ h12;have h23:=t3 _ _ h2;have U9:l2≠l3:=fun z=>by rw[z,Nw]at h2;cases h2
  have h3:upd G2 l3 (.dK zN) l3=_:=ai;generalize upd G2 l3 (.dK zN)=G3 at s3 h3 h13 h23 ⊢;intro x dx nx ndx ne;have fr:∀c,G3 c=none->H c=none:=fun c n=>by
   cases e:H c with
   | none=>rfl
   | some o=>rw[s3 _ _ e]at n;cases n
  refine⟨x,dx,.int (p:Int),.ref l1,.ref l2,.ref l3,rfl,ai,rfl,?_⟩;rw[jh];have s4:=(aw (o:=.own x) ndx);have nx':upd G3 dx (.own x) x=none:=by rw[az (Ne.symm ne)];exact nx
  have s5:=s4.trans (aw (o:=.ins C dx (d8.zip [V.int (p:Int),.ref l1,.ref l2,.ref l3])) nx');refine k ⟨x,dx,l1,l2,l3⟩ _ (s3.trans s5) ⟨fr _ nx,Si,?_,?_⟩ ⟨ai,s5 _ _ h13,hB.h8,⟨PV,s5 _ _ h23,a2,a3⟩,⟨zN,s5 _ _ h3,c2,c3⟩,U9⟩
  ·cases e:H l2 with
   | none=>rfl
   | some o=>rw[s1 _ _ e]at vz;cases vz
  ·cases e:H l3 with
   | none=>rfl
   | some o=>rw[s2 _ _ e]at Nw;cases Nw
inductive PX(C:Addr)(vs:List V)(H:Hp)(Q:VK)(E_:XK):Prop
 | mk (x dx:Addr) (_:vs=[.ref x]) (_:H x=some (.ins C dx [])) (_:∀(e:Addr) (H1:Hp),H e=none->(∀c o,c≠x->H c=some o->H1 c=some o)->H1 x=some (.ins C dx (dv 0 false e))->eP P w H1 e []->Q .non H1)
theorem Va:aM ["self"] ["self"] (ao NC):=by walk_at "sc1"
theorem PY{f:Addr}{fd:el}{C:Addr}(F:cy K "__init__" "Walk.__init__" NC f fd)(T:Txt K w.params mg)(TW:WT K C):aN P w K mg base bu 1 f fd ["self"] (PX (P:=P) (w:=w) C):=by
 refine F.ok Va (by walk_at "ln") (fun J4 A outer s H vs Q E hr h=>?_)
 ·obtain⟨x,dx,rfl,hx,k⟩:=h
  refine ck (ak (aq (gh (pv 0) aj rfl))
   (ak (aq (gh (pv 0) dI rfl))
   (au (aq (gh (pv 0) Gn rfl))))) ?_
  refine⟨_,rfl,x,C,dx,_,rfl,hx,TW.cl,TW.n1,(by show 0<1000;decide),?_⟩;refine⟨_,rfl,x,C,dx,_,rfl,ai,TW.cl,TW.n2,(by show 1<1000;decide),?_⟩;rw[jh];intro e ne;have Sl:e≠x:=fun z=>by rw[z,ai]at ne;cases ne
  refine⟨_,rfl,x,C,dx,_,rfl,by rw[az (Ne.symm Sl)];exact ai,TW.cl,TW.n3,(by show 2<1000;decide),?_⟩;refine k e _ (by rw[az Sl]at ne;exact ne) (fun c o hc e'=>?_) ai ⟨by rw[az Sl];exact ai,fun y hy=>nomatch hy⟩;have hce:c≠e:=fun z=>by rw[az Sl,<-z,e']at ne;cases ne
  rw[az hc,az hce,az hc];exact e'
inductive PZ(C:Addr)(vs:List V)(H:Hp)(Q:VK)(E_:XK):Prop
 | mk (x dx e:Addr) (n:Nat) (lo:Bool) (_:vs=[.ref x]) (_:H x=some (.ins C dx (dv (n:Int) lo e))) (_:n+1<=2000) (_:Q .non (upd H x (.ins C dx (dv ((n+1:Nat):Int) lo e))))
theorem Vb:aM ["self"] ["self"] (ao ND):=by walk_at "sc1"
theorem P0{f:Addr}{fd:el}{C:Addr}(F:cy K "walk_row" "Walk.walk_row" ND f fd)(T:Txt K w.params mg)(TW:WT K C):aN P w K mg base bu 1 f fd ["self"] (PZ C):=by
 refine F.ok Vb (by walk_at "ln") (fun J4 A outer s H vs Q E hr h=>?_)
 ·obtain⟨x,dx,e,n,lo,rfl,hx,hn,k⟩:=h;obtain⟨tm,hmw⟩:=T.qX
  refine ck (ak (aq (gh (pv 0) (aS cL (cB (pv 0) rfl) aj) rfl))
   (au (bj (aE rO (cB (pv 0) rfl) (c7 (v:=.int 2000) (by rfl) hmw ⟨_,rfl⟩) (aP _)) (au (aq Cu)) (aU aF)))) ?_
  refine⟨_,rfl,x,C,dx,_,_,rfl,hx,TW.cl,TW.n1,Y7,_,_,rfl,rfl,_,rfl,x,C,dx,_,rfl,hx,TW.cl,TW.n1,Ja,?_⟩;rw[KP];refine⟨_,rfl,x,C,dx,_,_,rfl,ai,TW.cl,TW.n1,Y7,_,_,rfl,rfl,_,rfl,bU (fun z=>?_) k⟩;have:=of_decide_eq_true z;omega
def dt(H H1:Hp):Prop:=∀c,H1 c=none->H c=none
theorem dt.refl{H:Hp}:dt H H:=fun _ h=>h
theorem dt.trans{H H1 H2:Hp}(a:dt H H1)(b:dt H1 H2):dt H H2:=fun c h=>a c (b c h)
theorem dt.same{H H1:Hp}(s:Same H H1):dt H H1:=fun c n=>by
 cases e:H c with
 | none=>rfl
 | some o=>rw[s _ _ e]at n;cases n
theorem dt.upd{H:Hp}{p:Addr}{o:HO}:dt H (L2.upd H p o):=fun c n=>by
 by_cases h:c=p
 ·rw[h,ai]at n;cases n
 ·rw[az h]at n;exact n
theorem GF.Hn{n:Int}{d:FR}(h:GF n d)(hu:d.u∈zL7):∃b c,d.is=[b,c]/\(0<=b/\b<=7)/\¬d.u ="table"/\(d.u ="copy"->0<=c/\c<=7):=by
 cases h with
 | @val u b c h hb=>exact⟨b,c,rfl,hb,(by decide+kernel:∀u∈zL2,¬u ="table") u h,fun z=>absurd z ((by decide+kernel:∀u∈zL2,¬u ="copy") u h)⟩
 | @two u b c h hb hc=>exact⟨b,c,rfl,hb,(by decide+kernel:∀u∈w2,¬u ="table") u h,fun _=>hc⟩
 | @B4 u b c h hb hc=>exact⟨b,c,rfl,hb,(by decide+kernel:∀u∈zL1,¬u ="table") u h,fun z=>absurd z ((by decide+kernel:∀u∈zL1,¬u ="copy") u h)⟩
 | @tell b hb=>exact absurd hu (by show ¬("tell": Str)∈_;decide+kernel)
 | @halt a=>exact absurd hu (by show ¬("halt": Str)∈_;decide+kernel)
 | @non u h=>exact absurd hu ((by decide+kernel:∀u∈zL3,¬u∈zL7) u h)
 | @jmp u t a h ht=>exact absurd hu ((by decide+kernel:∀u∈zL4,¬u∈zL7) u h)
 | @B5 u b t a h hb ht=>exact absurd hu ((by decide+kernel:∀u∈zL0,¬u∈zL7) u h)
 | @tab b ts hb hl ht=>exact absurd hu (by show ¬("table": Str)∈_;decide+kernel)
theorem tT{xs:List (Option Int)}(h8:xs.length=8){c:Int}(h:0<=c/\c<=7):lh (xs.map oV) c=some (oV (hAt xs c)):=by
 obtain⟨j,rfl⟩:=Int.eq_ofNat_of_zero_le h.1;have hj:j<xs.length:=by omega
 refine cj ?_;unfold hAt;rw[ag,lv,ac hj];rfl
theorem tU{xs:List (Option Int)}(h8:xs.length=8){c:Int}(h:0<=c/\c<=7):uY (xs.map oV).length c=some c.toNat:=by unfold uY;rw[if_pos h.1,if_pos (by rw[length_map];omega)]
theorem qa(xs:List (Option Int))(j:Nat)(v:Option Int):(xs.map oV).set j (oV v)=(xs.set j v).map oV:=by rw[map_set]
def Za(m:BA)(c:Addr):Prop:=c=m.hl\/c=m.ad\/c=m.gd
variable {C:Addr}{H:Hp}{b:Bd}{N:Nat}
theorem dh.Zb(h:dh C H m b N):m.x≠m.hl:=jy h.obj h.hd (fun z=>nomatch z)
theorem dh.Zc(h:dh C H m b N):m.x≠m.ad:=h.as.elim fun _ z=>jy h.obj z.1 (fun z=>nomatch z)
theorem dh.Zd(h:dh C H m b N):m.x≠m.gd:=h.go.elim fun _ z=>jy h.obj z.1 (fun z=>nomatch z)
theorem dh.Ze(h:dh C H m b N):m.hl≠m.ad:=h.as.elim fun _ z=>jy h.hd z.1 (fun z=>nomatch z)
theorem dh.Zf(h:dh C H m b N):m.hl≠m.gd:=h.go.elim fun _ z=>jy h.hd z.1 (fun z=>nomatch z)
theorem dh.mark(h:dh C H m b N)(hN:N<=5000):∃kvs,lA H m.gd (.int (b.pl:Int)) (.bl true) (upd H m.gd (.dK kvs))/\dh C (upd H m.gd (.dK kvs)) m {b with gn:=gC b.gn b.pl true} (N+1):=by
 obtain⟨k1,a1,a2,a3⟩:=id h.as;obtain⟨k2,c1,c2,c3⟩:=id h.go;refine⟨putK k2 (Sum.inl (b.pl:Int)) (.bl true),lA.k (k:=Sum.inl (b.pl:Int)) c1 (bh (by omega)),⟨by rw[az h.Zd];exact h.obj,by rw[az h.Zf];exact h.hd,h.h8,⟨k1,by rw[az h.I0];exact a1,a2,by omega⟩,⟨_,ai,fun j=>?_,le_trans (cU _ _ _) (by omega)⟩,h.I0⟩⟩;show _=gC b.gn b.pl true j;unfold gC;rw[gQ];by_cases e:j=(b.pl:Int)
 ·subst e;rw[if_pos rfl,if_pos rfl];rfl
 ·rw[if_neg (fun z=>e (Sum.inl.inj z)),if_neg e];exact c2 j
theorem dh.KS(h:dh C H m b N){ys:List (Option Int)}(h8:ys.length=8):dh C (upd H m.hl (.lst (ys.map oV))) m {b with held:=ys} N:=by obtain⟨k1,a1,a2,a3⟩:=id h.as;obtain⟨k2,c1,c2,c3⟩:=id h.go;exact⟨by rw[az h.Zb];exact h.obj,ai,h8,⟨k1,by rw[az (Ne.symm h.Ze)];exact a1,a2,a3⟩,⟨k2,by rw[az (Ne.symm h.Zf)];exact c1,c2,c3⟩,h.I0⟩
theorem dh.Vc(h:dh C H m b N)(hN:N<=5000)(i:Int)(v:Option Int):∃kvs,lA H m.ad (.int i) (oV v) (upd H m.ad (.dK kvs))/\dh C (upd H m.ad (.dK kvs)) m {b with af:=gC b.af i v} (N+1):=by
 obtain⟨k1,a1,a2,a3⟩:=id h.as;obtain⟨k2,c1,c2,c3⟩:=id h.go;refine⟨putK k1 (Sum.inl i) (oV v),lA.k (k:=Sum.inl i) a1 (bh (by omega)),⟨by rw[az h.Zc];exact h.obj,by rw[az h.Ze];exact h.hd,h.h8,⟨_,ai,fun j=>?_,le_trans (cU _ _ _) (by omega)⟩,⟨k2,by rw[az (Ne.symm h.I0)];exact c1,c2,by omega⟩,h.I0⟩⟩;show _=oV (gC b.af i v j);unfold gC;rw[gQ];by_cases e:j=i
 ·subst e;rw[if_pos rfl,if_pos rfl];rfl
 ·rw[if_neg (fun z=>e (Sum.inl.inj z)),if_neg e];exact a2 j
inductive P1(C:Addr)(vs:List V)(H:Hp)(Q:VK)(E_:XK):Prop
 | mk (m:BA) (b:Bd) (N:Nat) (q:Addr) (d:FR) (n:Int) (_:vs=[.ref m.x,.ref q]) (_:dh C H m b N) (_:N<=4000) (_:cw H q d) (_:GF n d) (_:∀H1,Keeps (Za m) H H1->dt H H1->dh C H1 m (dF b d) (N+2)->Q .non H1)
theorem Vd:aM ["self","row"] ["self","row"] (ao NB):=by walk_at "sc1"
theorem P2{f:Addr}{fd:el}{C:Addr}(F:cy K "pass_row" "Branch.pass_row" NB f fd)(T:Txt K w.params mg)(TB:BT K C):aN P w K mg base bu 1 f fd ["self","row"] (P1 C):=by
 refine F.ok Vd (by walk_at "ln") (fun J4 A outer s H vs Q E hr h=>?_)
 ·obtain⟨m,b,N,q,d,n,rfl,hB,hN,hR,hG,k⟩:=h;have hu:=iM hr;obtain⟨pp,hpp,hS⟩:=T.xJ
  refine ck (ak (aq (iq hu (cB (pv 0) rfl) (cB (pv 0) rfl) dI rfl))
   (au (bj (aE dJ (aH aX (pv 1) aj (fun _ _=>rfl)) ay (aP _)) (au (aq (e9 (aH aO (cB (pv 0) rfl) (aH aX (pv 1) aj (fun _ _=>rfl)) (fun _ _=>rfl)) (ie (cB (pv 0) rfl) (aH aX (pv 1) aj (fun _ _=>rfl)) set_list)))) (au (bj (aE dJ (aH aX (pv 1) aj (fun _ _=>rfl)) ay (aP _)) (au (aq (e9 (CP hu (cB (pv 0) rfl) (aH aX (pv 1) aj (fun _ _=>rfl)) ⟨rfl,rfl,rfl,rfl⟩) (ie (cB (pv 0) rfl) (aH aX (pv 1) aj (fun _ _=>rfl)) set_list)))) (au (bj (aE dJ (aH aX (pv 1) aj (fun _ _=>rfl)) ay (aP _)) (au (aq (iq hu (cB (pv 0) rfl) (aH aX (pv 1) aj (fun _ _=>rfl)) (aH aO (cB (pv 0) rfl) (aH aX (pv 1) aj (fun _ _=>rfl)) (fun _ _=>rfl)) rfl))) (au (bj (aE bQ (aH aX (pv 1) aj (fun _ _=>rfl)) (c7 (v:=.ref pp) (by rfl) hpp rfl) rfl) (au (aq (e9 dM (ie (cB (pv 0) rfl) (aH aX (pv 1) aj (fun _ _=>rfl)) set_list)))) (aU aF)))))))))) ?_
  obtain⟨zN,Ve,jw⟩:=hB.mark (by omega);obtain⟨kg,cg,_⟩:=id hB.go;have K1:Keeps (Za m) H (upd H m.gd (.dK zN)):=Keeps.refl.upd cg (fun _ z=>nomatch z) (.inr (.inr rfl));have wt:dt H (upd H m.gd (.dK zN)):=dt.upd;refine⟨_,rfl,m.x,C,m.dx,_,_,rfl,hB.obj,TB.cl,TB.n4,KO,_,rfl,m.x,C,m.dx,_,_,rfl,hB.obj,TB.cl,TB.n1,vG,m.gd,_,rfl,Ve,?_⟩;generalize upd H m.gd (.dK zN)=G1 at K1 wt jw ⊢;have uL:=hR.tups K1.tups;obtain⟨items,hq,_⟩:=uL.parts;have NG:∀s:Str,(decide (V.str d.u=V.str s)=true)↔d.u=s:=fun s=>⟨fun z=>V.str.inj (of_decide_eq_true z),fun z=>by rw[z];exact decide_eq_true rfl⟩;unfold dF at k;refine⟨_,rfl,q,_,0,_,rfl,rfl,bp.of hq,at0 _ _,rfl,_,rfl,?_⟩;by_cases c1:d.u ="copy"
  ·refine c6 ((NG _).mpr c1) ?_;rw[if_pos c1]at k;obtain⟨x,y,e,hx,ht,hy⟩:=hG.Hn (by rw[c1];decide+kernel);have hq2:=uL.nt ht;rw[e]at hq2 k;refine⟨_,rfl,m.x,C,m.dx,_,_,rfl,jw.obj,TB.cl,TB.n2,xS,_,rfl,q,_,2,_,rfl,rfl,bp.of hq2,at2 _ _ _ _,m.hl,_,_,_,rfl,rfl,aR.of jw.hd,tT jw.h8 (hy c1),?_⟩;refine⟨_,rfl,m.x,C,m.dx,_,_,rfl,jw.obj,TB.cl,TB.n2,xS,_,rfl,q,_,1,_,rfl,rfl,bp.of hq2,at1 _ _ _,m.hl,_,_,_,rfl,rfl,jw.hd,tU jw.h8 hx,?_⟩;rw[qa];exact k _ (K1.trans (Keeps.refl.upd jw.hd (fun _ z=>nomatch z) (.inl rfl))) (wt.trans dt.upd) ((jw.KS (by rw[length_set];exact jw.h8)).mono (by omega))
  rw[if_neg c1]at k;refine bU (fun z=>c1 ((NG _).mp z)) ?_;refine⟨_,rfl,q,_,0,_,rfl,rfl,bp.of hq,at0 _ _,rfl,_,rfl,?_⟩;by_cases c2:d.u ="take"
  ·refine c6 ((NG _).mpr c2) ?_;rw[if_pos c2]at k;obtain⟨x,y,e,hx,ht,hy⟩:=hG.Hn (by rw[c2];decide+kernel);have hq2:=uL.nt ht;rw[e]at hq2 k;obtain⟨ka,a1,a2,a3⟩:=id jw.as;refine⟨_,rfl,m.x,C,m.dx,_,_,rfl,jw.obj,TB.cl,TB.n3,KN,m.ad,rfl,.inl ⟨_,.inl a1⟩,_,rfl,q,_,2,_,rfl,rfl,bp.of hq2,at2 _ _ _ _,_,dP.k (k:=Sum.inl y) a1,?_⟩;rw[a2 y];refine⟨_,rfl,m.x,C,m.dx,_,_,rfl,jw.obj,TB.cl,TB.n2,xS,_,rfl,q,_,1,_,rfl,rfl,bp.of hq2,at1 _ _ _,m.hl,_,_,_,rfl,rfl,jw.hd,tU jw.h8 hx,?_⟩;rw[qa];exact k _ (K1.trans (Keeps.refl.upd jw.hd (fun _ z=>nomatch z) (.inl rfl))) (wt.trans dt.upd) ((jw.KS (by rw[length_set];exact jw.h8)).mono (by omega))
  rw[if_neg c2]at k;refine bU (fun z=>c2 ((NG _).mp z)) ?_;refine⟨_,rfl,q,_,0,_,rfl,rfl,bp.of hq,at0 _ _,rfl,_,rfl,?_⟩;by_cases c3:d.u ="put"
  ·refine c6 ((NG _).mpr c3) ?_;rw[if_pos c3]at k;obtain⟨x,y,e,hx,ht,hy⟩:=hG.Hn (by rw[c3];decide+kernel);have hq2:=uL.nt ht;rw[e]at hq2 k;obtain⟨ka,a1,a2,a3⟩:=id jw.as;obtain⟨kv3,P4,hB3⟩:=jw.Vc (by omega) y (hAt b.held x);refine⟨_,rfl,m.x,C,m.dx,_,_,rfl,jw.obj,TB.cl,TB.n2,xS,_,rfl,q,_,1,_,rfl,rfl,bp.of hq2,at1 _ _ _,m.hl,_,_,_,rfl,rfl,aR.of jw.hd,tT jw.h8 hx,?_⟩;refine⟨_,rfl,m.x,C,m.dx,_,_,rfl,jw.obj,TB.cl,TB.n3,KN,_,rfl,q,_,2,_,rfl,rfl,bp.of hq2,at2 _ _ _ _,m.ad,_,rfl,P4,?_⟩;exact k _ (K1.trans (Keeps.refl.upd a1 (fun _ z=>nomatch z) (.inr (.inl rfl)))) (wt.trans dt.upd) hB3
  rw[if_neg c3]at k;refine bU (fun z=>c3 ((NG _).mp z)) ?_;refine⟨_,rfl,q,_,0,_,rfl,rfl,bp.of hq,at0 _ _,pp,lQ.map V.str,rfl,.inr (hS _),rfl,rfl,_,rfl,?_⟩;show if inV (.str d.u) (lQ.map V.str)=true then _ else _;rw[cX];by_cases c4:d.u∈lQ
  ·refine c6 (decide_eq_true c4) ?_;rw[if_pos c4]at k;obtain⟨x,y,e,hx,ht,hy⟩:=hG.Hn ((by decide+kernel:∀u∈lQ,u∈zL7) _ c4);have hq2:=uL.nt ht;rw[e]at hq2 k;refine⟨_,rfl,m.x,C,m.dx,_,_,rfl,jw.obj,TB.cl,TB.n2,xS,_,rfl,q,_,1,_,rfl,rfl,bp.of hq2,at1 _ _ _,m.hl,_,_,_,rfl,rfl,jw.hd,tU jw.h8 hx,?_⟩;rw[show V.non=oV none from rfl,qa];exact k _ (K1.trans (Keeps.refl.upd jw.hd (fun _ z=>nomatch z) (.inl rfl))) (wt.trans dt.upd) ((jw.KS (by rw[length_set];exact jw.h8)).mono (by omega))
  rw[if_neg c4]at k;exact bU (fun z=>c4 (of_decide_eq_true z)) (k _ K1 wt (jw.mono (by omega)))
structure WS where
 n:Nat
 lo:Bool
 es:List NK
def lR(es:List NK)(k:NK):List NK:=if k∈es then es else es++ [k]
def tV(ds:List FR)(ld:List (Option Int)):Nat->WS->Bd->List Bd->Option (WS×List Bd)
 | 0,_,_,_=>none
 | f+1,s,b,fk=>match ld[b.pl]? with
  | some (some k)=>some ({s with es:=lR s.es (k,b.held)},fk)
  | some none=>if b.gn b.pl=true then some ({s with lo:=true},fk)else if 2000<s.n+1 then none else match ds[b.pl]? with
   | none=>none
   | some d=>match nxt d b.pl with
    | []=>some ({s with n:=s.n+1},fk)
    | p::ps=>tV ds ld f {s with n:=s.n+1} {dF b d with pl:=p.toNat} (fk++ps.map fun q=>{dF b d with pl:=q.toNat})
  | none=>none
def Ho(m m':BA):Prop:=∀c,hU m c->¬hU m' c
structure FK(C:Addr)(H0 G:Hp)(lf:Addr)(ms:List BA)(fk:List Bd)(N:Nat):Prop where
 lst:G lf=some (.lst (ms.map fun m=>V.ref m.x))
 len:ms.length=fk.length
 at_:∀(i:Nat) m b,ms[i]? =some m->fk[i]? =some b->dh C G m b N
 new:∀m∈ms,p9 H0 m/\¬hU m lf
 ap:ms.Pairwise Ho
theorem p9.own{H:Hp}{m:BA}(h:p9 H m){c:Addr}(o:hU m c):H c=none:=by
 rcases o with rfl | rfl | rfl | rfl
 ·exact h.1
 ·exact h.2.1
 ·exact h.2.2.1
 ·exact h.2.2.2
theorem dh.there{C:Addr}{H:Hp}{m:BA}{b:Bd}{N:Nat}(h:dh C H m b N){c:Addr}(o:hU m c):∃u,H c=some u:=by
 rcases o with rfl | rfl | rfl | rfl
 ·exact⟨_,h.obj⟩
 ·exact⟨_,h.hd⟩
 ·exact h.as.elim fun _ z=>⟨_,z.1⟩
 ·exact h.go.elim fun _ z=>⟨_,z.1⟩
theorem FK.keeps{C:Addr}{H0 G G1:Hp}{lf:Addr}{ms:List BA}{fk:List Bd}{N M:Nat}{R:Addr->Prop}(h:FK C H0 G lf ms fk N)(k:Keeps R G G1)(hR:∀c,R c->H0 c≠none)(hl:¬R lf)(l:N<=M):FK C H0 G1 lf ms fk M :=
 ⟨k _ _ h.lst (.inl hl),h.len,fun i m b a e=>((h.at_ i m b a e).keeps k fun c o z=>hR c z ((h.new m (am a)).1.own o)).mono l,h.new,h.ap⟩
theorem cu{P:Program}{w:World}{H H1:Hp}{e:Addr}{es:List (NK×Addr)}{R:Addr->Prop}(h:eP P w H e es)(k:Keeps R H H1)(n:¬R e):eP P w H1 e es :=
 ⟨k _ _ h.1 (.inl n),fun x hx=>(h.2 x hx).imp fun b z=>⟨k.tups _ _ z.1,k.tups _ _ z.2⟩⟩
theorem KU{es:List (NK×Addr)}{k:NK}{a:Addr}:(putN es k a).map (·.1)=lR (es.map (·.1)) k:=by
 unfold putN lR;split
 ·rfl
 ·rw[map_append];rfl
theorem Hq{es:List (NK×Addr)}{k:NK}{a:Addr}:(putN es k a).length<=es.length+1:=by
 unfold putN;split
 ·omega
 ·rw[length_append];exact le_refl _
theorem Hr{n:Int}{d:FR}(h:GF n d){p:Nat}:∀q∈nxt d p,0<=q:=fun q hq=>by
 unfold nxt at hq;rcases mem_append.mp hq with z | z
 ·exact(h.ts.2 q z).1
 ·by_cases c:d.u∈cv
  ·rw[if_pos c]at z;cases z
  ·rw[if_neg c]at z;rw[mem_singleton.mp z];omega
theorem zO{n:Int}{d:FR}(h:GF n d)(p:Int):(nxt d p).length<=17:=by unfold nxt;rw[length_append];have:=h.ts.1;split<;>simp<;>omega
def WR(m:BA)(wx e:Addr)(c:Addr):Prop:=c=wx\/c=e\/hU m c
inductive P5(WC C:Addr)(vs:List V)(H:Hp)(Q:VK)(E_:XK):Prop
 | mk (wx gG e l1 ll:Addr) (m:BA) (ds:List FR) (ld:List (Option Int)) (M:Int) (s s1:WS) (b:Bd) (fk:List Bd) (fu:Nat) (es:List (NK×Addr)) (_:vs=[.ref wx,.ref l1,.ref ll,.ref m.x]) (_:H wx=some (.ins WC gG (dv (s.n:Int) s.lo e))) (_:eP P w H e es) (_:es.map (·.1)=s.es) (_:es.length<=100000) (_:dh C H m b (2*s.n)) (_:cm H l1 ds) (_:(∀d∈ds,GF M d)) (_:H ll=some (.lst (ld.map oV))) (_:l1≠m.hl) (_:ll≠m.hl) (_:wx≠m.x) (_:s.n<=2000) (_:tV ds ld fu s b []=some (s1,fk)) (_:∀(lf:Addr) (ms:List BA) (es1:List (NK×Addr)) (H1:Hp),Keeps (WR m wx e) H H1->dt H H1->H1 wx=some (.ins WC gG (dv (s1.n:Int) s1.lo e))->eP P w H1 e es1->es1.map (·.1)=s1.es->es1.length<=es.length+1->H lf=none->FK C H H1 lf ms fk (2*s1.n)->s1.n<=2000->Q (.ref lf) H1)
def Zg(P:Program)(w:World)(WC C:Addr)(H:Hp)(wx gG e l1 ll lf:Addr)(m:BA)(ds:List FR)(ld:List (Option Int))(s1:WS)(fk:List Bd)(es:List (NK×Addr))(mm:Nat)(σ:St)(G:Hp):Prop:=∃(s:WS) (b:Bd) (Ft:List Bd) (ms:List BA) (v5:Option V),σ=[some (.ref wx),some (.ref l1),some (.ref ll),some (.ref m.x),some (.ref lf),v5]/\tV ds ld mm s b Ft=some (s1,fk)/\Keeps (WR m wx e) H G/\dt H G/\G wx=some (.ins WC gG (dv (s.n:Int) s.lo e))/\eP P w G e es/\es.map (·.1)=s.es/\dh C G m b (2*s.n)/\FK C H G lf ms Ft (2*s.n)/\s.n<=2000/\Ft.length<=17*s.n
theorem KW:aM ["self","new","leads","branch","forks","following"] ["self","new","leads","branch"] (ao IY):=by walk_at "sc1"
def KY:Scope:={kind:=.function,names:=[(".0",.local),("place",.local),("branch",.free)],isGenerator:=false,isCoroutine:=false,more:=[]}
theorem DV:cC (ao IY) KY ["self","new","leads","branch","forks","following"] ["place","branch"] [none,some 3]:=by walk_at "sc2"
theorem P6{f fN fR fP fF:Addr}{fd pT zF sr zM:el}{WC C:Addr}(F:cy K "follow" "Walk.follow" IY f fd)(T:Txt K w.params mg)(GN:aN P w K mg base bu 2 fN pT ["new","n"] KA)(kN:KI K fN)(bN:Binds K pT ["new","n"] [])(mN:mg "next_rows"=some (.ref fN))(TW:WT K WC)(TB:BT K C)(MR:Meth K WC "walk_row" fR)(GR:aN P w K mg base bu 1 fR zF ["self"] (PZ WC))(bR:Binds K zF ["self"] [])(MP:Meth K C "pass_row" fP)(GP:aN P w K mg base bu 1 fP sr ["self","row"] (P1 C))(bP:Binds K sr ["self","row"] [])(MF:Meth K C "forked" fF)(GF:aN P w K mg base bu 3 fF zM ["self","place"] (PR C))(bF:Binds K zM ["self","place"] []):aN P w K mg base bu 4 f fd ["self","new","leads","branch"] (P5 (P:=P) (w:=w) WC C):=by
 refine F.ok KW (by walk_at "ln") (fun J4 A outer s H vs Q E hr h=>?_)
 ·obtain⟨wx,gG,e,l1,ll,m,ds,ld,M,s2,s1,b,fk,fu,es,rfl,wu,he,hes,hel,hB,hR,hG,kc,Si,Sn,KZ,hn0,Vf,k⟩:=h;have hu:=iM hr;have hu2:=kU (Nat.add_le_add_left (by decide:2<=64) _) hr.units;have hr1:=hr.mono (show 1<=_ by decide);have hr2:=hr.mono (show 2<=_ by decide)
  refine ck (ak (aq (aT (i:=4) KW.nd rfl (Or.inl rfl) (aY ah)))
   (ak (aq (oO PassesOwn.never (sA (aE sF (aH aO (pv 2) (cB (pv 3) rfl) (fun _ _=>rfl)) dM (aP _)) (oy (wz (lC hu (cB (pv 3) rfl) (cB (pv 3) rfl))))).pt (aL (dy (CF (pv 0) TW.cl MR GR hr1 bR .nil aQ))
   (aL (dy (sI (pv 3) TB.cl MP GP hr1 bP .nil aQ (ae (aH aO (pv 1) (cB (pv 3) rfl) (fun _ _=>rfl)) ah)))
   (aL (aT (i:=5) KW.nd rfl (Or.inl rfl) (aA GN hr2 (by rfl) mN kN bN .nil aQ (ae (pv 1) (ae (cB (pv 3) rfl) ah))))
   (aL (cS (aE dJ (aG aK (by rfl) T.len bV (ae (pv 5) ah)) aj (aP _)) (aJ (aC (pv 4))) aF)
   (aL (dy (iX ge PySem.F.slot_list_extend PySem.F.type_list_extend jl (pv 4) (ae (cW (X:=(gi bu P w K mg base ["self","new","leads","branch","forks","following"] "Walk.follow" (ao IY) f J4 A outer s H E).wo) (N':=["place","branch"]) (fr:=[none,some 3]) DV rfl (cJ (gN yX (pv 5) (il aj) j3)) (fun C s0 H0 fp=>(bg (i:=0) DV.nd rfl (Or.inl rfl))) (fun C s0 H0 fp=>df) (fun C s0 H0 fp=>(sI (pv 1) TB.cl MF GF hr bF .nil aQ (ae (pv 0) ah)))) ah)))
   (aJ (gh (pv 3) (aH aO (pv 5) aj (fun _ _=>rfl)) rfl)))))))))
   (ak (bj (aE sF (aH aO (pv 2) (cB (pv 3) rfl) (fun _ _=>rfl)) dM (aP _)) (au (aq (gh (pv 0) dI rfl))) (au (aq (Gp hu2 (cB (pv 0) rfl) (aV (ae (aH aO (pv 2) (cB (pv 3) rfl) (fun _ _=>rfl)) (ae (bq eC (by rfl) T.tuple gY (ae (cB (pv 3) rfl) ah)) ah))) dI rfl))))
   (au (aq (aC (pv 4))))))) ?_
  refine UP fun u0 e0=>?_;refine⟨zle,fun lf B9=>?_⟩;have S0:=aw (o:=.lst []) B9;have h0:upd H lf (.lst []) lf=some (.lst (([]:List BA).map fun m=>V.ref m.x)):=ai;generalize upd H lf (.lst [])=G0 at S0 h0 ⊢;have there:∀c,WR m wx e c->H c≠none:=fun c hc z=>by
   rcases hc with rfl | rfl | hc
   ·rw[wu]at z;cases z
   ·rw[he.1]at z;cases z
   ·obtain⟨u,hu'⟩:=hB.there hc;rw[hu']at z;cases z
  have Jb:¬WR m wx e lf:=fun z=>there lf z B9;have P7:¬WR m wx e l1:=by
   obtain⟨qs,hq,_⟩:=hR;rintro(rfl | rfl | rfl | rfl | rfl | rfl)
   ·rw[hq]at wu;cases wu
   ·rw[he.1]at hq;cases hq
   ·have:=hB.obj;rw[hq]at this;cases this
   ·exact Si rfl
   ·obtain⟨_,z,_⟩:=hB.as;rw[hq]at z;cases z
   ·obtain⟨_,z,_⟩:=hB.go;rw[hq]at z;cases z
  have Vg:¬WR m wx e ll:=by
   rintro(rfl | rfl | rfl | rfl | rfl | rfl)
   ·rw[kc]at wu;cases wu
   ·have:=he.1;rw[kc]at this;cases this
   ·have:=hB.obj;rw[kc]at this;cases this
   ·exact Sn rfl
   ·obtain⟨_,z,_⟩:=hB.as;rw[kc]at z;cases z
   ·obtain⟨_,z,_⟩:=hB.go;rw[kc]at z;cases z
  have Sq:wx≠e:=fun z=>by rw[z,he.1]at wu;cases wu
  have nwB:¬hU m wx:=by
   rintro(z | z | z | z)
   ·exact KZ z
   ·have:=hB.hd;rw[<-z,wu]at this;cases this
   ·obtain⟨_,y,_⟩:=hB.as;rw[<-z,wu]at y;cases y
   ·obtain⟨_,y,_⟩:=hB.go;rw[<-z,wu]at y;cases y
  have Zh:¬hU m e:=by
   have J8:=he.1;unfold dN at J8;rintro(z | z | z | z)
   ·have:=hB.obj;rw[<-z,J8]at this;cases this
   ·have:=hB.hd;rw[<-z,J8]at this;cases this
   ·obtain⟨_,y,_⟩:=hB.as;rw[<-z,J8]at y;cases y
   ·obtain⟨_,y,_⟩:=hB.go;rw[<-z,J8]at y;cases y
  refine UQ (v:=u0) e0 fun tb u1 et e1=>?_;refine⟨Zg P w WC C H wx gG e l1 ll lf m ds ld s1 fk es,⟨fu,s2,b,[],[],none,rfl,Vf,.same S0,.same S0,S0 _ _ wu,cu he (.same (R:=fun _=>False) S0) id,hes,hB.same S0,⟨h0,rfl,(fun i m b h=>by simp at h),(fun m hm=>nomatch hm),List.Pairwise.nil⟩,hn0,zero_le _⟩,?_⟩;rintro mm σ G ⟨s3,b3,NH,vH,v5,rfl,hf,Kp,Gr,Ca,gE,K5,gB,gF,gn,gfl⟩;cases mm with
  | zero=>cases hf
  | succ mm=>
  unfold tV at hf;have Sr:=Kp _ _ kc (.inl Vg);have hlen:b3.pl<ld.length:=by
   by_cases c:b3.pl<ld.length
   ·exact c
   ·rw[List.getElem?_eq_none (by omega)]at hf;cases hf
  have K8:ld[b3.pl]? =some ld[b3.pl]:=ac hlen;rw[K8]at hf;have hat:lh (ld.map oV) (b3.pl:Int)=some (oV ld[b3.pl]):=cj (by rw[ag,K8];rfl);generalize ld[b3.pl]=lead at hf K8 hat;refine⟨_,rfl,_,rfl,m.x,C,m.dx,_,_,rfl,gB.obj,TB.cl,TB.n1,vG,ll,_,_,_,rfl,rfl,aR.of Sr,hat,rfl,?_⟩;cases lead with
  | some kk=>
   refine⟨_,rfl,bU (by simp[oV]) ?_⟩;show if false=true then _ else _;refine bU lm ?_;refine xO (v:=u1) e1 fun u2 e2=>?_;refine⟨_,rfl,_,rfl,m.x,C,m.dx,_,_,rfl,gB.obj,TB.cl,TB.n1,vG,ll,_,_,_,rfl,rfl,aR.of Sr,hat,rfl,_,rfl,bU (by simp[oV]) ?_⟩;have hf:=Option.some.inj hf;obtain⟨rfl,rfl⟩:=Prod.mk.inj hf;refine⟨_,rfl,wx,WC,gG,_,_,rfl,Ca,TW.cl,TW.n3,Y8,?_⟩;refine⟨_,rfl,_,rfl,m.x,C,m.dx,_,_,rfl,gB.obj,TB.cl,TB.n1,vG,ll,_,_,_,rfl,rfl,aR.of Sr,hat,?_⟩;refine⟨_,rfl,m.x,C,m.dx,_,_,rfl,gB.obj,TB.cl,TB.n2,xS,m.hl,_,rfl,.inl ⟨aR.of gB.hd,fun t1 Zi=>?_⟩⟩;have S1:=aw (o:=.tup (b3.held.map oV)) Zi;have ht1:upd G t1 (.tup (b3.held.map oV)) t1=_:=ai;generalize upd G t1 (.tup (b3.held.map oV))=G1 at S1 ht1 ⊢;refine⟨zle,fun t2 Vh=>?_⟩;have S2:=S1.trans (aw (o:=.tup [oV (some kk),.ref t1]) Vh);have zi:upd G1 t2 (.tup [oV (some kk),.ref t1]) t2=_:=ai;have Qa:=aw (o:=.tup [oV (some kk),.ref t1]) Vh _ _ ht1;generalize upd G1 t2 (.tup [oV (some kk),.ref t1])=G2 at S2 zi Qa ⊢;have Hs:=cu gE (.same (R:=fun _=>False) S2) id;have hk:tD G2 (kk,b3.held) t2:=⟨t1,zi,Qa⟩;refine⟨e,t2,es,(kk,b3.held),rfl,rfl,rfl,Hs,hk,bh (by omega),?_⟩;refine cutE (v:=u2) e2 ⟨_,rfl,?_⟩;have K3:Keeps (WR m wx e) H (upd G2 e (dN P w e (putN es (kk,b3.held) t2))):=(Kp.trans (.same S2)).upd Hs.1 (fun _ z=>nomatch z) (.inr (.inl rfl));have K4:Keeps (fun c=>c=e) G (upd G2 e (dN P w e (putN es (kk,b3.held) t2))):=(Keeps.same S2).upd Hs.1 (fun _ z=>nomatch z) rfl;refine k lf vH (putN es (kk,b3.held) t2) _ K3 (Gr.trans ((dt.same S2).trans dt.upd)) ?_ ⟨ai,fun x hx=>?_⟩ (by rw[KU,K5]) Hq B9 (gF.keeps K4 (fun c hc=>by rw[hc];exact there e (.inr (.inl rfl))) (fun z=>Jb (.inr (.inl z))) (le_refl _)) gn
   ·rw[az Sq];exact S2 _ _ Ca
   ·have hx':tD G2 x.1 x.2:=by
     unfold putN at hx;split at hx
     ·exact Hs.2 x hx
     ·rcases mem_append.mp hx with z | z
      ·exact Hs.2 x z
      ·rw[mem_singleton.mp z];exact hk
    exact hx'.upd Hs.1 (fun _ z=>nomatch z)
  | none=>
   obtain⟨kvg,c1,c2,c3⟩:=id gB.go;refine⟨_,rfl,c6 rfl ?_⟩;refine⟨_,rfl,m.x,C,m.dx,_,_,rfl,gB.obj,TB.cl,TB.n1,vG,_,rfl,m.x,C,m.dx,_,_,rfl,gB.obj,TB.cl,TB.n4,KO,m.gd,_,rfl,dP.k (k:=Sum.inl (b3.pl:Int)) c1,?_⟩;rw[c2];have hf:(if b3.gn b3.pl=true then some ({s3 with lo:=true},NH)else _)=_:=hf;by_cases cg:b3.gn b3.pl=true
   ·rw[if_pos cg]at hf;have hf:=Option.some.inj hf;obtain⟨rfl,rfl⟩:=Prod.mk.inj hf;rw[cg];refine⟨_,rfl,bU (by decide) ?_⟩;refine xO (v:=u1) e1 fun u2 e2=>?_;refine⟨_,rfl,_,rfl,m.x,C,m.dx,_,_,rfl,gB.obj,TB.cl,TB.n1,vG,ll,_,_,_,rfl,rfl,aR.of Sr,hat,rfl,_,rfl,c6 rfl ?_⟩;refine⟨_,rfl,wx,WC,gG,_,rfl,Ca,TW.cl,TW.n2,Ja,?_⟩;rw[KQ];refine cutE (v:=u2) e2 ⟨_,rfl,?_⟩;have K4:Keeps (fun c=>c=wx) G (upd G wx (.ins WC gG (dv (s3.n:Int) true e))):=Keeps.refl.upd Ca (fun _ z=>nomatch z) rfl;refine k lf vH es _ (Kp.upd Ca (fun _ z=>nomatch z) (.inl rfl)) (Gr.trans dt.upd) ai (cu gE K4 (fun z=>Sq z.symm)) K5 (by omega) B9 (gF.keeps K4 (fun c hc=>by rw[hc];exact there wx (.inl rfl)) (fun z=>Jb (.inl z)) (le_refl _)) gn
   ·rw[if_neg cg]at hf;rw[Bool.eq_false_iff.mpr cg];refine⟨_,rfl,c6 rfl ?_⟩;by_cases cn:2000<s3.n+1
    ·rw[if_pos cn]at hf;cases hf
    rw[if_neg cn]at hf;have hdl:b3.pl<ds.length:=by
     by_cases c:b3.pl<ds.length
     ·exact c
     ·rw[List.getElem?_eq_none (by omega)]at hf;cases hf
    have hdi:ds[b3.pl]? =some ds[b3.pl]:=ac hdl;have hgd:=hG _ (bi hdl);rw[hdi]at hf;generalize ds[b3.pl]=d at hf hdi hgd;dsimp only at hf;refine⟨Zg P w WC C H wx gG e l1 ll lf m ds ld s1 fk es mm,fun σ' G' hw=>⟨mm,Nat.lt_succ_self _,hw⟩,?_⟩;refine xO (v:=tb) et fun u2 e2=>?_;refine⟨_,rfl,wx,gG,_,rfl,Ca,PL (by decide+kernel),wx,gG,e,s3.n,s3.lo,rfl,Ca,by omega,?_⟩;have K1:Keeps (fun c=>c=wx) G (upd G wx (.ins WC gG (dv ((s3.n+1:Nat):Int) s3.lo e))):=Keeps.refl.upd Ca (fun _ z=>nomatch z) rfl;have Ss:=Kp.upd (o':=.ins WC gG (dv ((s3.n+1:Nat):Int) s3.lo e)) Ca (fun _ z=>nomatch z) (.inl rfl);have wt:dt H (upd G wx (.ins WC gG (dv ((s3.n+1:Nat):Int) s3.lo e))):=Gr.trans dt.upd;have Bj:upd G wx (.ins WC gG (dv ((s3.n+1:Nat):Int) s3.lo e)) wx=_:=ai;have Qb:=cu gE K1 (fun z=>Sq z.symm);have Sv:=gB.keeps K1 (fun c hc z=>nwB (z▸hc));have Zj:=gF.keeps (M:=2*s3.n) K1 (fun c hc=>by rw[hc];exact there wx (.inl rfl)) (fun z=>Jb (.inl z)) (le_refl _);generalize upd G wx (.ins WC gG (dv ((s3.n+1:Nat):Int) s3.lo e))=G1 at Ss wt Bj Qb Sv Zj ⊢;refine xO (v:=u2) e2 fun u2 e2=>?_;have uL:cm G1 l1 ds:=by obtain⟨qs,a1,a2,a3⟩:=hR;exact⟨qs,Ss _ _ a1 (.inl P7),a2,fun i q d h1 h2=>(a3 i q d h1 h2).tups Ss.tups⟩
    obtain⟨xs,q,a1,a2,a3⟩:=uL.row hdi;refine⟨_,rfl,m.x,m.dx,_,rfl,Sv.obj,PH (by decide+kernel),_,rfl,_,rfl,m.x,C,m.dx,_,_,rfl,Sv.obj,TB.cl,TB.n1,vG,l1,_,_,.ref q,rfl,rfl,aR.of a1,a2,m,b3,2*s3.n,q,d,M,rfl,Sv,by omega,a3,hgd,fun G2 K2 Gr2 Zk=>?_⟩;have Vi:Keeps (WR m wx e) G1 G2:=K2.more fun c hc=>.inr (.inr (.inr hc));have Zm:=Ss.trans Vi;have Qc:=K2 _ _ Bj (.inl fun z=>nwB (.inr z));have Hs:=cu Qb K2 (fun z=>Zh (.inr z));have Vj:=Zj.keeps (M:=2*(s3.n+1)) K2 (fun c hc=>there c (.inr (.inr (.inr hc)))) (fun z=>Jb (.inr (.inr (.inr z)))) (by omega);have Qd:=wt.trans Gr2;have Kt:cm G2 l1 ds:=by obtain⟨qs,a1,a2,a3⟩:=uL;exact⟨qs,Vi _ _ a1 (.inl P7),a2,fun i q d h1 h2=>(a3 i q d h1 h2).tups Vi.tups⟩
    refine xO (v:=u2) e2 fun u2 e2=>?_;have hpl:(dF b3 d).pl=b3.pl:=by unfold dF;split;rfl;split;rfl;split;rfl;split<;>rfl
    have Qe:=Zk.obj;rw[hpl]at Qe;refine⟨_,rfl,_,rfl,m.x,C,m.dx,_,_,rfl,Qe,TB.cl,TB.n1,vG,l1,ds,b3.pl,d,rfl,Kt,hdi,hgd.ts.1,fun l G3 S3 nl hl=>?_⟩;refine xO (v:=u2) e2 fun u2 e2=>?_;have hnp:=Hr hgd (p:=b3.pl);have hnl:=zO hgd (b3.pl:Int);refine⟨_,rfl,l,_,rfl,.inl (aR.of hl),rfl,_,rfl,?_⟩;cases hnx:nxt d b3.pl with
    | nil=>
     rw[hnx]at hf hl;have hf:=Option.some.inj hf;obtain⟨rfl,rfl⟩:=Prod.mk.inj hf;refine c6 rfl ?_;exact⟨_,rfl,k lf vH es G3 (Zm.trans (.same S3)) (Qd.trans (.same S3)) (S3 _ _ Qc) (cu Hs (.same (R:=fun _=>False) S3) id) K5 (by omega) B9 (Vj.keeps (.same (R:=fun _=>False) S3) (fun _ z=>z.elim) id (le_refl _)) (by show s3.n+1<=2000;omega)⟩
    | cons p ps=>
     rw[hnx]at hf hl hnp hnl;dsimp only at hf;have hp0:=hnp p mem_cons_self;have hps:∀q∈ps,0<=q:=fun q hq=>hnp q (List.mem_cons_of_mem _ hq);rw[length_cons]at hnl;refine bU (fun z=>by have:=V.int.inj (of_decide_eq_true z);rw[length_map,length_cons]at this;omega) ?_;refine xO (v:=u2) e2 fun u2 e2=>?_;have Zn:=Zk.same S3;have NI:=Vj.keeps (.same (R:=fun _=>False) S3) (fun _ z=>z.elim) id (le_refl _);refine⟨_,rfl,.inl ⟨rfl,_,aR.of NI.lst⟩,_,rfl,1,rfl,l,_,rfl,aR.of hl,fun l2 vz=>?_⟩;rw[map_cons,IL];have S4:=aw (o:=.lst (ps.map V.int)) vz;have h2:upd G3 l2 (.lst (ps.map V.int)) l2=_:=ai;generalize upd G3 l2 (.lst (ps.map V.int))=G4 at S4 h2 ⊢;refine⟨l2,rfl,⟨_,aR.of h2⟩,fun D nD=>cO (K:=K) (xs:=ps.map V.int) (fun i σ ys G'=>∃(v:Option V) (ms:List BA),σ=[v,some (.ref m.x)]/\ys=ms.map (fun m=>V.ref m.x)/\ms.length=i/\Same G4 G'/\G' D=some (.lst ys)/\(∀(j:Nat) m' q,ms[j]? =some m'->ps[j]? =some q->dh C G' m' {dF b3 d with pl:=q.toNat} (2*(s3.n+1)))/\(∀m'∈ms,p9 G4 m'/\¬hU m' D)/\ms.Pairwise Ho) ?_ ?_ ?_ ?_⟩
     ·exact⟨none,[],rfl,rfl,rfl,aw nD,ai,(fun j m' q h=>by simp at h),(fun m' hm=>nomatch hm),List.Pairwise.nil⟩
     ·rintro i σ ys G' _ ⟨v,ms,rfl,rfl,_,S5,_⟩;exact aR.of (S5 _ _ h2)
     ·rintro i x σ ys G' hx ⟨v,ms,rfl,rfl,hml,S5,hD,hbr,hnew,K9⟩;rw[ag]at hx;obtain⟨q0,hq0,rfl⟩:=map_eq_some_iff.mp hx;have hil:=(al.mp hq0).1;have Vk:=hps q0 (am hq0);have Sw:=(Zn.same S4).same S5;refine⟨_,rfl,m.x,m.dx,_,rfl,Sw.obj,PH (by decide+kernel),_,rfl,m,dF b3 d,2*(s3.n+1),q0.toNat,by rw[Int.toNat_of_nonneg Vk];rfl,Sw,fun m1 G6 S6 Vl hB6=>?_⟩;have La:=S6 _ _ hD;have K6:Keeps (fun c=>c=D) G6 (upd G6 D (.lst (ms.map (fun m=>V.ref m.x)++ [V.ref m1.x]))):=Keeps.refl.upd La (fun _ z=>nomatch z) rfl;have Zo:¬hU m1 D:=fun z=>by have:=Vl.own z;rw[hD]at this;cases this
      refine⟨La,bh (by rw[length_map];omega),_,ms++ [m1],rfl,by rw[map_append];rfl,by rw[length_append,hml];rfl,aZ (S5.trans S6) nD,ai,fun j m' q h1 h2=>?_,fun m' hm=>?_,?_⟩
      ·by_cases c:j<ms.length
       ·rw[ax c]at h1;exact((hbr j m' q h1 h2).same S6).keeps K6 fun c hc z=>(hnew m' (am h1)).2 (z▸hc)
       ·have c':j=i:=by have:=(al.mp h1).1;rw[length_append]at this;simp at this;omega
        subst c';rw[bc (by omega),hml,sub_self]at h1;cases h1;rw[hq0]at h2;cases h2;exact hB6.keeps K6 fun c hc z=>Zo (z▸hc)
      ·rcases mem_append.mp hm with z | z
       ·exact hnew m' z
       ·rw[mem_singleton.mp z];exact⟨Vl.of S5,Zo⟩
      ·refine pairwise_append.mpr ⟨K9,List.pairwise_singleton _ _,fun a ha b hb=>?_⟩;rw[mem_singleton.mp hb];intro c hc z;obtain⟨j,hj⟩:=List.getElem?_of_mem ha;have hjl:=(al.mp hj).1;obtain⟨u,hu'⟩:=(hbr j a (ps[j]'(by omega)) hj (ac _)).there hc;rw[Vl.own z]at hu';cases hu'
     rintro σ ys G' ⟨v,ms,rfl,rfl,hml,S5,hD,hbr,hnew,K9⟩;rw[length_map]at hml;have Lb:=S4.trans S5;have Fu:=NI.keeps (.same (R:=fun _=>False) Lb) (fun _ z=>z.elim) id (le_refl _);have Sw:=Zn.same Lb;have hlfx:vH.length<=40000:=by rw[NI.len];omega
     refine⟨lf,D,_,_,rfl,rfl,Fu.lst,hD,le_trans (show _<=1000000 by rw[length_map,length_map];omega) (by decide),?_⟩;rw[<-map_append];have DW:∀m'∈ms,p9 G3 m':=fun m' hm=>(hnew m' hm).1.of S4;have DX:dt H G3:=Qd.trans (.same S3);have Qf:∀m'∈ms,¬hU m' lf:=fun m' hm z=>by have:=(DW m' hm).own z;rw[NI.lst]at this;cases this
     have K6:Keeps (fun c=>c=lf) G' (upd G' lf (.lst ((vH++ms).map fun m=>V.ref m.x))):=Keeps.refl.upd Fu.lst (fun _ z=>nomatch z) rfl;have Vm:l≠lf:=fun z=>by have:=Vj.lst;rw[<-z,nl]at this;cases this
     have Fv:upd G' lf (.lst ((vH++ms).map fun m=>V.ref m.x)) l=_:=(az Vm).trans (Lb _ _ hl);have Cd:=Sw.keeps K6 (fun c hc z=>Jb (.inr (.inr (z▸hc))));have Qg:=K6 _ _ (Lb _ _ (S3 _ _ Qc)) (.inl fun z=>Jb (.inl z.symm));have Zq:=cu Hs ((Keeps.same (S3.trans Lb)).trans K6) (fun z=>Jb (.inr (.inl z.symm)));have Zr:Keeps (WR m wx e) H (upd G' lf (.lst ((vH++ms).map fun m=>V.ref m.x))):=fun c o hc n=>by have h1:=(Zm.trans (.same (S3.trans Lb))) c o hc n;rw[az (fun z=>by rw[z,B9]at hc;cases hc)];exact h1
     have Zt:dt H (upd G' lf (.lst ((vH++ms).map fun m=>V.ref m.x))):=DX.trans ((dt.same Lb).trans dt.upd);have Zu:FK C H (upd G' lf (.lst ((vH++ms).map fun m=>V.ref m.x))) lf (vH++ms) (NH++ps.map fun q=>{dF b3 d with pl:=q.toNat}) (2*(s3.n+1)):=by
      refine⟨ai,by rw[length_append,length_append,length_map,Fu.len,hml],fun i m' b' h1 h2=>?_,fun m' hm=>?_,pairwise_append.mpr ⟨Fu.ap,K9,fun a ha b hb c hc z=>?_⟩⟩
      ·by_cases c:i<vH.length
       ·rw[ax c]at h1;rw[ax (by rw[<-Fu.len];exact c)]at h2;exact(Fu.at_ i m' b' h1 h2).keeps K6 fun c hc z=>(Fu.new m' (am h1)).2 (z▸hc)
       ·rw[bc (by omega)]at h1;rw[bc (by rw[<-Fu.len];omega),<-Fu.len,ag]at h2;obtain⟨q',hq',rfl⟩:=map_eq_some_iff.mp h2;exact(hbr _ m' q' h1 hq').keeps K6 fun c hc z=>Qf m' (am h1) (z▸hc)
      ·rcases mem_append.mp hm with z | z
       ·exact Fu.new m' z
       ·have h1:=DW m' z;exact⟨⟨DX _ h1.1,DX _ h1.2.1,DX _ h1.2.2.1,DX _ h1.2.2.2⟩,Qf m' z⟩
      ·obtain⟨j,hj⟩:=List.getElem?_of_mem ha;have hjl:=(al.mp hj).1;obtain⟨u,hu'⟩:=(NI.at_ j a (NH[j]'(by rw[<-NI.len];exact hjl)) hj (ac _)).there hc;rw[(DW b hb).own z]at hu';cases hu'
     generalize upd G' lf (.lst ((vH++ms).map fun m=>V.ref m.x))=G6 at Fv Cd Qg Zq Zr Zt Zu ⊢;refine cutE (v:=u2) e2 ?_;refine⟨_,rfl,l,_,0,_,rfl,rfl,aR.of Fv,at0 _ _,_,rfl,m.x,C,m.dx,_,rfl,Cd.obj,TB.cl,TB.n1,PK,?_⟩;rw[PJ,show V.int p=V.int ((p.toNat:Nat):Int) by rw[Int.toNat_of_nonneg hp0]];have K7:Keeps (fun c=>c=m.x) G6 (upd G6 m.x (.ins C m.dx (jF m (.int ((p.toNat:Nat):Int))))):=Keeps.refl.upd Cd.obj (fun _ z=>nomatch z) rfl;obtain⟨k1,a1,a2,a3⟩:=id Cd.as;obtain⟨k2,b1,b2,b3'⟩:=id Cd.go;refine⟨{s3 with n:=s3.n+1},{dF b3 d with pl:=p.toNat},_,vH++ms,_,rfl,hf,Zr.upd Cd.obj (fun _ z=>nomatch z) (.inr (.inr (.inl rfl))),Zt.trans dt.upd,(az KZ).trans Qg,cu Zq K7 (fun z=>Zh (.inl z)),K5,⟨ai,(az (Ne.symm Cd.Zb)).trans Cd.hd,Cd.h8,⟨k1,(az (Ne.symm Cd.Zc)).trans a1,a2,a3⟩,⟨k2,(az (Ne.symm Cd.Zd)).trans b1,b2,b3'⟩,Cd.I0⟩,Zu.keeps K7 (fun c hc=>by rw[hc];exact there m.x (.inr (.inr (.inl rfl)))) (fun z=>Jb (.inr (.inr (.inl z)))) (le_refl _),?_,?_⟩
     ·show s3.n+1<=2000;omega
     ·show _<=17*(s3.n+1);rw[length_append,length_map];omega
def b0(st:Nat):Bd:=⟨st,[some 0,some 1,some 2,some 3,some 4,some 5,some 6,some 7],fun _=>none,fun _=>false⟩
def uN(ds:List FR)(ld:List (Option Int)):Nat->WS->List Bd->Option WS
 | 0,_,_=>none
 | f+1,s,ws=>match ws.getLast? with
  | none=>some s
  | some b=>match tV ds ld 2002 s b []with
   | none=>none
   | some r=>uN ds ld f r.1 (ws.dropLast++r.2)
def hZ(ds:List FR)(ld:List (Option Int))(st:Nat)(s:WS):Prop:=∃fu,fu<=50000/\uN ds ld fu ⟨0,false,[]⟩ [b0 st]=some s
theorem zP{ds:List FR}{ld:List (Option Int)}{M:Int}(hG:∀d∈ds,GF M d){s1:WS}{Jc:List Bd}:∀(f:Nat) (s:WS) (b:Bd) (fk:List Bd),tV ds ld f s b fk=some (s1,Jc)->s.n<=s1.n/\Jc.length<=fk.length+17*(s1.n-s.n)
 | 0,_,_,_,h=>by cases h
 | f+1,s,b,fk,h=>by
  unfold tV at h;split at h
  ·have h:=Option.some.inj h;obtain⟨rfl,rfl⟩:=Prod.mk.inj h;exact⟨le_refl _,by omega⟩
  ·split at h
   ·have h:=Option.some.inj h;obtain⟨rfl,rfl⟩:=Prod.mk.inj h;exact⟨le_refl _,by omega⟩
   ·split at h
    ·cases h
    ·split at h
     ·cases h
     ·rename_i d hd;have hg:=zO (hG d (am hd)) (b.pl:Int);split at h
      ·have h:=Option.some.inj h;obtain⟨rfl,rfl⟩:=Prod.mk.inj h;exact⟨by show s.n<=s.n+1;omega,by omega⟩
      ·rename_i p ps hn;rw[hn,length_cons]at hg;obtain⟨h1,h2⟩:=zP hG f _ _ _ h;have h1:s.n+1<=s1.n:=h1;have h2:Jc.length<=(fk++ps.map fun q=>({dF b d with pl:=q.toNat}:Bd)).length+17*(s1.n- (s.n+1)):=h2;rw[length_append,length_map]at h2;exact⟨by omega,by omega⟩
  ·cases h
inductive Qh(WC:Addr)(vs:List V)(H:Hp)(Q:VK)(E_:XK):Prop
 | mk (l1 ll:Addr) (ds:List FR) (ld:List (Option Int)) (M:Int) (st:Nat) (s1:WS) (_:vs=[.ref l1,.ref ll,.int (st:Int)]) (_:cm H l1 ds) (_:(∀d∈ds,GF M d)) (_:H ll=some (.lst (ld.map oV))) (_:hZ ds ld st s1) (_:∀(wx gG e:Addr) (es:List (NK×Addr)) (H1:Hp),Same H H1->H wx=none->H e=none->H1 wx=some (.ins WC gG (dv (s1.n:Int) s1.lo e))->eP P w H1 e es->es.map (·.1)=s1.es->Q (.ref wx) H1)
theorem Ht:aM ["new","leads","start","walk","waiting","branch"] ["new","leads","start"] (ao i5):=by walk_at "sc1"
theorem tW{f:Addr}{fd:el}{fW fB fF:Addr}{my Zv zM:el}{WC C:Addr}(F:cy K "walk_from" "walk_from" i5 f fd)(T:Txt K w.params mg)(TW:WT K WC)(TB:BT K C)(MkW:Mk K WC fW)(GW:aN P w K mg base bu 1 fW my ["self"] (PX (P:=P) (w:=w) WC))(bW:Binds K my ["self"] [])(mW:mg "Walk"=some (.ref WC))(MkB:Mk K C fB)(GB:aN P w K mg base bu 1 fB Zv ["self","place","held","held_aside","gone"] (KR C))(bB:Binds K Zv ["self","place","held","held_aside","gone"] [])(mB:mg "Branch"=some (.ref C))(MF:Meth K WC "follow" fF)(GF:aN P w K mg base bu 4 fF zM ["self","new","leads","branch"] (P5 (P:=P) (w:=w) WC C))(bF:Binds K zM ["self","new","leads","branch"] []):aN P w K mg base bu 5 f fd ["new","leads","start"] (Qh (P:=P) (w:=w) WC):=by
 refine F.ok Ht (by walk_at "ln") (fun J4 A outer s H vs Q E hr h=>?_)
 ·obtain⟨l1,ll,ds,ld,M,st,s1,rfl,hR,hG,kc,hwk,k⟩:=h;have hr2:=hr.mono (show 2<=_ by decide);obtain⟨pb,hpb,Sx⟩:=T.Pa;obtain⟨fu,hfu,hwk⟩:=hwk
  refine ck (ak (aq (aT (i:=3) Ht.nd rfl (Or.inl rfl) (CG MkW GW hr2 (by rfl) mW bW .nil aQ)))
   (ak (aq (aT (i:=4) Ht.nd rfl (Or.inl rfl) (aY (ae (yQ MkB GB hr2 (by rfl) mB bB .nil aQ (ae (pv 2) (ae (bq cD (by rfl) T.list dq (ae (c7 (v:=.ref pb) (by rfl) hpb rfl) ah)) (ae gS (ae gS ah))))) ah))))
   (ak (aq (oO PassesOwn.never (aE rO (aG aK (by rfl) T.len bV (ae (pv 4) ah)) aj (aP _)) (aL (aT (i:=5) Ht.nd rfl (Or.inl rfl) (wU ge PySem.F.slot_list_pop PySem.F.type_list_pop CL (pv 4)))
   (aJ (dy (iX ge PySem.F.slot_list_extend PySem.F.type_list_extend jl (pv 4) (ae (sI (pv 3) TW.cl MF GF hr bF .nil aQ (ae (pv 0) (ae (pv 1) (ae (pv 5) ah)))) ah)))))))
   (au (aq (aC (pv 3))))))) ?_
  intro wx gG KZ Vn nww;refine⟨wx,gG,rfl,ai,fun e G1 ne1 k1 Lc Vo=>⟨rfl,?_⟩⟩;have hcx:∀c o,H c=some o->c≠wx:=fun c o h z=>by rw[z,KZ]at h;cases h
  have hcd:∀c o,H c=some o->c≠gG:=fun c o h z=>by rw[z,Vn]at h;cases h
  have S1:Same H G1:=fun c o h=>k1 c o (hcx c o h) (by rw[az (hcx c o h),az (hcd c o h)];exact h);have Qi:e≠wx:=fun z=>by rw[z,ai]at ne1;cases ne1
  have Zw:H e=none:=by
   cases h:H e with
   | none=>rfl
   | some o=>rw[az Qi,az (hcd e o h),h]at ne1;cases ne1
  refine⟨_,rfl,pb,_,rfl,.inr (Sx _),fun l2 vz=>?_⟩;have S2:=aw (o:=.lst ([0,1,2,3,4,5,6,7].map V.int)) vz;have h2:upd G1 l2 (.lst ([0,1,2,3,4,5,6,7].map V.int)) l2=_:=ai;generalize upd G1 l2 (.lst ([0,1,2,3,4,5,6,7].map V.int))=G2 at S2 h2 ⊢;intro p3 Zx;have S3:=aw (o:=.dK []) Zx;have h3:upd G2 p3 (.dK []) p3=_:=ai;generalize upd G2 p3 (.dK [])=G3 at S3 h3 ⊢;intro p4 Vp;have S4:=aw (o:=.dK []) Vp;have h4:upd G3 p4 (.dK []) p4=_:=ai;have Vq:p3≠p4:=fun z=>by rw[z,Vp]at h3;cases h3
  generalize upd G3 p4 (.dK [])=G4 at S4 h4 ⊢;intro bx DY Zy Vr nbb;refine⟨bx,DY,_,_,_,_,rfl,ai,rfl,?_⟩;rw[jh];have Vs:upd G4 DY (.own bx) bx=none:=by rw[az (Ne.symm nbb)];exact Zy
  have S5:=(aw (o:=.own bx) Vr).trans (aw (o:=.ins C DY (d8.zip [V.int (st:Int),.ref l2,.ref p3,.ref p4])) Vs);have h5:upd (upd G4 DY (.own bx)) bx (.ins C DY (d8.zip [V.int (st:Int),.ref l2,.ref p3,.ref p4])) bx=_:=ai;generalize upd (upd G4 DY (.own bx)) bx (.ins C DY (d8.zip [V.int (st:Int),.ref l2,.ref p3,.ref p4]))=G5 at S5 h5 ⊢;have Vt:=S3.trans (S4.trans S5);have Zz:dh C G5 ⟨bx,DY,l2,p3,p4⟩ (b0 st) 0:=⟨h5,Vt _ _ h2,rfl,⟨[],S5 _ _ (S4 _ _ h3),fun j=>rfl,le_refl _⟩,⟨[],S5 _ _ h4,fun j=>rfl,le_refl _⟩,Vq⟩;have Gr:∀(G G':Hp),Same G G'->∀c,G' c=none->G c=none:=fun G G' s c n=>dt.same s c n;have hBn:p9 G1 ⟨bx,DY,l2,p3,p4⟩:=⟨Gr _ _ (S2.trans (S3.trans S4)) _ Zy,vz,Gr _ _ S2 _ Zx,Gr _ _ (S2.trans S3) _ Vp⟩;refine⟨zle,fun lw Jd=>?_⟩;have S6:=aw (o:=.lst [V.ref bx]) Jd;have h6:upd G5 lw (.lst [V.ref bx]) lw=some (.lst (([⟨bx,DY,l2,p3,p4⟩]:List BA).map fun m=>V.ref m.x)):=ai;generalize upd G5 lw (.lst [V.ref bx])=G6 at S6 h6 ⊢;have Bk:=S2.trans (Vt.trans S6);have DZ:G1 lw=none:=Gr _ _ (S2.trans Vt) _ Jd;have D0:H lw=none:=Gr _ _ S1 _ DZ;have Sq:wx≠e:=Ne.symm Qi;have Ld:lw≠wx:=fun z=>by rw[z,Lc]at DZ;cases DZ
  have Le:lw≠e:=fun z=>by rw[z,Vo.1]at DZ;cases DZ
  have D1:∀m:BA,p9 G1 m->¬hU m wx/\¬hU m e:=fun m hm=>⟨(fun z=>by have:=hm.own z;rw[Lc]at this;cases this),(fun z=>by have:=hm.own z;rw[Vo.1]at this;cases this)⟩;refine⟨fun mm σ G=>∃(s:WS) (ws:List Bd) (ms:List BA) (es:List (NK×Addr)) (v5:Option V),σ=[some (.ref l1),some (.ref ll),some (.int (st:Int)),some (.ref wx),some (.ref lw),v5]/\uN ds ld mm s ws=some s1/\Same H G/\G wx=some (.ins WC gG (dv (s.n:Int) s.lo e))/\eP P w G e es/\es.map (·.1)=s.es/\es.length+mm<=50000/\FK C G1 G lw ms ws (2*s.n)/\s.n<=2000/\ws.length<=1+17*s.n/\dt G1 G,⟨fu,⟨0,false,[]⟩,[b0 st],[⟨bx,DY,l2,p3,p4⟩],[],none,rfl,hwk,S1.trans Bk,Bk _ _ Lc,cu Vo (.same (R:=fun _=>False) Bk) id,rfl,by simpa using hfu,⟨h6,rfl,fun i m b h1 h2=>?_,fun m hm=>?_,List.pairwise_singleton _ _⟩,zero_le _,le_refl _,.same Bk⟩,?_⟩
  ·have hi:i=0:=by have:=(al.mp h1).1;simpa using this
   subst hi;cases h1;cases h2;exact Zz.same S6
  ·rw[mem_singleton.mp hm];refine⟨hBn,fun z=>?_⟩;obtain⟨u,hu⟩:=Zz.there z;rw[Jd]at hu;cases hu
  rintro mm σ G ⟨s,ws,ms,es,v5,rfl,hw,SG,Ca,gE,K5,gEl,gF,gn,gwl,gGr⟩;cases mm with
  | zero=>cases hw
  | succ mm=>
  unfold uN at hw;have hml:=gF.len;refine⟨_,rfl,lw,_,rfl,.inl (aR.of gF.lst),_,_,rfl,rfl,_,rfl,?_⟩;cases i9:ws.getLast? with
  | none=>
   have hws:ws=[]:=List.getLast?_eq_none_iff.mp i9;rw[i9]at hw;have hw:=Option.some.inj hw;subst hw;refine bU (fun z=>?_) ⟨_,rfl,k wx gG e es G SG KZ Zw Ca gE K5⟩;have:=of_decide_eq_true z;rw[length_map,hml,hws]at this;simp at this
  | some b=>
   rw[i9]at hw;dsimp only at hw;have hwl0:0<ws.length:=by
    rcases Nat.eq_zero_or_pos ws.length with z | z
    ·rw[length_eq_zero_iff.mp z]at i9;cases i9
    ·exact z
   have Qj:0<ms.length:=by omega
   refine c6 (decide_eq_true (by rw[length_map];omega)) ?_;have hbi:ws[ws.length-1]? =some b:=by rw[<-List.getLast?_eq_getElem?];exact i9
   have hmi:ms[ms.length-1]? =some (ms[ms.length-1]'(by omega)):=ac _;have hmm:(ms[ms.length-1]'(by omega))∈ms:=bi _;generalize (ms[ms.length-1]'(by omega))=m at hmi hmm;have hBm:dh C G m b (2*s.n):=gF.at_ (ms.length-1) m b hmi (by rw[hml];exact hbi);obtain⟨hnm,hnl⟩:=gF.new m hmm;have hmd:ms.dropLast++ [m]=ms:=by
    have hne:ms≠ []:=fun z=>by rw[z]at Qj;simp at Qj
    have e1:ms.getLast hne=m:=by
     have:ms.getLast? =some m:=by rw[List.getLast?_eq_getElem?];exact hmi
     rw[List.getLast?_eq_some_getLast hne]at this;exact Option.some.inj this
    rw[<-e1];exact List.dropLast_concat_getLast hne
   refine⟨_,fun σ' G' hw'=>⟨mm,Nat.lt_succ_self _,hw'⟩,?_⟩;refine⟨_,rfl,.inl ⟨rfl,_,aR.of gF.lst⟩,lw,_,.ref m.x,rfl,rfl,gF.lst,by rw[length_map,ag,hmi];rfl,?_⟩;rw[<-map_dropLast];have Kd:Keeps (fun c=>c=lw) G (upd G lw (.lst (ms.dropLast.map fun m=>V.ref m.x))):=Keeps.refl.upd gF.lst (fun _ z=>nomatch z) rfl;have Sy:Same H (upd G lw (.lst (ms.dropLast.map fun m=>V.ref m.x))):=fun c o h=>(az (fun z=>by rw[z,D0]at h;cases h)).trans (SG c o h);have Bj:=Kd _ _ Ca (.inl (Ne.symm Ld));have Qb:=cu gE Kd (Ne.symm Le);have D3:upd G lw (.lst (ms.dropLast.map fun m=>V.ref m.x)) lw=_:=ai;have Hu:∀(i:Nat) m' b',ms[i]? =some m'->ws[i]? =some b'->dh C (upd G lw (.lst (ms.dropLast.map fun m=>V.ref m.x))) m' b' (2*s.n):=fun i m' b' h1 h2=>(gF.at_ i m' b' h1 h2).keeps Kd fun c hc z=>(gF.new m' (am h1)).2 (z▸hc);have wt:dt G1 (upd G lw (.lst (ms.dropLast.map fun m=>V.ref m.x))):=gGr.trans dt.upd;generalize upd G lw (.lst (ms.dropLast.map fun m=>V.ref m.x))=Ga at Sy Bj Qb D3 Hu wt ⊢;have D4:∀(i:Nat) m',ms.dropLast[i]? =some m'->ms[i]? =some m'/\i<ms.length-1:=fun i m' h=>by have hi:=(al.mp h).1;rw[length_dropLast]at hi;rw[List.getElem?_dropLast,if_pos hi]at h;exact⟨h,hi⟩
   have Lf:∀(i:Nat) b',ws.dropLast[i]? =some b'->ws[i]? =some b':=fun i b' h=>by have hi:=(al.mp h).1;rw[length_dropLast]at hi;rw[List.getElem?_dropLast,if_pos hi]at h;exact h
   have hap:ms.dropLast.Pairwise Ho/\∀m'∈ms.dropLast,Ho m' m:=by have:=gF.ap;rw[<-hmd]at this;obtain⟨a,_,c⟩:=pairwise_append.mp this;exact⟨a,fun m' hm=>c m' hm m mem_cons_self⟩
   have hmo:∀m'∈ms,¬hU m' wx/\¬hU m' e/\¬hU m' lw:=fun m' hm=>⟨(D1 m' (gF.new m' hm).1).1,(D1 m' (gF.new m' hm).1).2,(gF.new m' hm).2⟩;have Vu:=Hu (ms.length-1) m b hmi (by rw[hml];exact hbi);have nH:∀c,hU m c->H c=none:=fun c hc=>by
    cases h:H c with
    | none=>rfl
    | some o=>have:=hnm.own hc;rw[S1 c o h]at this;cases this
   cases hfl:tV ds ld 2002 s b []with
   | none=>rw[hfl]at hw;cases hw
   | some r=>
   obtain⟨s3,NH⟩:=r;rw[hfl]at hw;dsimp only at hw;have hlen3:=zP hG _ _ _ _ hfl;have hRa:cm Ga l1 ds:=hR.same Sy;have Vv:=Sy _ _ kc;obtain⟨Sg,hq1,_⟩:=id hR;refine⟨_,rfl,.inl ⟨rfl,_,aR.of D3⟩,_,rfl,wx,gG,_,rfl,Bj,PL (by decide+kernel),_,rfl,_,rfl,_,rfl,?_⟩;refine⟨wx,gG,e,l1,ll,m,ds,ld,M,s,s3,b,NH,2002,es,rfl,Bj,Qb,K5,by omega,Vu,hRa,hG,Vv,?_,?_,?_,gn,hfl,fun lf vH es3 Gb Kb Grb Vw gEb Vx gElb B9 Je gnb=>?_⟩
   ·intro z;have:=nH m.hl (.inr (.inl rfl));rw[<-z,hq1]at this;cases this
   ·intro z;have:=nH m.hl (.inr (.inl rfl));rw[<-z,kc]at this;cases this
   ·exact fun z=>(hmo m hmm).1 (.inl z)
   have Vy:¬WR m wx e lw:=fun z=>by
    rcases z with z | z | z
    ·exact Ld z
    ·exact Le z
    ·exact(hmo m hmm).2.2 z
   have Qk:=Kb _ _ D3 (.inl Vy);have nlflw:lf≠lw:=fun z=>by rw[z,D3]at B9;cases B9
   refine⟨lw,lf,_,_,rfl,rfl,Qk,Je.lst,le_trans (show _<=1000000 by rw[length_map,length_map,length_dropLast,Je.len];simp at hlen3;omega) (by decide),?_⟩;rw[<-map_append]
   have SGb:Same H Gb:=fun c o h=>Kb c o (Sy c o h) (.inl fun z=>by
    rcases z with z | z | z
    ·rw[z,KZ]at h;cases h
    ·rw[z,Zw]at h;cases h
    ·rw[nH c z]at h;cases h)
   have Kc:Keeps (fun c=>c=lw) Gb (upd Gb lw (.lst ((ms.dropLast++vH).map fun m=>V.ref m.x))):=Keeps.refl.upd Qk (fun _ z=>nomatch z) rfl;have nRo:∀m'∈ms.dropLast,∀c,hU m' c->¬WR m wx e c:=fun m' hm c hc z=>by
    have hm':=(dropLast_subset _) hm;rcases z with rfl | rfl | z
    ·exact(hmo m' hm').1 hc
    ·exact(hmo m' hm').2.1 hc
    ·exact hap.2 m' hm c hc z
   have Ql:∀m'∈vH,¬hU m' lw:=fun m' hm z=>by have:=(Je.new m' hm).1.own z;rw[D3]at this;cases this
   refine⟨s3,ws.dropLast++NH,ms.dropLast++vH,es3,_,rfl,hw,fun c o h=>(az (fun z=>by rw[z,D0]at h;cases h)).trans (SGb c o h),Kc _ _ Vw (.inl (Ne.symm Ld)),cu gEb Kc (Ne.symm Le),Vx,by omega,⟨ai,by rw[length_append,length_append,length_dropLast,length_dropLast,Je.len,hml],fun i m' b' h1 h2=>?_,fun m' hm=>?_,pairwise_append.mpr ⟨hap.1,Je.ap,fun a ha c hc x hx z=>?_⟩⟩,gnb,?_,wt.trans (Grb.trans dt.upd)⟩
   ·by_cases c:i<ms.dropLast.length
    ·rw[ax c]at h1;rw[ax (by rw[length_dropLast,<-hml,<-length_dropLast];exact c)]at h2;have hm':=am h1;exact(((Hu i m' b' (D4 i m' h1).1 (Lf i b' h2)).keeps Kb (nRo m' hm')).keeps Kc fun c hc z=>(hmo m' (dropLast_subset _ hm')).2.2 (z▸hc)).mono (by omega)
    ·rw[bc (by omega)]at h1;rw[bc (by rw[length_dropLast,<-hml,<-length_dropLast];omega)]at h2;have e1:ws.dropLast.length=ms.dropLast.length:=by rw[length_dropLast,length_dropLast,hml]
     rw[e1]at h2;exact(Je.at_ _ m' b' h1 h2).keeps Kc fun c hc z=>Ql m' (am h1) (z▸hc)
   ·rcases mem_append.mp hm with z | z
    ·exact gF.new m' (dropLast_subset _ z)
    ·have h1:=(Je.new m' z).1;exact⟨⟨wt _ h1.1,wt _ h1.2.1,wt _ h1.2.2.1,wt _ h1.2.2.2⟩,Ql m' z⟩
   ·obtain⟨j,hj⟩:=List.getElem?_of_mem ha;obtain⟨hj1,hj2⟩:=D4 j a hj;obtain⟨u,hu⟩:=(Hu j a (ws[j]'(by omega)) hj1 (ac _)).there hx;rw[(Je.new c hc).1.own z]at hu;cases hu
   ·rw[length_append,length_dropLast];simp at hlen3;omega
def xT(c5:List FR)(pl:Nat->Nat)(r:Nat)(d:FR):List (Int×Int):=(if d.u∈cv then []else [((pl r:Int)+1,(r:Int)+1)])++(((c5[pl r]?).map FR.ts).getD []).zip d.ts
def eU(aI c5:List FR)(pl:Nat->Nat):Nat->List (Int×Int)
 | 0=>[(0,0)]
 | r+1=>eU aI c5 pl r++(match aI[r]? with
  | some d=>xT c5 pl r d
  | none=>[])
def fQ(H:Hp)(ts:List Addr)(wl:List (Int×Int)):Prop:=ts.length=wl.length/\∀(i:Nat) t x,ts[i]? =some t->wl[i]? =some x->H t=some (.tup [.int x.1,.int x.2])
theorem fQ.tups{H H1:Hp}{ts:List Addr}{wl:List (Int×Int)}(h:fQ H ts wl)(s:dX H H1):fQ H1 ts wl:=⟨h.1,fun i t x a b=>s _ _ (h.2 i t x a b)⟩
theorem fQ.app{H:Hp}{ts us:List Addr}{wl vl:List (Int×Int)}(h:fQ H ts wl)(g:fQ H us vl):fQ H (ts++us) (wl++vl):=by
 refine⟨by rw[length_append,length_append,h.1,g.1],fun i t x a b=>?_⟩;by_cases c:i<ts.length
 ·rw[ax c]at a;rw[ax (by rw[<-h.1];exact c)]at b;exact h.2 i t x a b
 ·rw[bc (by omega)]at a;rw[bc (by rw[<-h.1];omega),<-h.1]at b;exact g.2 _ t x a b
theorem lS{aI c5:List FR}{pl:Nat->Nat}{n:Int}(hG:∀d∈aI,GF n d):∀r,(eU aI c5 pl r).length<=1+17*r
 | 0=>by show 1<=1;omega
 | r+1=>by
  have ih:=lS (c5:=c5) (pl:=pl) hG r;show(eU aI c5 pl r++_).length<=_;rw[length_append];cases h:aI[r]? with
  | none=>show _+0<=_;omega
  | some d=>
   have:=(hG d (am h)).ts.1;show _+(xT c5 pl r d).length<=_;unfold xT;rw[length_append,length_zip];split<;>simp<;>omega
inductive Qm(vs:List V)(H:Hp)(Q:VK)(E_:XK):Prop
 | mk (l0 l1 ll:Addr) (aI c5:List FR) (ld:List (Option Int)) (n m:Int) (pl:Nat->Nat) (_:vs=[.ref l0,.ref l1,.ref ll]) (_:cm H l0 aI) (_:cm H l1 c5) (_:(∀d∈aI,GF n d)) (_:(∀d∈c5,GF m d)) (_:H ll=some (.lst (ld.map oV))) (_:ld.length<=5000) (_:aI.length<=1000) (_:(∀(r:Nat) d,aI[r]? =some d->StandsAt ld r (pl r)/\∃d',c5[pl r]? =some d'/\d'.ts.length=d.ts.length)) (_:∀(l:Addr) (ts:List Addr) (H1:Hp),Same H H1->H1 l=some (.lst (ts.map V.ref))->fQ H1 ts (eU aI c5 pl aI.length)->Q (.ref l) H1)
theorem D5:aM ["old","new","leads","places","ways","r","row","n"] ["old","new","leads"] (ao fz):=by walk_at "sc1"
theorem nF{f fP fG fT:Addr}{fd sr IH pU:el}(F:cy K "ways_to_walk" "ways_to_walk" fz f fd)(T:Txt K w.params mg)(GP:aN P w K mg base bu 1 fP sr ["leads"] Ky)(kP:KI K fP)(bP:Binds K sr ["leads"] [])(mP:mg "places_of"=some (.ref fP))(GG:aN P w K mg base bu 1 fG IH ["row"] tJ)(kG:KI K fG)(bG:Binds K IH ["row"] [])(mG:mg "goes_on"=some (.ref fG))(GT:aN P w K mg base bu 1 fT pU ["row"] eA)(kT:KI K fT)(bT:Binds K pU ["row"] [])(mT:mg "targets_of"=some (.ref fT)):aN P w K mg base bu 2 f fd ["old","new","leads"] Qm:=by
 refine F.ok D5 (by walk_at "ln") (fun J4 A outer s H vs Q E hr h=>?_)
 ·obtain⟨l0,l1,ll,aI,c5,ld,n,m,pl,rfl,Fq,uL,Fs,KL,kc,hll,hl0,hpl,k⟩:=h;have hu:=iM hr;have hr1:=hr.mono (show 1<=_ by decide);obtain⟨Y5,g0,U4,U5⟩:=id Fq
  refine ck (ak (aq (aT (i:=3) D5.nd rfl (Or.inl rfl) (aA GP hr1 (by rfl) mP kP bP .nil aQ (ae (pv 2) ah))))
   (ak (aq (aT (i:=4) D5.nd rfl (Or.inl rfl) (aY (ae (aV (ae aj (ae aj ah))) ah))))
   (ak (aq (dA PassesOwn.never rfl (oE rfl T.enum (ae (pv 0) ah)) (iC (K:=K) (i:=5) (j:=6) rfl rfl D5.nd rfl (Or.inl rfl) rfl (Or.inl rfl)) (aL (aT (i:=7) D5.nd rfl (Or.inl rfl) (c9 hu (pv 3) (pv 5) (fun _ _=>rfl)))
   (zj (cS (cq (aA GG hr1 (by rfl) mG kG bG .nil aQ (ae (pv 6) ah))) (aJ (dy (iX ge gf gl eY (pv 4) (ae (aV (ae (aS cL (pv 7) aj) (ae (aS cL (pv 5) aj) ah))) ah)))) aF)
   (aJ (dy (iX ge PySem.F.slot_list_extend PySem.F.type_list_extend jl (pv 4) (ae (Gz rfl (by rfl) T.list dq (by rfl) T.zip (ae (aA GT hr1 (by rfl) mT kT bT .nil aQ (ae (aH aO (pv 1) (pv 7) (fun _ _=>rfl)) ah)) (ae (aA GT hr1 (by rfl) mT kT bT .nil aQ (ae (pv 6) ah)) ah))) ah))))))))
   (au (aq (aC (pv 4))))))) ?_
  refine⟨_,rfl,ll,ld,rfl,kc,hll,fun pd kvs G1 s1 hpd hv=>?_⟩;refine⟨zle,fun t0 ZA=>?_⟩;have s2:=s1.trans (aw (o:=.tup [V.int 0,V.int 0]) ZA);have ht0:upd G1 t0 (.tup [V.int 0,V.int 0]) t0=_:=ai;have Lg:=aw (o:=.tup [V.int 0,V.int 0]) ZA _ _ hpd;generalize upd G1 t0 (.tup [V.int 0,V.int 0])=G2 at s2 ht0 Lg ⊢;refine⟨zle,fun lw Jd=>?_⟩;have s3:=aw (o:=.lst [V.ref t0]) Jd;have Li:upd G2 lw (.lst [V.ref t0]) lw=some (.lst (([t0]:List Addr).map V.ref)):=ai;have Qn:=s3 _ _ ht0;have vI:=s3 _ _ Lg;have Jf:pd≠lw:=fun z=>by rw[<-z,Lg]at Jd;cases Jd
  have D0:H lw=none:=dt.same s2 _ Jd;have Vz:=s2.trans s3;generalize upd G2 lw (.lst [V.ref t0])=G3 at Vz Li Qn vI ⊢;refine⟨_,rfl,l0,rfl,⟨_,aR.of (Vz _ _ g0)⟩,ke (K:=K) (xs:=Y5.map V.ref) (fun i σ G=>∃(v1 v2 v3:Option V) (ts:List Addr),σ=[some (.ref l0),some (.ref l1),some (.ref ll),some (.ref pd),some (.ref lw),v1,v2,v3]/\Same H G/\G pd=some (.dK kvs)/\G lw=some (.lst (ts.map V.ref))/\fQ G ts (eU aI c5 pl i)) ?_ ?_ ?_ ?_⟩
  ·refine⟨none,none,none,[t0],rfl,Vz,vI,Li,rfl,fun i t x h1 h2=>?_⟩;have hi:i=0:=by have:=(al.mp h1).1;simpa using this
   subst hi;cases h1;cases h2;exact Qn
  ·rintro i σ G _ ⟨v1,v2,v3,ts,rfl,s4,_⟩;exact aR.of (s4 _ _ g0)
  ·rintro i x σ G tt hx Fo ⟨v1,v2,v3,ts,rfl,s4,Jg,Lj,Bl⟩;rw[ag]at hx;obtain⟨q,hq,rfl⟩:=map_eq_some_iff.mp hx;have hil:i<aI.length:=by have:=(al.mp hq).1;omega
   have hdi:aI[i]? =some aI[i]:=ac hil;have hgi:=Fs _ (bi hil);generalize aI[i]=d at hdi hgi;obtain⟨hst,d',hd',hlen⟩:=hpl i d hdi;have hg':=KL _ (am hd');have t5:=aw (o:=.tup [V.int i,.ref q]) Fo;have s5:=s4.trans t5;have htt:upd G tt (.tup [V.int i,.ref q]) tt=_:=ai;have B7:=t5 _ _ Jg;have Hv:=t5 _ _ Lj;have Jh:=Bl.tups (.of t5);generalize upd G tt (.tup [V.int i,.ref q])=G5 at s5 htt B7 Hv Jh ⊢;refine⟨tt,_,rfl,bp.of htt,rfl,_,_,rfl,_,_,rfl,rfl,?_⟩;refine⟨_,rfl,_,rfl,pd,_,rfl,by rw[<-hv i (pl i) hst];exact dP.k (k:=Sum.inl (i:Int)) B7,?_⟩;have hF:=(U5 i q d hq hdi).same s5;obtain⟨items,Sz,_⟩:=hF.parts;have hwI:eU aI c5 pl (i+1)=eU aI c5 pl i++xT c5 pl i d:=by show eU aI c5 pl i++_=_;rw[hdi]
   have hwl:=lS (c5:=c5) (pl:=pl) Fs i;have UY:ts.length<=1+17*i:=by rw[Jh.1];exact hwl
   refine⟨fun σ' G6=>∃Qo:List Addr,σ'=[some (.ref l0),some (.ref l1),some (.ref ll),some (.ref pd),some (.ref lw),some (.int (i:Int)),some (.ref q),some (.int (pl i:Int))]/\Same H G6/\G6 pd=some (.dK kvs)/\G6 lw=some (.lst (Qo.map V.ref))/\Qo.length<=2+17*i/\fQ G6 Qo (eU aI c5 pl i++(if d.u∈cv then []else [((pl i:Int)+1,(i:Int)+1)])),?_,?_⟩;rotate_left
   ·rintro σ' G6 ⟨Qo,rfl,s6,SA,xU,Fv,SE⟩;obtain⟨xs1,q1,a1,a2,a3⟩:=(uL.same s6).row hd';refine⟨_,rfl,.inl ⟨rfl,_,aR.of xU⟩,_,rfl,_,rfl,l1,_,_,.ref q1,rfl,rfl,aR.of a1,a2,q1,d'.u,d'.ts,rfl,a3.at_,fun lt1 G7 s7 Zi ht1=>?_⟩;refine⟨_,rfl,q,d.u,d.ts,rfl,((U5 i q d hq hdi).same (s6.trans s7)).at_,fun lt2 G8 s8 Vh zi=>?_⟩;refine⟨lt1,lt2,_,_,rfl,aR.of (s8 _ _ ht1),aR.of zi,by rw[length_map,length_map];exact hlen,fun lz tz G9 s9 nz hlz htz hpz=>?_⟩;have Qp:=s7.trans (s8.trans s9);have htl:=hgi.ts.1;rw[length_map]at htz;refine⟨lw,lz,_,_,rfl,rfl,Qp _ _ xU,hlz,le_trans (show _<=1000000 by rw[length_map,length_map];omega) (by decide),?_⟩;rw[<-map_append];have hz:fQ G9 tz ((((c5[pl i]?).map FR.ts).getD []).zip d.ts):=by rw[hd'];refine⟨by show tz.length=(d'.ts.zip d.ts).length;rw[length_zip];omega,fun j t x h1 h2=>?_⟩;have h2:(d'.ts.zip d.ts)[j]? =some x:=h2;obtain⟨hx1,hx2⟩:=List.getElem?_zip_eq_some.mp h2;exact hpz j t (.int x.1) (.int x.2) h1 (by rw[ag,hx1];rfl) (by rw[ag,hx2];rfl)
    refine⟨_,_,_,Qo++tz,rfl,aZ (s6.trans Qp) D0,(az Jf).trans (Qp _ _ SA),ai,?_⟩;rw[hwI];unfold xT;rw[<-append_assoc];exact((SE.tups (.of Qp)).app hz).tups fun b xs hb=>(az (fun z=>by rw[z,Qp _ _ xU]at hb;cases hb)).trans hb
   refine⟨_,rfl,q,d.u,items,rfl,Sz,_,rfl,?_⟩;by_cases c:d.u∈cv
   ·rw[decide_eq_true c];refine bU (by decide) ⟨ts,rfl,s5,B7,Hv,by omega,?_⟩;rw[if_pos c,append_nil];exact Jh
   ·rw[decide_eq_false c];refine c6 (by decide) ?_;refine⟨_,rfl,.inl ⟨rfl,_,aR.of Hv⟩,_,rfl,_,_,rfl,rfl,_,rfl,_,_,rfl,rfl,zle,fun tn ntn=>?_⟩;have t6:=aw (o:=.tup [V.int ((pl i:Int)+1),V.int ((i:Int)+1)]) ntn;have htn:upd G5 tn (.tup [V.int ((pl i:Int)+1),V.int ((i:Int)+1)]) tn=_:=ai;have s6:=s5.trans t6;have SA:=t6 _ _ B7;have xU:=t6 _ _ Hv;have SE:=Jh.tups (.of t6);generalize upd G5 tn (.tup [V.int ((pl i:Int)+1),V.int ((i:Int)+1)])=G6 at htn s6 SA xU SE ⊢;refine⟨lw,_,_,rfl,rfl,xU,bh (by rw[length_map];omega),?_⟩;have hn:dX G6 (upd G6 lw (.lst (ts.map V.ref++ [V.ref tn]))):=fun b xs hb=>(az (fun z=>by rw[z,xU]at hb;cases hb)).trans hb;refine⟨ts++ [tn],rfl,aZ s6 D0,(az Jf).trans SA,by rw[ai,map_append];rfl,by rw[length_append];simp;omega,?_⟩;rw[if_neg c];refine(SE.tups hn).app ⟨rfl,fun j t x h1 h2=>?_⟩;have hj:j=0:=by have:=(al.mp h1).1;simpa using this
    subst hj;cases h1;cases h2;exact hn _ _ htn
  ·rintro σ G ⟨v1,v2,v3,ts,rfl,s4,Jg,Lj,Bl⟩;rw[length_map,U4]at Bl;exact⟨_,rfl,k lw ts G s4 Lj Bl⟩
def dR:List Int:=[0,1,2,3,4,5,6,7]
def vJ(cl:List (List Int))(r:Int)(k:NK):Bool:=decide (k.1=r)&&dR.all fun b=>decide (hAt k.2 b=some b)||decide (b∈(cl[r.toNat]?).getD [])
def ja(s:WS)(cl:List (List Int))(r:Int):Bool:=!s.lo&&s.es.all (vJ cl r)
theorem dr.get{H:Hp}{lc:Addr}{cl:List (List Int)}(h:dr H lc cl){j:Nat}{ms:List Int}(hm:cl[j]? =some ms):∃cs q,H lc=some (.lst cs)/\lh cs (j:Int)=some (.ref q)/\H q=some (.tup (ms.map V.int)):=by
 obtain⟨cs,a,b,c⟩:=h;have hj:j<cs.length:=by have:=(al.mp hm).1;omega
 have hc:cs[j]? =some cs[j]:=ac hj;obtain⟨q,e,h1,_⟩:=c j _ ms hc hm;exact⟨cs,q,a,cj (by rw[hc,e]),h1⟩
inductive Qq(WC:Addr)(vs:List V)(H:Hp)(Q:VK)(E_:XK):Prop
 | mk (wx gG e lc:Addr) (s:WS) (es:List (NK×Addr)) (cl:List (List Int)) (r:Nat) (_:vs=[.ref wx,.int (r:Int),.ref lc]) (_:H wx=some (.ins WC gG (dv (s.n:Int) s.lo e))) (_:eP P w H e es) (_:es.map (·.1)=s.es) (_:(∀k∈s.es,k.2.length=8)) (_:dr H lc cl) (_:r<cl.length) (_:(∀H1,ja s cl r=true->Same H H1->Q (.bl true) H1)) (_:∀H1,ja s cl r=false->Keeps (fun c=>c=e) H H1->Q (.bl false) H1)
theorem Qr:aM ["walk","right","claims","r","held"] ["walk","right","claims"] (ao d6):=by walk_at "sc1"
def Lk:Scope:={kind:=.function,names:=[(".0",.local),("box",.local),("claims",.free),("held",.free),("r",.free)],isGenerator:=false,isCoroutine:=false,more:=[]}
theorem D6:cC (ao d6) Lk ["walk","right","claims","r","held"] ["box","held","claims","r"] [none,some 4,some 2,some 3]:=by walk_at "sc2"
theorem rg{f:Addr}{fd:el}{WC:Addr}(F:cy K "leads_well" "leads_well" d6 f fd)(T:Txt K w.params mg)(TW:WT K WC):aN P w K mg base bu 1 f fd ["walk","right","claims"] (Qq (P:=P) (w:=w) WC):=by
 refine F.ok Qr (by walk_at "ln") (fun J4 A outer s H vs Q E hr h=>?_)
 ·obtain⟨wx,gG,e,lc,s0,es,cl,r,rfl,wu,hE,hes,h8,hC,hrl,k1,k2⟩:=h;obtain⟨pb,hpb,Sx⟩:=T.Pa
  refine ck (ak (bj (cq (cB (pv 0) rfl)) (au (aq (aC dI))) (aU aF))
   (ak (aq (Dm (dA PassesOwn.never rfl (Dn (cB (pv 0) rfl)) (iC (K:=K) (i:=3) (j:=4) rfl rfl Qr.nd rfl (Or.inr rfl) rfl (Or.inr rfl)) (aJ (cS (iK (aE rN (pv 3) (pv 1) (aP _)) (eZ (dm (cq (aG (ez rfl) (by rfl) T.all jN (ae (cW (X:=(gi bu P w K mg base ["walk","right","claims","r","held"] "leads_well" (ao d6) f J4 A outer s H E).wo) (N':=["box","held","claims","r"]) (fr:=[none,some 4,some 2,some 3]) D6 rfl (k8 (c7 (v:=.ref pb) (by rfl) hpb rfl)) (fun C s0 H0 fp=>(bg (i:=0) D6.nd rfl (Or.inl rfl))) (fun C s0 H0 fp=>df) (fun C s0 H0 fp=>(Cp (cT dJ (aH (r:=JU K) aX (pv 1) (pv 0) (fun _ _=>rfl)) (pv 0) (aP _)) (iS (cT (r:=Ox K false) bQ (pv 0) (aH (r:=JT K) aO (pv 2) (pv 3) (fun _ _=>rfl)) rfl))))) ah)))))).pt (aJ (aC dI)) aF)))))
   (au (aq (aC dI))))) ?_
  refine⟨_,rfl,wx,WC,gG,_,_,rfl,wu,TW.cl,TW.n2,U6,_,rfl,?_⟩;cases hlo:s0.lo with
  | true=>
   refine c6 rfl (k2 H ?_ .refl);unfold ja;rw[hlo];rfl
  | false=>
  refine bU (by decide) ?_;refine⟨_,rfl,wx,WC,gG,_,_,rfl,wu,TW.cl,TW.n3,Y8,e,es,rfl,hE.1,fun ob nf=>?_⟩;have hfz:upd H e (.jg ob (dN P w e es)) e=_:=ai;have nee:∀c o,H c=some o->(∀xs,o≠dN P w e xs)->c≠e:=fun c o h n z=>by rw[z,hE.1]at h;exact n es (Option.some.inj h).symm
  have hT:dX H (upd H e (.jg ob (dN P w e es))):=fun b xs hb=>(az (fun z=>by rw[z,hE.1]at hb;cases hb)).trans hb;have VA:Keeps (fun c=>c=e) H (upd H e (.jg ob (dN P w e es))):=Keeps.refl.upd hE.1 (fun _ z=>nomatch z) rfl;have hCf:dr (upd H e (.jg ob (dN P w e es))) lc cl:=by obtain⟨cs,a,b,c⟩:=hC;refine⟨cs,VA _ _ a (.inl fun z=>by rw[z,hE.1]at a;cases a),b,fun i cc ms h1 h2=>?_⟩;obtain⟨q,e1,h3,h4⟩:=c i cc ms h1 h2;exact⟨q,e1,hT _ _ h3,h4⟩
  refine A1 (P:=P) (w:=w) (a:=e) (o:=ob) (xs:=es) (fun i σ G=>∃(v1 v2:Option V),σ=[some (.ref wx),some (.int (r:Int)),some (.ref lc),v1,v2]/\Same (upd H e (.jg ob (dN P w e es))) G/\∀k∈s0.es.take i,vJ cl r k=true) ?_ ?_ ?_ ?_
  ·exact⟨none,none,rfl,.refl _,fun k hk=>by simp at hk⟩
  ·rintro i σ G _ ⟨v1,v2,rfl,s1,_⟩;exact s1 _ _ hfz
  ·rintro i y σ G hy ⟨v1,v2,rfl,s1,hall⟩;have hky:s0.es[i]? =some y.1:=by rw[<-hes,ag,hy];rfl
   have hkm:=am hky;have hk8:=h8 _ hkm;obtain⟨b,n1,n2⟩:=hE.2 y (am hy);have n1':=s1 _ _ (hT _ _ n1);have n2':=s1 _ _ (hT _ _ n2);have hkey:s0.es.take (i+1)=s0.es.take i++ [y.1]:=by rw[take_add_one,hky];rfl
   have bad:vJ cl r y.1=false->ja s0 cl r=false:=fun z=>by unfold ja;rw[Bool.and_eq_false_iff];refine .inr ?_;rw[List.all_eq_false];exact⟨_,hkm,by rw[z];decide⟩
   refine⟨y.2,_,rfl,bp.of n1',rfl,_,_,rfl,_,_,rfl,rfl,?_⟩;refine⟨_,rfl,_,rfl,rfl,_,rfl,?_⟩;by_cases cr:y.1.1=(r:Int);rotate_left
   ·refine c6 (by rw[decide_eq_false (fun z=>cr (V.int.inj z))];rfl) (k2 G (bad ?_) (VA.trans (.same s1)));unfold vJ;rw[decide_eq_false cr];rfl
   refine bU (by rw[cr];simp) ?_;obtain⟨cs,qc,a1,a2,a3⟩:=(hCf.same s1).get (ac hrl);have VB:∀(j:Nat) (x:Int),dR[j]? =some x->0<=x/\x<=7:=fun j x h=>by have:=am h;unfold dR at this;simp at this;omega
   refine⟨pb,rfl,⟨_,Sx _⟩,fun D nD=>gW (K:=K) (xs:=dR.map V.int) (fun i σ ys G'=>∃(v:Option V),σ=[v,some (.ref b),some (.ref lc),some (.int y.1.1)]/\ys=((dR.take i).map fun x=>decide (hAt y.1.2 x=some x)||decide (x∈cl[r])).map V.bl/\Same G G'/\G' D=some (.lst ys)) ?_ ?_ ?_ ?_⟩
   ·exact⟨none,rfl,rfl,aw nD,ai⟩
   ·rintro i σ ys G' _ ⟨v,rfl,rfl,s2,_⟩;exact Sx _
   ·rintro j x' σ ys G' hx' ⟨v,rfl,rfl,s2,hD⟩;rw[ag]at hx';obtain⟨x,hx,rfl⟩:=map_eq_some_iff.mp hx';have hxb:=VB j x hx;have hjl:=(al.mp hx).1;have fin:∀bb:Bool,bb=(decide (hAt y.1.2 x=some x)||decide (x∈cl[r]))->_/\_/\_:=fun bb hbb=>(⟨hD,bh (by rw[length_map,length_map,length_take];have:dR.length=8:=rfl;omega),some (V.int x),rfl,by rw[take_add_one,hx,toList_some,map_append,map_append,hbb];rfl,aZ s2 nD,ai⟩:G' D=some (.lst (((dR.take j).map fun x=>decide (hAt y.1.2 x=some x)||decide (x∈cl[r])).map V.bl))/\(((dR.take j).map fun x=>decide (hAt y.1.2 x=some x)||decide (x∈cl[r])).map V.bl).length<em/\∃v,[some (V.int x),some (.ref b),some (.ref lc),some (.int y.1.1)]=[v,some (.ref b),some (.ref lc),some (.int y.1.1)]/\(((dR.take j).map fun x=>decide (hAt y.1.2 x=some x)||decide (x∈cl[r])).map V.bl)++ [V.bl bb]=((dR.take (j+1)).map fun x=>decide (hAt y.1.2 x=some x)||decide (x∈cl[r])).map V.bl/\Same G (upd G' D (.lst ((((dR.take j).map fun x=>decide (hAt y.1.2 x=some x)||decide (x∈cl[r])).map V.bl)++ [V.bl bb])))/\upd G' D (.lst ((((dR.take j).map fun x=>decide (hAt y.1.2 x=some x)||decide (x∈cl[r])).map V.bl)++ [V.bl bb])) D=_);refine⟨_,rfl,_,rfl,b,_,_,_,rfl,rfl,bp.of (s2 _ _ n2'),tT hk8 hxb,_,rfl,?_⟩;have hsc:JN (oV (hAt y.1.2 x)) (.int x)=true:=by cases hAt y.1.2 x<;>rfl
    have hde:decide (oV (hAt y.1.2 x)=V.int x)=decide (hAt y.1.2 x=some x):=by
     cases hh:hAt y.1.2 x with
     | none=>simp[oV]
     | some z=>simp[oV]
    refine⟨hsc,_,rfl,?_⟩;rw[hde];by_cases c1:hAt y.1.2 x=some x
    ·rw[decide_eq_true c1];exact c6 rfl (fin true (by rw[decide_eq_true c1];rfl))
    ·rw[decide_eq_false c1];refine bU (by decide) ?_;refine⟨_,rfl,_,rfl,_,rfl,lc,_,_,.ref qc,rfl,rfl,aR.of (s2 _ _ a1),by rw[cr];exact a2,qc,_,rfl,.inr (bp.of (s2 _ _ a3)),rfl,ju _,?_⟩;show _/\_;have hin:inV (.int x) (cl[r].map V.int)=(decide (hAt y.1.2 x=some x)||decide (x∈cl[r])):=by rw[kl,decide_eq_false c1];rfl
     exact fin _ hin
   ·rintro σ ys G' ⟨v,rfl,rfl,s2,hD⟩;refine⟨D,_,rfl,aR.of hD,_,rfl,?_⟩;have hal:((dR.take (dR.map V.int).length).map fun x=>decide (hAt y.1.2 x=some x)||decide (x∈cl[r])).all id=vJ cl r y.1:=by unfold vJ;rw[decide_eq_true cr,lv,ac hrl,length_map,take_of_length_le (le_refl _),all_map,Bool.true_and];rfl
    rw[hal];cases hen:vJ cl r y.1 with
    | false=>exact c6 rfl (k2 G' (bad hen) (VA.trans (.same (s1.trans s2))))
    | true=>
     refine bU (by decide) ⟨_,_,rfl,s1.trans s2,fun k hk=>?_⟩;rw[hkey]at hk;rcases mem_append.mp hk with z | z
     ·exact hall k z
     ·rw[mem_singleton.mp z];exact hen
  ·rintro σ G ⟨v1,v2,rfl,s1,hall⟩;have hle:es.length=s0.es.length:=by rw[<-hes,length_map]
   rw[take_of_length_le (by omega)]at hall;have hG:=s1 _ _ hfz;refine⟨e,ob,_,hG,nf,k1 _ ?_ fun c o h=>?_⟩
   ·unfold ja;rw[hlo];show s0.es.all _=true;rw[all_eq_true];exact hall
   ·by_cases hc:c=e
    ·rw[hc,ai,<-h,hc];exact hE.1.symm
    ·rw[az hc];exact s1 _ _ ((az hc).trans h)
def ef(ld:List (Option Int))(r:Nat):Nat:=(ld.findIdx? fun l=>decide (l=some (r:Int))).getD 0
theorem one_place:∀(ld:List (Option Int)),(ld.filterMap id).Nodup->∀(r:Int) (i j:Nat),ld[i]? =some (some r)->ld[j]? =some (some r)->i=j
 | [],_,r,i,j,h,_=>by simp at h
 | l::ld,hn,r,i,j,h1,h2=>by
  have mem:∀i:Nat,ld[i]? =some (some r)->r∈ld.filterMap id:=fun i h=>mem_filterMap.mpr ⟨some r,am h,rfl⟩;have hn2:(ld.filterMap id).Nodup:=by
   cases l with
   | none=>exact hn
   | some x=>exact(nodup_cons.mp hn).2
  cases i with
  | zero=>
   cases j with
   | zero=>rfl
   | succ j=>
    have e:=Option.some.inj h1;subst e;exact absurd (mem j (by simpa using h2)) (nodup_cons.mp hn).1
  | succ i=>
   cases j with
   | zero=>
    have e:=Option.some.inj h2;subst e;exact absurd (mem i (by simpa using h1)) (nodup_cons.mp hn).1
   | succ j=>rw[one_place ld hn2 r i j (by simpa using h1) (by simpa using h2)]
theorem ia{ld:List (Option Int)}{n0 n1 r:Nat}(h:p5 ld n0 n1)(hr:r<n0):StandsAt ld r (ef ld r):=by
 have h1:(r:Int)∈iO n0:=mem_map.mpr ⟨r,mem_range.mpr hr,rfl⟩;have h2:=h.2.mem_iff.mpr h1;obtain⟨l,hl,e⟩:=mem_filterMap.mp h2;have e:l=some (r:Int):=e;subst e
 have hnd:(ld.filterMap id).Nodup:=h.2.nodup_iff.mpr (by
  unfold iO
  exact List.Pairwise.map _ (fun a b h z=>h (Int.ofNat.inj z)) List.nodup_range)
 have hex:∃i,ld.findIdx? (fun l=>decide (l=some (r:Int)))=some i:=by
  cases hf:ld.findIdx? (fun l=>decide (l=some (r:Int)))with
  | some i=>exact⟨i,rfl⟩
  | none=>
   have:=List.findIdx?_eq_none_iff.mp hf _ hl;simp at this
 obtain⟨i,hi⟩:=hex;obtain⟨hil,hit,_⟩:=List.findIdx?_eq_some_iff_getElem.mp hi;have kc:ld[i]? =some (some (r:Int)):=by rw[ac hil];exact congrArg some (of_decide_eq_true hit)
 have e2:ef ld r=i:=by unfold ef;rw[hi];rfl
 rw[e2];exact⟨kc,fun n' hn=>one_place ld hnd _ _ _ hn kc⟩
theorem Ji{b:Bd}(d:FR)(h:b.held.length=8):(dF b d).held.length=8:=by
 unfold dF;split
 ·exact(length_set ..).trans h
 ·split
  ·exact(length_set ..).trans h
  ·split
   ·exact h
   ·split
    ·exact(length_set ..).trans h
    ·exact h
theorem Qs{es:List NK}{k:NK}(h:∀x∈es,x.2.length=8)(hk:k.2.length=8):∀x∈lR es k,x.2.length=8:=fun x hx=>by
 unfold lR at hx;split at hx
 ·exact h x hx
 ·rcases mem_append.mp hx with z | z
  ·exact h x z
  ·rw[mem_singleton.mp z];exact hk
theorem Qt{ds:List FR}{ld:List (Option Int)}{s1:WS}{Jc:List Bd}:∀(f:Nat) (s:WS) (b:Bd) (fk:List Bd),b.held.length=8->(∀x∈s.es,x.2.length=8)->(∀c∈fk,c.held.length=8)->tV ds ld f s b fk=some (s1,Jc)->(∀x∈s1.es,x.2.length=8)/\∀c∈Jc,c.held.length=8
 | 0,_,_,_,_,_,_,h=>by cases h
 | f+1,s,b,fk,h1,h2,h3,h=>by
  unfold tV at h;split at h
  ·have h:=Option.some.inj h;obtain⟨rfl,rfl⟩:=Prod.mk.inj h;exact⟨Qs h2 h1,h3⟩
  ·split at h
   ·have h:=Option.some.inj h;obtain⟨rfl,rfl⟩:=Prod.mk.inj h;exact⟨h2,h3⟩
   ·split at h
    ·cases h
    ·split at h
     ·cases h
     ·rename_i d hd;split at h
      ·have h:=Option.some.inj h;obtain⟨rfl,rfl⟩:=Prod.mk.inj h;exact⟨h2,h3⟩
      ·rename_i p ps hn;refine Qt f {s with n:=s.n+1} {dF b d with pl:=p.toNat} (fk++ps.map fun q=>{dF b d with pl:=q.toNat}) (show(dF b d).held.length=8 from Ji d h1) h2 (fun c hc=>?_) h;rcases mem_append.mp hc with z | z
       ·exact h3 c z
       ·obtain⟨q,_,rfl⟩:=mem_map.mp z;exact Ji d h1
  ·cases h
theorem Qu{ds:List FR}{ld:List (Option Int)}{s1:WS}:∀(f:Nat) (s:WS) (ws:List Bd),(∀x∈s.es,x.2.length=8)->(∀c∈ws,c.held.length=8)->uN ds ld f s ws=some s1->∀x∈s1.es,x.2.length=8
 | 0,_,_,_,_,h=>by cases h
 | f+1,s,ws,h1,h2,h=>by
  unfold uN at h;split at h
  ·rw[<-Option.some.inj h];exact h1
  ·rename_i b hb;have hbm:b∈ws:=List.mem_of_getLast? hb;split at h
   ·cases h
   ·rename_i r hr;obtain⟨a1,a2⟩:=Qt _ _ _ _ (h2 b hbm) h1 (fun c hc=>absurd hc not_mem_nil) hr;refine Qu f _ _ a1 (fun c hc=>?_) h;rcases mem_append.mp hc with z | z
    ·exact h2 c (dropLast_subset _ z)
    ·exact a2 c z
theorem hZ.eight{ds:List FR}{ld:List (Option Int)}{st:Nat}{s:WS}(h:hZ ds ld st s):∀x∈s.es,x.2.length=8:=by obtain⟨fu,_,h⟩:=h;exact Qu fu _ _ (fun x hx=>absurd hx not_mem_nil) (fun c hc=>by rw[mem_singleton.mp hc];rfl) h
def mJ(P:Program)(w:World)(WC:Addr)(H0 H:Hp)(v:V)(s:WS):Prop:=∃(wx gG e:Addr) (es:List (NK×Addr)),H0 e=none/\v=.ref wx/\H wx=some (.ins WC gG (dv (s.n:Int) s.lo e))/\eP P w H e es/\es.map (·.1)=s.es
theorem mJ.same{P:Program}{w:World}{WC:Addr}{H0 H H1:Hp}{v:V}{s:WS}(h:mJ P w WC H0 H v s)(k:Same H H1):mJ P w WC H0 H1 v s:=by obtain⟨wx,gG,e,es,z,a,b,c,d⟩:=h;exact⟨wx,gG,e,es,z,a,k _ _ b,cu c (.same (R:=fun _=>False) k) id,d⟩
theorem mJ.put{P:Program}{w:World}{WC:Addr}{H0 H:Hp}{v:V}{s:WS}{p:Addr}{kvs zN:List (Key×V)}(h:mJ P w WC H0 H v s)(hp:H p=some (.dK kvs)):mJ P w WC H0 (upd H p (.dK zN)) v s:=by obtain⟨wx,gG,e,es,y,a,b,c,d⟩:=h;have K1:Keeps (fun c=>c=p) H (upd H p (.dK zN)):=Keeps.refl.upd hp (fun _ z=>nomatch z) rfl;refine⟨wx,gG,e,es,y,a,K1 _ _ b (.inl fun z=>by rw[z,hp]at b;cases b),cu c K1 (fun z=>?_),d⟩;have:=c.1;rw[z,hp]at this;cases this
def Good(aI c5:List FR)(ld:List (Option Int))(fs:List Int)(cl:List (List Int))(wk:Nat->WS):Prop:=Sf aI c5 ld fs/\∀x∈eU aI c5 (ef ld) aI.length,ja (wk x.1.toNat) cl x.2=true
inductive Ln(WC Qv:Addr)(vs:List V)(H:Hp)(Q:VK)(E:XK):Prop
 | mk (l0 l1 pp ll lf lc:Addr) (aI c5:List FR) (ld:List (Option Int)) (fs:List Int) (cl:List (List Int)) (n m:Int) (wk:Nat->WS) (_:vs=[.ref l0,.ref l1,.ref pp]) (_:cm H l0 aI) (_:cm H l1 c5) (_:p6 H pp ll lf lc) (_:H ll=some (.lst (ld.map oV))) (_:(ld.filterMap id).length<64/\ld.length<=1000) (_:H lf=some (.lst (fs.map V.int))) (_:fs.length<=1000) (_:dr H lc cl) (_:cl.length=aI.length) (_:aI.length<=1000) (_:c5.length<=1000) (_:(∀d∈aI,GF n d)) (_:(∀d∈c5,GF m d)) (_:vB aI) (_:firstBad aI cl=none) (_:(Sf aI c5 ld fs->∀x∈eU aI c5 (ef ld) aI.length,0<=x.1/\0<=x.2/\x.2<aI.length/\hZ c5 ld x.1.toNat (wk x.1.toNat))) (_:(Good aI c5 ld fs cl wk->∀H1,Same H H1->Q .non H1)) (_:(¬Good aI c5 ld fs cl wk->∀H1,Same H H1->E (.ref Qv) none H1))
theorem D7:aM ["old","new","paper","ways","walks","start","right"] ["old","new","paper"] (ao dS):=by walk_at "sc1"
def Lp:Scope:={kind:=.function,names:=[(".0",.local),("key",.local),("paper",.free)],isGenerator:=false,isCoroutine:=false,more:=[]}
theorem D8:cC (ao dS) Lp ["old","new","paper","ways","walks","start","right"] ["key","paper"] [none,some 2]:=by walk_at "sc2"
theorem qb{f fS fW fK fL:Addr}{fd PD my ZC zI:el}{WC Qv:Addr}(F:cy K "check_paper" "check_paper" dS f fd)(T:Txt K w.params mg)(GS:aN P w K mg base bu 7 fS PD ["old","new","paper"] PB)(kS:KI K fS)(bS:Binds K PD ["old","new","paper"] [])(mS:mg "stands_well"=some (.ref fS))(GW:aN P w K mg base bu 2 fW my ["old","new","leads"] Qm)(kW:KI K fW)(bW:Binds K my ["old","new","leads"] [])(mW:mg "ways_to_walk"=some (.ref fW))(GK:aN P w K mg base bu 5 fK ZC ["new","leads","start"] (Qh (P:=P) (w:=w) WC))(kK:KI K fK)(bK:Binds K ZC ["new","leads","start"] [])(mK:mg "walk_from"=some (.ref fK))(GL:aN P w K mg base bu 1 fL zI ["walk","right","claims"] (Qq (P:=P) (w:=w) WC))(kL:KI K fL)(bL:Binds K zI ["walk","right","claims"] [])(mL:mg "leads_well"=some (.ref fL))(Lq:Gg K Qv OX "ValueError.__new__")(VC:mg "NoPaper"=some (.ref Qv)):aN P w K mg base (Nu P w) 8 f fd ["old","new","paper"] (Ln WC Qv):=by
 refine F.okX D7 (by walk_at "ln") (fun J4 A outer s H vs Q E hr h=>?_)
 ·obtain⟨l0,l1,pp,ll,lf,lc,aI,c5,ld,fs,cl,n,m,wk,rfl,Fq,uL,hP,kc,h64,hfs,hfl,hC,hcl,hl0,hl1,Fs,KL,PF,hbad,hwk,kQ,kE⟩:=h;have hu:=iM hr;have h65:=h64.2;have hrS:=hr.mono (show 7<=_ by decide);have hrW:=hr.mono (show 2<=_ by decide);have hrK:=hr.mono (show 5<=_ by decide);have UO:=hr.mono (show 1<=_ by decide);obtain⟨ZD,hpp,hSk⟩:=T.qY;obtain⟨kvs,hp,hv1,hv2,IW⟩:=id hP.at_
  refine ck (ak (bj (iK (dm (cq (aG cG (by rfl) T.Fn gA (ae (pv 2) (ae (eB (v:=.ty "dict") (by rfl) T.dict tL rfl) ah))))) (eZ (dm (cq (aG (ez rfl) (by rfl) T.all jN (ae (cW (X:=(gi (Nu P w) P w K mg base ["old","new","paper","ways","walks","start","right"] "check_paper" (ao dS) f J4 A outer s H E)) (N':=["key","paper"]) (fr:=[none,some 2]) D8 rfl (k8 (c7 (v:=.ref ZD) (by rfl) hpp rfl)) (fun C s0 H0 fp=>(bg (i:=0) D8.nd rfl (Or.inl rfl))) (fun C s0 H0 fp=>df) (fun C s0 H0 fp=>(Ck (CN hu (pv 0) (pv 1))))) ah)))))).pt (au (aq (lJ Lq PySem.F.excBase_ValueError VC (by rfl)))) (aU aF))
   (ak (bj (dm (cq (aA GS hrS (by rfl) mS kS bS .nil aQ (ae (pv 0) (ae (pv 1) (ae (pv 2) ah)))))) (au (aq (lJ Lq PySem.F.excBase_ValueError VC (by rfl)))) (aU aF))
   (ak (aq (aT (i:=3) D7.nd rfl (Or.inl rfl) (aA GW hrW (by rfl) mW kW bW .nil aQ (ae (pv 0) (ae (pv 1) (ae (c9 hu (pv 2) ay (fun _ _=>rfl)) ah))))))
   (ak (aq (aT (i:=4) D7.nd rfl (Or.inl rfl) gS))
   (ak (aq (dA PassesOwn.leaving rfl (cJ (pv 3)) (iC (K:=K) (i:=5) (j:=6) rfl rfl D7.nd rfl (Or.inl rfl) rfl (Or.inl rfl)) (aJ (cS (wz (lC hu (pv 5) (pv 4))) (aJ (iq hu (pv 4) (pv 5) (aA GK hrK (by rfl) mK kK bK .nil aQ (ae (pv 1) (ae (c9 hu (pv 2) ay (fun _ _=>rfl)) (ae (pv 5) ah)))) rfl)) aF))))
   (au (aq (dA PassesOwn.leaving rfl (cJ (pv 3)) (iC (K:=K) (i:=5) (j:=6) rfl rfl D7.nd rfl (Or.inl rfl) rfl (Or.inl rfl)) (aJ (cS (dm (cq (aA GL UO (by rfl) mL kL bL .nil aQ (ae (c9 hu (pv 4) (pv 5) (fun _ _=>rfl)) (ae (pv 6) (ae (c9 hu (pv 2) ay (fun _ _=>rfl)) ah)))))) (aJ (lJ Lq PySem.F.excBase_ValueError VC (by rfl))) aF)))))))))) ?_
  refine⟨_,rfl,_,_,_,_,rfl,.dK hp,pR (by decide),_,rfl,bU (by decide) ?_⟩;refine⟨ZD,rfl,⟨_,hSk _⟩,fun D nD=>gW (K:=K) (xs:=[V.str "leads",.str "forms",.str "free"]) (fun i σ ys G=>∃v:Option V,σ=[v,some (.ref pp)]/\ys=(replicate i true).map V.bl/\Same H G/\G D=some (.lst ys)) ?_ ?_ ?_ ?_⟩
  ·exact⟨none,rfl,rfl,aw nD,ai⟩
  ·rintro i σ ys G _ ⟨v,rfl,rfl,s1,_⟩;exact hSk _
  ·rintro i x σ ys G hx ⟨v,rfl,rfl,s1,hD⟩;have hx2:∃u:Str,x=.str u/\∃y,cM kvs (Sum.inr u:Key)=some y/\i<3:=by
    match i,hx with
    | 0,h=>exact⟨"leads",(Option.some.inj h).symm,_,hv1,by omega⟩
    | 1,h=>exact⟨"forms",(Option.some.inj h).symm,_,hv2,by omega⟩
    | 2,h=>exact⟨"free",(Option.some.inj h).symm,_,IW,by omega⟩
    | i+3,h=>simp at h
   obtain⟨u,rfl,y,hy,hi⟩:=hx2;refine⟨_,rfl,_,rfl,pp,_,rfl,dP.k (k:=(Sum.inr u:Key)) (s1 _ _ hp),?_⟩;rw[hy];exact⟨hD,bh (by rw[length_map,length_replicate];omega),_,rfl,pZ i,aZ s1 nD,ai⟩
  rintro σ ys G0 ⟨v,rfl,rfl,s0,hD⟩;refine⟨D,_,rfl,aR.of hD,_,rfl,?_⟩;rw[tP];refine bU (by decide) ?_;refine⟨_,rfl,_,rfl,_,rfl,l0,l1,pp,ll,lf,lc,aI,c5,ld,fs,cl,n,m,rfl,Fq.same s0,uL.same s0,hP.same s0,s0 _ _ kc,h64,s0 _ _ hfs,hfl,hC.same s0,hcl,hl0,hl1,Fs,KL,PF,hbad,fun b G1 hb s1=>⟨_,rfl,?_⟩⟩;have NJ:=s0.trans s1;cases b with
  | false=>exact c6 rfl (kE (fun z=>by have:=hb.mpr z.1;cases this) G1 NJ)
  | true=>
  refine bU (by decide) ?_;have hS:=hb.mp rfl;have hwk:=hwk hS;have hpl:∀(r:Nat) d,aI[r]? =some d->StandsAt ld r (ef ld r)/\∃d',c5[ef ld r]? =some d'/\d'.ts.length=d.ts.length:=fun r d hd=>by
   have hrl:=(al.mp hd).1;have hst:=ia hS.1 hrl;have hl:ef ld r<c5.length:=by rw[<-hS.1.1];exact(al.mp hst.1).1
   have hd':c5[ef ld r]? =some c5[ef ld r]:=ac hl;have hw:RowW aI _ (some (r:Int)):=hS.2.2 _ _ _ hd' hst.1;have hw:=hw d (by rw[lv];exact hd);unfold jS at hw;rw[Bool.and_eq_true,Bool.and_eq_true]at hw;exact⟨hst,_,hd',of_decide_eq_true hw.1.2⟩
  refine⟨_,rfl,_,rfl,_,rfl,pp,_,rfl,by rw[<-hv1];exact dP.k (k:=(Sum.inr "leads": Key)) (NJ _ _ hp),l0,l1,ll,aI,c5,ld,n,m,ef ld,rfl,Fq.same NJ,uL.same NJ,Fs,KL,NJ _ _ kc,by omega,hl0,hpl,fun lw ts G2 s2 Li hws=>?_⟩;have SH:=NJ.trans s2;generalize hwl:eU aI c5 (ef ld) aI.length=wl at hws hwk;have hgood:Good aI c5 ld fs cl wk↔∀x∈wl,ja (wk x.1.toNat) cl x.2=true:=by unfold Good;rw[hwl];exact⟨fun z=>z.2,fun z=>⟨hS,z⟩⟩
  refine fun pd Hk=>?_;have t3:=aw (o:=.dK []) Hk;have hpd:upd G2 pd (.dK []) pd=_:=ai;have npdH:H pd=none:=dt.same SH _ Hk;generalize upd G2 pd (.dK [])=G3 at t3 hpd ⊢;have s03:=SH.trans t3;have wlen:wl.length<=1+17*aI.length:=by rw[<-hwl];exact lS Fs _
  refine⟨_,rfl,lw,rfl,⟨_,aR.of (t3 _ _ Li)⟩,gK (K:=K) (xs:=ts.map V.ref) (fun i σ G=>∃(v5 v6:Option V) (kv:List (Key×V)),σ=[some (.ref l0),some (.ref l1),some (.ref pp),some (.ref lw),some (.ref pd),v5,v6]/\Same G2 G/\G pd=some (.dK kv)/\kv.length<=i/\(∀(j:Int) v,cM kv (Sum.inl j)=some v->mJ P w WC H G v (wk j.toNat))/\∀x∈wl.take i,(cM kv (Sum.inl x.1)).isSome=true) ?_ ?_ ?_ ?_⟩
  ·exact⟨none,none,[],rfl,t3,hpd,le_refl _,(fun j v h=>by simp[cM]at h),fun x hx=>by simp at hx⟩
  ·rintro i σ G _ ⟨v5,v6,kv,rfl,s4,_⟩;exact aR.of (s4 _ _ Li)
  ·rintro i x σ G hx ⟨v5,v6,kv,rfl,s4,Jg,hkl,Bl,D9⟩;rw[ag]at hx;obtain⟨tt,htt,rfl⟩:=map_eq_some_iff.mp hx;have hil:i<wl.length:=by have:=(al.mp htt).1;have:=hws.1;omega
   have hxi:wl[i]? =some wl[i]:=ac hil;obtain⟨w1,w2,w3,w4⟩:=hwk _ (bi hil);generalize wl[i]=xw at hxi w1 w2 w3 w4;have ht:=s4 _ _ (hws.2 i tt xw htt hxi);have htk:wl.take (i+1)=wl.take i++ [xw]:=by rw[take_add_one,hxi];rfl
   refine⟨tt,_,rfl,bp.of ht,rfl,_,_,rfl,_,_,rfl,rfl,?_⟩;refine⟨_,rfl,_,rfl,pd,_,rfl,dP.k (k:=Sum.inl xw.1) Jg,_,rfl,?_⟩;by_cases c:(cM kv (Sum.inl xw.1)).isSome=true
   ·rw[c];refine bU (by decide) ⟨_,_,kv,rfl,s4,Jg,by omega,Bl,fun x hx=>?_⟩;rw[htk]at hx;rcases mem_append.mp hx with z | z
    ·exact D9 x z
    ·rw[mem_singleton.mp z];exact c
   ·rw[Bool.eq_false_iff.mpr c];refine c6 (by decide) ?_;have Lr:=SH.trans s4;refine⟨_,rfl,_,rfl,pp,_,rfl,by rw[<-hv1];exact dP.k (k:=(Sum.inr "leads": Key)) (Lr _ _ hp),_,rfl,l1,ll,c5,ld,m,xw.1.toNat,wk xw.1.toNat,by rw[Int.toNat_of_nonneg w1];rfl,uL.same Lr,KL,Lr _ _ kc,w4,fun wx gG e es G5 s5 KZ ne wu hE hes=>?_⟩;have B7:=s5 _ _ Jg;refine⟨_,rfl,_,rfl,pd,_,rfl,lA.k (k:=Sum.inl xw.1) B7 (bh (by omega)),?_⟩;have hW:mJ P w WC H G5 (.ref wx) (wk xw.1.toNat):=⟨wx,gG,e,es,dt.same Lr _ ne,rfl,wu,hE,hes⟩;refine⟨_,_,_,rfl,aZ (s4.trans s5) Hk,ai,le_trans (cU _ _ _) (by omega),fun j v hj=>?_,fun x hx=>?_⟩
    ·rw[gQ]at hj;by_cases e1:(Sum.inl j:Key)=Sum.inl xw.1
     ·rw[if_pos e1]at hj;have e2:=Sum.inl.inj e1;subst e2;rw[<-Option.some.inj hj];exact hW.put B7
     ·rw[if_neg e1]at hj;exact((Bl j v hj).same s5).put B7
    ·rw[htk]at hx;rw[zL];rcases mem_append.mp hx with z | z
     ·exact .inl (D9 x z)
     ·rw[mem_singleton.mp z];exact .inr rfl
  rintro σ G4 ⟨v5,v6,kv,rfl,s4,Jg,hkl,Bl,D9⟩;rw[length_map,hws.1,take_of_length_le (le_refl _)]at D9;have Lr:=SH.trans s4;refine⟨_,rfl,lw,rfl,⟨_,aR.of (s4 _ _ Li)⟩,gK (K:=K) (xs:=ts.map V.ref) (fun i σ G=>∃(v5 v6:Option V),σ=[some (.ref l0),some (.ref l1),some (.ref pp),some (.ref lw),some (.ref pd),v5,v6]/\Same G4 G/\∀x∈wl.take i,ja (wk x.1.toNat) cl x.2=true) ?_ ?_ ?_ ?_⟩
  ·exact⟨_,_,rfl,.refl _,fun x hx=>by simp at hx⟩
  ·rintro i σ G _ ⟨v5,v6,rfl,s5,_⟩;exact aR.of (s5 _ _ (s4 _ _ Li))
  ·rintro i x σ G hx ⟨v5,v6,rfl,s5,hall⟩;rw[ag]at hx;obtain⟨tt,htt,rfl⟩:=map_eq_some_iff.mp hx;have hil:i<wl.length:=by have:=(al.mp htt).1;have:=hws.1;omega
   have hxi:wl[i]? =some wl[i]:=ac hil;have SJ:wl[i] ∈wl:=bi hil;obtain⟨w1,w2,w3,w4⟩:=hwk _ SJ;have hin:=D9 _ SJ;generalize wl[i]=xw at hxi w1 w2 w3 w4 hin SJ;have VD:=Lr.trans s5;have ht:=s5 _ _ (s4 _ _ (hws.2 i tt xw htt hxi));have htk:wl.take (i+1)=wl.take i++ [xw]:=by rw[take_add_one,hxi];rfl
   obtain⟨v,hv⟩:=Option.isSome_iff_exists.mp hin;obtain⟨wx,gG,e,es,hne,rfl,h1,h2,h3⟩:=(Bl _ _ hv).same s5;refine⟨tt,_,rfl,bp.of ht,rfl,_,_,rfl,_,_,rfl,rfl,?_⟩;refine⟨_,rfl,_,rfl,pd,_,rfl,by rw[<-hv];exact dP.k (k:=Sum.inl xw.1) (s5 _ _ Jg),_,rfl,_,rfl,pp,_,rfl,by rw[<-IW];exact dP.k (k:=(Sum.inr "free": Key)) (VD _ _ hp),?_⟩;refine⟨wx,gG,e,lc,wk xw.1.toNat,es,cl,xw.2.toNat,by rw[Int.toNat_of_nonneg w2];rfl,h1,h2,h3,w4.eight,hC.same VD,by omega,fun G6 Qw s6=>⟨_,rfl,?_⟩,fun G6 Qw k6=>⟨_,rfl,?_⟩⟩
   ·rw[Int.toNat_of_nonneg w2]at Qw;refine bU (by decide) ⟨_,_,rfl,s5.trans s6,fun x hx=>?_⟩;rw[htk]at hx;rcases mem_append.mp hx with z | z
    ·exact hall x z
    ·rw[mem_singleton.mp z];exact Qw
   ·rw[Int.toNat_of_nonneg w2]at Qw;refine c6 rfl (kE (fun z=>?_) G6 fun c o h=>k6 c o (VD c o h) (.inl fun z=>by rw[z,hne]at h;cases h));have:=hgood.mp z xw SJ;rw[Qw]at this;cases this
  ·rintro σ G ⟨v5,v6,rfl,s5,hall⟩;rw[length_map,hws.1,take_of_length_le (le_refl _)]at hall;exact kQ (hgood.mpr hall) G (Lr.trans s5)
theorem kr{X:Cx}:jG X (binaryOp .FloorDiv) (rI (fun _ j=>0<j/\j<18446744073709551616) fun i j=>.int (i/j)):=RZ fun i j _ _ _ _ _ hc q=>by have h1:(0:Int)<j:=hc.1;have h2:j<18446744073709551616:=hc.2;refine PyProof.Rows.floordiv_int (by omega) (by rw[Int.fdiv_eq_ediv_of_nonneg i (by omega)];exact q) (.inl (PyProof.noPylong_of_log2 ?_));have h3:j.natAbs.log2<64:=(Nat.log2_lt (by omega)).mpr (by omega);omega
def qG(H:Hp)(a:Addr):Prop:=∃x y z:Int,H a=some (.lst [.int x,.int y,.int z])
theorem cY.of{a:Addr}{H H1 H2:Hp}(e:Same H H1)(n:H a=none)(x:cY a H1 H2):Same H H2:=fun c o h=>x c o (bt h n) (e c o h)
theorem qG.same{a:Addr}{H H':Hp}(e:Same H H')(h:qG H a):qG H' a:=by obtain⟨x,y,z,h⟩:=h;exact⟨x,y,z,e _ _ h⟩
theorem ku(ws:List Str)(d c:Int)(h0:c<=d)(h1:d<c+ws.length):∃u,u∈ws/\lh (ws.map V.str) (d-c)=some (.str u):=by
 obtain⟨j,hj⟩:=Int.eq_ofNat_of_zero_le (show 0<=d-c by omega);have hl:j<ws.length:=by omega
 refine⟨ws[j],bi hl,?_⟩;rw[hj];refine cj (j:=j) ?_;rw[ag,ac hl];rfl
theorem cY.new{l:Addr}{H H1:Hp}{q:Addr}{o:HO}(x:cY l H H1)(n:H1 q=none):cY l H (upd H1 q o):=x.trans (.same (aw n))
theorem qG.ne{H:Hp}{l q:Addr}(h:qG H l)(n:H q=none):q≠l:=by rintro rfl;obtain⟨_,_,_,h⟩:=h;rw[h]at n;exact absurd n (by simp)
theorem qG.upd{H:Hp}{l q:Addr}{o:HO}(h:qG H l)(n:q≠l):qG (upd H q o) l:=by obtain⟨x,y,z,h⟩:=h;exact⟨x,y,z,by rw[az n.symm];exact h⟩
theorem qG.new{H:Hp}{l q:Addr}{o:HO}(h:qG H l)(n:H q=none):qG (L2.upd H q o) l:=h.upd (h.ne n)
def jT(u:Str):Prop:=u∈dz/\¬u ="table"/\¬u∈eT/\¬u∈zb
instance {u:Str}:Decidable (jT u):=by unfold jT;infer_instance
theorem eI{H:Hp}{q:Addr}{u:Str}{b c:Int}(hu:jT u)(h:H q=some (.tup [.str u,.int b,.int c])):cw H q ⟨u,[b,c],[]⟩:=
 ⟨⟨hu.1,fun z=>absurd z hu.2.1,fun z=>absurd z hu.2.2.1,fun z=>absurd z hu.2.2.2,fun _ _ _=>rfl,fun _=>⟨b,c,rfl⟩,fun _=>⟨b,[c],rfl⟩⟩,.inr ⟨hu.2.1,h⟩⟩
theorem oI{H:Hp}{q:Addr}{u:Str}{b:Int}(hu:jT u/\¬u∈w2)(h:H q=some (.tup [.str u,.int b])):cw H q ⟨u,[b],[]⟩:=
 ⟨⟨hu.1.1,fun z=>absurd z hu.1.2.1,fun z=>absurd z hu.1.2.2.1,fun z=>absurd z hu.1.2.2.2,fun _ _ _=>rfl,fun z=>absurd z hu.2,fun _=>⟨b,[],rfl⟩⟩,.inr ⟨hu.1.2.1,h⟩⟩
theorem tX{H:Hp}{q:Addr}{u:Str}(hu:jT u/\¬u∈w2/\¬u∈w1)(h:H q=some (.tup [.str u])):cw H q ⟨u,[],[]⟩:=
 ⟨⟨hu.1.1,fun z=>absurd z hu.1.2.1,fun z=>absurd z hu.1.2.2.1,fun z=>absurd z hu.1.2.2.2,fun _ _ _=>rfl,fun z=>absurd z hu.2.1,fun z=>absurd z hu.2.2⟩,.inr ⟨hu.1.2.1,h⟩⟩
theorem eJ{H:Hp}{q:Addr}{u:Str}{t f:Int}(hu:u∈eT)(h:H q=some (.tup [.str u,.int t,.int f])):cw H q ⟨u,[t,f],[t]⟩:=by have hw:=(by decide:∀u∈eT,u∈dz/\¬u ="table"/\¬u∈zb/\¬u∈w2/\¬u∈w1) u hu;exact⟨⟨hw.1,fun z=>absurd z hw.2.1,fun _=>⟨t,f,rfl,rfl⟩,fun z=>absurd z hw.2.2.1,fun _ z=>absurd hu z,fun z=>absurd z hw.2.2.2.1,fun z=>absurd z hw.2.2.2.2⟩,.inr ⟨hw.2.1,h⟩⟩
theorem iE{H:Hp}{q:Addr}{u:Str}{b t f:Int}(hu:u∈zb)(h:H q=some (.tup [.str u,.int b,.int t,.int f])):cw H q ⟨u,[b,t,f],[t]⟩:=by have hw:=(by decide:∀u∈zb,u∈dz/\¬u ="table"/\¬u∈eT/\¬u∈w2) u hu;exact⟨⟨hw.1,fun z=>absurd z hw.2.1,fun z=>absurd z hw.2.2.1,fun _=>⟨b,t,f,rfl,rfl⟩,fun _ _ z=>absurd hu z,fun z=>absurd z hw.2.2.2,fun _=>⟨b,_,rfl⟩⟩,.inr ⟨hw.2.1,h⟩⟩
theorem lT{H:Hp}{q p:Addr}{b:Int}{ts:List Int}(h:H q=some (.tup [.str "table",.int b,.ref p]))(hp:H p=some (.tup (ts.map V.int))):cw H q ⟨"table",[b],ts⟩:=
 ⟨⟨(by decide:("table": Str)∈dz),fun _=>⟨b,rfl⟩,fun z=>absurd z (by decide:¬("table": Str)∈eT),fun z=>absurd z (by decide:¬("table": Str)∈zb),fun z=>absurd rfl z,fun z=>absurd z (by decide:¬("table": Str)∈w2),fun _=>⟨b,[],rfl⟩⟩,.inl ⟨rfl,b,p,rfl,h,hp⟩⟩
inductive Ea(vs:List V)(H:Hp)(Q:VK)(E_:XK):Prop
 | mk (a:Addr) (ns:List Int) (k:Int) (_:vs=[.ref a,.int k]) (_:aR K H a (ns.map V.int)) (_:0<=k) (_:∀c:Int,Q (.int c) H)
theorem Ls:aM ["_law_script","_law_k"] ["_law_script","_law_k"] (ao gu):=by walk_at "sc1"
theorem Hw{f:Addr}{fd:el}(F:cy K "_law_cell_at" "_law_cell_at" gu f fd)(T:Txt K w.params mg):aN P w K mg base bu 1 f fd ["_law_script","_law_k"] (Ea (K:=K)):=by
 refine F.ok Ls (by walk_at "ln") (fun J4 A outer s H vs Q E hr h=>?_)
 ·obtain⟨a,ns,k,rfl,hS,hk,q⟩:=h
  refine⟨_,aL (cS (aE jz (pv 1) (aG aK (by rfl) T.len bV (ae (pv 0) ah)) (aP _)) (aJ (aC (aH aO (pv 0) (pv 1) (fun _ _=>rfl)))) aF)
   (aJ (aC aj)),?_⟩
  refine⟨_,rfl,_,rfl,a,_,rfl,.inl hS,_,_,rfl,rfl,_,rfl,?_⟩;refine cK (fun h1=>?_) (fun h1=>?_)
  ·have h1:=of_decide_eq_true h1;rw[length_map]at h1;obtain⟨j,rfl⟩:=Int.eq_ofNat_of_zero_le hk;have hj:j<ns.length:=by omega
   refine⟨_,rfl,_,rfl,a,_,_,.int ns[j],rfl,rfl,hS,cj (j:=j) ?_,q _⟩;rw[ag,ac hj];rfl
  ·exact q 0
inductive kx(vs:List V)(H:Hp)(Q:VK)(E_:XK):Prop
 | mk (a:Addr) (b:Int) (_:vs=[.ref a,.int b]) (_:qG H a) (_:0<b) (_:b<18446744073709551616) (_:∀(d:Int) (H':Hp),0<=d->d<b->qG H' a->cY a H H'->Q (.int d) H')
theorem oJ:aM ["_law_state","_law_base","_law_found","_law_number"] ["_law_state","_law_base"] (ao i6):=by walk_at "sc1"
theorem Eb{f:Addr}{fd:el}(F:cy K "_law_digit" "_law_digit" i6 f fd)(T:Txt K w.params mg):aN P w K mg base bu 1 f fd ["_law_state","_law_base"] kx:=by
 refine F.ok oJ (by walk_at "ln") (fun J4 A outer s H vs Q E hr h=>?_)
 ·obtain⟨a,b,rfl,⟨x,y,z,hS⟩,hb,hb2,k⟩:=h
  refine⟨_,aL (cS (aE rO (aH aO (pv 0) aj (fun _ _=>rfl)) aj (aP _))
    (aL (aT (i:=2) oJ.nd rfl (Or.inl rfl) (aS fc (aH aO (pv 0) aj (fun _ _=>rfl)) (pv 1)))
    (aL (e9 (aS kr (aH aO (pv 0) aj (fun _ _=>rfl)) (pv 1)) (ie (pv 0) aj set_list))
    (aJ (aC (pv 2))))) aF)
   (aL (e9 (aS cL (aH aO (pv 0) aj (fun _ _=>rfl)) aj) (ie (pv 0) aj set_list))
   (aL (aT (i:=3) oJ.nd rfl (Or.inl rfl) (aS fc (aS oR (aS cL (aS cL (aH aO (pv 0) aj (fun _ _=>rfl)) (aS oR aj (aH aO (pv 0) aj (fun _ _=>rfl)))) aj) aj) aj))
   (aL (aT (i:=3) oJ.nd rfl (Or.inl rfl) (aS fc (aS oR (pv 3) (aS cL (aS kr (pv 3) aj) aj)) aj))
   (aJ (aC (aS fc (aS fc (aS oR (pv 3) (aS cL (aS kr (pv 3) aj) aj)) aj) (pv 1))))))),?_⟩
  refine⟨_,rfl,a,_,_,.int x,rfl,rfl,aR.of hS,at0 _ _,_,_,rfl,rfl,_,rfl,?_⟩;refine cK (fun e=>?_) (fun _=>?_)
  ·refine⟨_,rfl,a,_,_,.int x,rfl,rfl,aR.of hS,at0 _ _,_,rfl,_,_,rfl,rfl,hb,?_⟩;refine⟨_,rfl,a,_,_,.int x,rfl,rfl,aR.of hS,at0 _ _,_,rfl,_,_,rfl,rfl,⟨hb,hb2⟩,?_⟩;refine⟨_,rfl,a,_,_,0,rfl,rfl,hS,rfl,_,rfl,?_⟩;exact k _ _ (Int.emod_nonneg _ (by omega)) (Int.emod_lt_of_pos _ hb) ⟨_,_,_,ai⟩ cY.put
  ·refine⟨_,rfl,a,_,_,.int z,rfl,rfl,aR.of hS,at2 _ _ _ _,_,_,rfl,rfl,?_⟩;refine⟨_,rfl,a,_,_,2,rfl,rfl,hS,rfl,?_⟩;refine⟨_,rfl,a,_,_,.int y,rfl,rfl,aR.of ai,at1 _ _ _,_,rfl,a,_,_,.int (z+1),rfl,rfl,aR.of ai,at2 _ _ _ _,_,_,rfl,rfl,.inl ⟨by decide,by decide⟩,_,_,rfl,rfl,_,_,rfl,rfl,_,_,rfl,rfl,.inr ⟨by decide,by decide⟩,_,_,rfl,rfl,eF,?_⟩;generalize hn:(y+7919*(z+1)+1)*48271 % 2147483647=n1;have p1:0<=n1/\n1<2147483647:=by rw[<-hn];exact⟨Int.emod_nonneg _ (by decide),Int.emod_lt_of_pos _ (by decide)⟩
   refine⟨_,rfl,_,rfl,_,_,rfl,rfl,⟨by show(0:Int)<1009;decide,by show(1009:Int)<_;decide⟩,_,_,rfl,rfl,_,_,rfl,rfl,.inl ⟨by omega,by omega⟩,_,_,rfl,rfl,eF,?_⟩;generalize hn2:n1*(n1/1009+69621) % 2147483647=n2;have p2:0<=n2/\n2<2147483647:=by rw[<-hn2];exact⟨Int.emod_nonneg _ (by decide),Int.emod_lt_of_pos _ (by decide)⟩
   refine⟨_,rfl,_,rfl,_,_,rfl,rfl,⟨by show(0:Int)<2003;decide,by show(2003:Int)<_;decide⟩,_,_,rfl,rfl,_,_,rfl,rfl,.inl ⟨by omega,by omega⟩,_,_,rfl,rfl,qW,_,rfl,_,_,rfl,rfl,hb,?_⟩;exact k _ _ (Int.emod_nonneg _ (by omega)) (Int.emod_lt_of_pos _ hb) ⟨_,_,_,ai⟩ cY.put
end
def iP(d:FR):Prop:=∀j∈cZ d ["aside"],j<800
theorem iF{d:FR}(h:¬("aside": Str)∈bf d.u):iP d:=fun j hj=>by unfold cZ pI at hj;obtain⟨x,hx,rfl⟩:=mem_map.mp hj;obtain⟨h1,h2⟩:=List.mem_filter.mp hx;have h2:=of_decide_eq_true h2;rw[mem_singleton]at h2;have:=(List.of_mem_zip h1).1;rw[h2]at this;exact absurd this h
theorem Lv{u:Str}{b c:Int}(h:bf u=zL6)(hc:c<800):iP ⟨u,[b,c],[]⟩:=fun j hj=>by unfold cZ pI at hj;rw[show bf (FR.mk u [b,c] []).u=zL6 from h]at hj;have hj:j∈((([("box",b),("aside",c)]:List (Str×Int)).filter fun x=>decide (x.1∈(["aside"]:List Str))).map (·.2)):=hj;rw[List.filter_cons_of_neg (by show ¬decide (("box": Str)∈(["aside"]:List Str))=true;decide+kernel),List.filter_cons_of_pos (by show decide (("aside": Str)∈(["aside"]:List Str))=true;decide+kernel)]at hj;rw[mem_singleton.mp hj];exact hc
section
variable {n:Int}{u:Str}{b c t:Int}
theorem VE(h:u∈zL2)(hb:0<=b/\b<=7):GF n ⟨u,[b,c],[]⟩/\iP ⟨u,[b,c],[]⟩:=⟨.val h hb,iF ((by decide+kernel:∀u∈zL2,¬("aside": Str)∈bf u) u h)⟩
theorem VF(h:u∈zL9)(hb:0<=b/\b<=7)(hc:0<=c/\c<=7):GF n ⟨u,[b,c],[]⟩/\iP ⟨u,[b,c],[]⟩:=⟨.two h hb hc,iF ((by decide+kernel:∀u∈zL9,¬("aside": Str)∈bf u) u h)⟩
theorem VG(h:u∈zL1)(hb:0<=b/\b<=7)(hc:0<=c/\c<800):GF n ⟨u,[b,c],[]⟩/\iP ⟨u,[b,c],[]⟩:=by
 refine⟨.B4 h hb hc.1,?_⟩;rcases(by decide+kernel:∀u∈zL1,bf u=zL6\/¬("aside": Str)∈bf u) u h with z | z
 ·exact Lv z (by omega)
 ·exact iF z
theorem Qx(h:u∈zL4)(ht:0<=t/\t<n):GF n ⟨u,[t,c],[t]⟩/\iP ⟨u,[t,c],[t]⟩:=⟨.jmp h ht,iF ((by decide+kernel:∀u∈zL4,¬("aside": Str)∈bf u) u h)⟩
theorem VH(h:u∈zL0)(hb:0<=b/\b<=7)(ht:0<=t/\t<n):GF n ⟨u,[b,t,c],[t]⟩/\iP ⟨u,[b,t,c],[t]⟩:=⟨.B5 h hb ht,iF ((by decide+kernel:∀u∈zL0,¬("aside": Str)∈bf u) u h)⟩
theorem VI(hb:0<=b/\b<=7):GF n ⟨"tell",[b],[]⟩/\iP ⟨"tell",[b],[]⟩:=⟨.tell hb,iF (by show ¬("aside": Str)∈bf "tell";decide+kernel)⟩
theorem VJ:GF n ⟨"halt",[c],[]⟩/\iP ⟨"halt",[c],[]⟩:=⟨.halt,iF (by show ¬("aside": Str)∈bf "halt";decide+kernel)⟩
theorem Hx(h:u∈zL3):GF n ⟨u,[],[]⟩/\iP ⟨u,[],[]⟩:=⟨.non h,iF ((by decide+kernel:∀u∈zL3,¬("aside": Str)∈bf u) u h)⟩
theorem Qy{ts:List Int}(hb:0<=b/\b<=7)(hl:1<=ts.length/\ts.length<=16)(ht:∀t∈ts,0<=t/\t<n):GF n ⟨"table",[b],ts⟩/\iP ⟨"table",[b],ts⟩:=⟨.tab hb hl ht,iF (by show ¬("aside": Str)∈bf "table";decide+kernel)⟩
end
section
variable {P:Program}{w:World}{K:Frag}{mg:Str->Option Value}{base:Heap}
inductive Qz(vs:List V)(H:Hp)(Q:VK)(E_:XK):Prop
 | mk (c n:Int) (_:vs=[.int c,.int n]) (_:1<=n) (_:n<=1000) (_:∀(q:Addr) (d:FR) (H':Hp),Same H H'->cw H' q d->GF n d/\iP d->Q (.ref q) H')
theorem Bm:aM ["_law_cell","_law_many","_law_state","_law_word","_law_b","_law_c","_law_far_here"] ["_law_cell","_law_many"] (ao jr):=by walk_at "sc1"
def Lw:Scope:={kind:=.function,names:=[(".0",.local),("_law_k",.local),("_law_digit",.globalImplicit),("_law_many",.free),("_law_state",.free)],isGenerator:=false,isCoroutine:=false,more:=[]}
theorem Ec:cC (ao jr) Lw ["_law_cell","_law_many","_law_state","_law_word","_law_b","_law_c","_law_far_here"] ["_law_k","_law_state","_law_many"] [none,some 2,some 1]:=by walk_at "sc2"
theorem xV{f fD:Addr}{fd Ed:el}(F:cy K "_law_row" "_law_row" jr f fd)(T:Txt K w.params mg)(GD:aN P w K mg base bu 1 fD Ed ["_law_state","_law_base"] kx)(kD:KI K fD)(bD:Binds K Ed ["_law_state","_law_base"] [])(mD:mg "_law_digit"=some (.ref fD)):aN P w K mg base bu 2 f fd ["_law_cell","_law_many"] Qz:=by
 refine F.ok Bm (by walk_at "ln") (fun J4 A outer s H vs Q E hr h=>?_)
 ·obtain⟨c,mm,rfl,n0,n1,k⟩:=h
  refine ck (ak (aq (aT (i:=2) Bm.nd rfl (Or.inr rfl) (aY (ae (aG (rP rfl) (by rfl) T.max Dx (ae aj (ae (aS dO (pv 0) (aS Cz aj aj)) ah))) (ae (aS fc (pv 0) aj) (ae aj ah))))))
   (ak (aq (aT (i:=3) Bm.nd rfl (Or.inl rfl) (aA GD hr (by rfl) mD kD bD .nil aQ (ae (pv 2) (ae aj ah)))))
   (ak (aq (aT (i:=4) Bm.nd rfl (Or.inl rfl) (aA GD hr (by rfl) mD kD bD .nil aQ (ae (pv 2) (ae aj ah)))))
   (ak (aq (aT (i:=5) Bm.nd rfl (Or.inl rfl) (aA GD hr (by rfl) mD kD bD .nil aQ (ae (pv 2) (ae aj ah)))))
   (ak (aq (aT (i:=6) Bm.nd rfl (Or.inl rfl) (aA GD hr (by rfl) mD kD bD .nil aQ (ae (pv 2) (ae aj ah)))))
   (ak (bj (aE jz (pv 3) aj (aP _)) (au (aq (aC (aH aO (aY (ae (aV (ae ay ah)) (ae (aV (ae ay ah)) (ae (aV (ae ay (ae (pv 5) ah))) ah)))) (pv 3) (fun _ _=>rfl))))) (aU aF))
   (ak (bj (aE jz (pv 3) aj (aP _)) (au (aq (aC (aV (ae (aH aO (aY (ae ay (ae ay (ae ay (ae ay (ae ay ah)))))) (aS dO (pv 3) aj) (fun _ _=>rfl)) (ae (pv 4) (ae (pv 5) ah))))))) (aU aF))
   (ak (bj (aE jz (pv 3) aj (aP _)) (au (aq (aC (aV (ae (aH aO (aY (ae ay (ae ay (ae ay (ae ay (ae ay ah)))))) (aS dO (pv 3) aj) (fun _ _=>rfl)) (ae (pv 4) (ae (aS cL (aS oR aj (pv 5)) (pv 4)) ah))))))) (aU aF))
   (ak (bj (aE dJ (pv 3) aj (aP _)) (au (aq (aC (aV (ae ay (ae (pv 4) ah)))))) (aU aF))
   (ak (bj (aE jz (pv 3) aj (aP _)) (au (aq (aC (aV (ae (aH aO (aY (ae ay (ae ay (ae ay ah)))) (aS dO (pv 3) aj) (fun _ _=>rfl)) (ae (aA GD hr (by rfl) mD kD bD .nil aQ (ae (pv 2) (ae (pv 1) ah))) (ae (pv 6) ah))))))) (aU aF))
   (ak (bj (aE jz (pv 3) aj (aP _)) (au (aq (aC (aV (ae (aH aO (aY (ae ay (ae ay ah))) (aS dO (pv 3) aj) (fun _ _=>rfl)) (ae (pv 4) (ae (aA GD hr (by rfl) mD kD bD .nil aQ (ae (pv 2) (ae (pv 1) ah))) (ae (pv 6) ah)))))))) (aU aF))
   (au (aq (aC (aV (ae ay (ae (pv 4) (ae (bq eC (by rfl) T.tuple gY (ae (cW (N':=["_law_k","_law_state","_law_many"]) (fr:=[none,some 2,some 1]) Ec rfl (ei rfl T.range (ae (aS cL aj (pv 5)) ah)) (fun C s0 H0 fp=>(bg (i:=0) Ec.nd rfl (Or.inl rfl))) (fun C s0 H0 fp=>df) (fun C s0 H0 fp=>(aA GD hr (by rfl) mD kD bD .nil aQ (ae (pv 1) (ae (pv 2) ah))))) ah)) ah)))))))))))))))))) ?_
  refine⟨_,rfl,_,_,rfl,rfl,⟨by decide,by decide,by decide⟩,_,_,rfl,rfl,_,_,rfl,_,rfl,_,_,rfl,rfl,eF,xv,fun l nl=>?_⟩;have fin:∀q d H',cY l H H'->cw H' q d->GF mm d/\iP d->Q (.ref q) H':=fun q d H' x g e=>k q d H' (cY.of (Same.refl H) nl x) g e;refine⟨_,rfl,l,20,rfl,⟨_,_,_,ai⟩,by decide,by decide,fun d H1 d0 d1 t1 z1=>?_⟩;have x1:=(cY.same (aw nl)).trans z1;refine⟨_,rfl,l,8,rfl,t1,by decide,by decide,fun b H2 b0 b1 t2 z2=>?_⟩;have x2:=x1.trans z2;refine⟨_,rfl,l,8,rfl,t2,by decide,by decide,fun cc H3 c0 c1 t3 z3=>?_⟩;have x3:=x2.trans z3;refine⟨_,rfl,l,2,rfl,t3,by decide,by decide,fun fr H4 f0 f1 t4 z4=>?_⟩;have x4:=x3.trans z4;clear z1 z2 z3 z4 x1 x2 x3 t1 t2 t3 k;have hb:0<=b/\b<=7:=⟨b0,by omega⟩;have hc:0<=cc/\cc<=7:=⟨c0,by omega⟩;refine⟨_,rfl,_,_,rfl,rfl,_,rfl,?_⟩;refine cK (fun e=>?_) (fun e=>?_)
  ·have e:d<3:=of_decide_eq_true e;refine⟨zle,fun q1 m1=>bZ m1 fun G1 s1 y1=>⟨zle,fun q2 m2=>bZ m2 fun G2 s2 y2=>⟨_,rfl,zle,fun q3 m3=>bZ m3 fun G3 s3 y3=>⟨zle,fun ll ml=>bZ ml fun G4 s4 y4=>?_⟩⟩⟩⟩;have xf:=x4.trans (.same (s1.trans (s2.trans (s3.trans s4))));have e5:d=0\/d=1\/d=2:=by omega
   rcases e5 with rfl | rfl | rfl
   ·exact⟨_,rfl,ll,_,_,.ref q1,rfl,rfl,aR.of y4,at0 _ _,fin _ _ _ xf (tX (by decide) ((s2.trans (s3.trans s4)) _ _ y1)) (Hx (by decide+kernel))⟩
   ·exact⟨_,rfl,ll,_,_,.ref q2,rfl,rfl,aR.of y4,at1 _ _ _,fin _ _ _ xf (tX (by decide) ((s3.trans s4) _ _ y2)) (Hx (by decide+kernel))⟩
   ·exact⟨_,rfl,ll,_,_,.ref q3,rfl,rfl,aR.of y4,at2 _ _ _ _,fin _ _ _ xf (oI (by decide) (s4 _ _ y3)) VJ⟩
  have e:¬d<3:=fun z=>e (decide_eq_true z);refine⟨_,rfl,_,_,rfl,rfl,_,rfl,?_⟩;refine cK (fun e2=>?_) (fun e2=>?_)
  ·have e2:d<8:=of_decide_eq_true e2;refine⟨zle,fun lw mw=>?_⟩;obtain⟨u,hu,hat⟩:=ku ["copy","add","less","load","keep"] d 3 (by omega) (by show d<3+5;omega);refine⟨_,rfl,_,_,rfl,rfl,lw,_,_,.str u,rfl,rfl,aR.of ai,hat,_,rfl,_,rfl,zle,fun q m=>?_⟩;exact fin _ _ _ ((x4.new mw).new m) (eI ((by decide:∀u∈zL9,jT u) u hu) ai) (VF ((by decide+kernel:∀u∈zL9,u∈w2) u hu) hb hc)
  have e2:¬d<8:=fun z=>e2 (decide_eq_true z);refine⟨_,rfl,_,_,rfl,rfl,_,rfl,?_⟩;refine cK (fun e3=>?_) (fun e3=>?_)
  ·have e3:d<13:=of_decide_eq_true e3;refine⟨zle,fun lw mw=>?_⟩;obtain⟨u,hu,hat⟩:=ku ["set","more","see","put","take"] d 8 (by omega) (by show d<8+5;omega);refine⟨_,rfl,_,_,rfl,rfl,lw,_,_,.str u,rfl,rfl,aR.of ai,hat,_,rfl,_,rfl,_,_,rfl,rfl,.inl ⟨by decide,by decide⟩,_,rfl,_,_,rfl,rfl,zle,fun q m=>?_⟩;refine fin _ _ _ ((x4.new mw).new m) (eI ((by decide:∀u∈(["set","more","see","put","take"]:List Str),jT u) u hu) ai) ?_;rcases(by decide+kernel:∀u∈(["set","more","see","put","take"]:List Str),u∈zL2\/u∈zL1) u hu with z | z
   ·exact VE z hb
   ·exact VG z hb (by omega)
  have e3:¬d<13:=fun z=>e3 (decide_eq_true z);refine⟨_,rfl,rfl,_,rfl,?_⟩;refine cK (fun e4=>?_) (fun e4=>?_)
  ·exact⟨_,rfl,zle,fun q m=>fin _ _ _ (x4.new m) (oI (by decide) ai) (VI hb)⟩
  have e4:¬d=13:=fun z=>e4 (decide_eq_true (by rw[z]));refine⟨_,rfl,_,_,rfl,rfl,_,rfl,?_⟩;refine cK (fun e6=>?_) (fun e6=>?_)
  ·have e6:d<17:=of_decide_eq_true e6;refine⟨zle,fun lw mw=>?_⟩;obtain⟨u,hu,hat⟩:=ku ["jump","call","mark"] d 14 (by omega) (by show d<14+3;omega);refine⟨_,rfl,_,_,rfl,rfl,lw,_,_,.str u,rfl,rfl,aR.of ai,hat,_,rfl,_,rfl,l,mm,rfl,t4.new mw,by omega,by omega,fun tg H5 g0 g1 t5 z5=>⟨_,rfl,zle,fun q m=>?_⟩⟩;exact fin _ _ _ (((x4.new mw).trans z5).new m) (eJ hu ai) (Qx hu ⟨g0,g1⟩)
  have e6:¬d<17:=fun z=>e6 (decide_eq_true z);refine⟨_,rfl,_,_,rfl,rfl,_,rfl,?_⟩;refine cK (fun e7=>?_) (fun e7=>?_)
  ·have e7:d<19:=of_decide_eq_true e7;refine⟨zle,fun lw mw=>?_⟩;obtain⟨u,hu,hat⟩:=ku ["zero","below"] d 17 (by omega) (by show d<17+2;omega);refine⟨_,rfl,_,_,rfl,rfl,lw,_,_,.str u,rfl,rfl,aR.of ai,hat,_,rfl,_,rfl,_,rfl,l,mm,rfl,t4.new mw,by omega,by omega,fun tg H5 g0 g1 t5 z5=>⟨_,rfl,zle,fun q m=>?_⟩⟩;exact fin _ _ _ (((x4.new mw).trans z5).new m) (iE hu ai) (VH hu hb ⟨g0,g1⟩)
  clear e e2 e3 e4 e6 e7;refine⟨_,rfl,_,rfl,_,_,rfl,rfl,_,rfl,by omega,by omega,fun D nD=>?_⟩;have gD:=t4.ne nD;have hD0:=x4.free gD nD;refine pq (n:=(1+cc).toNat) (fun i σ ys H8=>∃(v:Option V) (ts:List Int),σ=[v,some (.ref l),some (.int mm)]/\ys=ts.map V.int/\ts.length=i/\cY l H H8/\qG H8 l/\H8 D=some (.lst ys)/\∀t∈ts,0<=t/\t<mm) ?_ ?_ ?_
  ·exact⟨none,[],rfl,rfl,rfl,x4.new nD,t4.new nD,ai,fun t h=>absurd h not_mem_nil⟩
  ·rintro i σ ys H8 hi ⟨v,ts,rfl,rfl,hl,x8,t8,hD,hts⟩;refine⟨_,rfl,_,rfl,l,mm,rfl,t8,by omega,by omega,fun t H9 y0 y1 t9 z9=>⟨z9 _ _ gD hD,bh (by rw[length_map];omega),?_⟩⟩;refine⟨_,ts++ [t],rfl,by rw[map_append];rfl,by rw[length_append,hl];rfl,fun c' o h1 h2=>?_,t9.upd gD,ai,fun t' h'=>?_⟩
   ·rw[az (bt h2 hD0)];exact z9 _ _ h1 (x8 _ _ h1 h2)
   ·rcases mem_append.mp h' with h' | h'
    ·exact hts t' h'
    ·rw[mem_singleton.mp h'];exact⟨y0,y1⟩
  ·rintro σ ys H8 ⟨v,ts,rfl,rfl,hl,x8,t8,hD,hts⟩;refine⟨D,_,rfl,.inl ⟨aR.of hD,fun p np=>⟨zle,fun q m=>?_⟩⟩⟩;exact fin _ _ _ ((x8.new np).new m) (lT (ts:=ts) ai (aw m _ _ ai)) (Qy hb (by omega) hts)
theorem Ee{u:Str}(h:u∈zL4):u∈eT:=(by decide+kernel:∀u∈zL4,u∈eT) u h
theorem zQ{u:Str}(h:u∈zL0):u∈zb:=(by decide+kernel:∀u∈zL0,u∈zb) u h
theorem GF.three{n:Int}{d:FR}(h:GF n d):(∃(u:Str) (t c:Int),u∈zL4/\d=⟨u,[t,c],[t]⟩/\0<=t/\t<n)\/(∃(u:Str) (b t c:Int),u∈zL0/\d=⟨u,[b,t,c],[t]⟩/\(0<=b/\b<=7)/\0<=t/\t<n)\/(∃(b:Int) (ts:List Int),d=⟨"table",[b],ts⟩/\(0<=b/\b<=7)/\(1<=ts.length/\ts.length<=16)/\∀t∈ts,0<=t/\t<n)\/(d.ts=[]/\¬d.u∈cI/\¬d.u ="table"/\∀n',GF n' d):=by
 cases h with
 | jmp h ht=>exact .inl ⟨_,_,_,h,rfl,ht⟩
 | B5 h hb ht=>exact .inr (.inl ⟨_,_,_,_,h,rfl,hb,ht⟩)
 | tab hb hl ht=>exact .inr (.inr (.inl ⟨_,_,rfl,hb,hl,ht⟩))
 | @val u b c h hb=>exact .inr (.inr (.inr ⟨rfl,(by decide+kernel:∀u∈zL2,¬u∈cI) u h,(by decide+kernel:∀u∈zL2,¬u ="table") u h,fun _=>.val h hb⟩))
 | @two u b c h hb hc=>exact .inr (.inr (.inr ⟨rfl,(by decide+kernel:∀u∈w2,¬u∈cI) u h,(by decide+kernel:∀u∈w2,¬u ="table") u h,fun _=>.two h hb hc⟩))
 | @B4 u b c h hb hc=>exact .inr (.inr (.inr ⟨rfl,(by decide+kernel:∀u∈zL1,¬u∈cI) u h,(by decide+kernel:∀u∈zL1,¬u ="table") u h,fun _=>.B4 h hb hc⟩))
 | tell hb=>exact .inr (.inr (.inr ⟨rfl,by show ¬("tell": Str)∈cI;decide+kernel,by show ¬("tell": Str)="table";decide+kernel,fun _=>.tell hb⟩))
 | halt=>exact .inr (.inr (.inr ⟨rfl,by show ¬("halt": Str)∈cI;decide+kernel,by show ¬("halt": Str)="table";decide+kernel,fun _=>.halt⟩))
 | @non u h=>exact .inr (.inr (.inr ⟨rfl,(by decide+kernel:∀u∈zL3,¬u∈cI) u h,(by decide+kernel:∀u∈zL3,¬u ="table") u h,fun _=>.non h⟩))
theorem tY{u:Str}:u∈cI->¬u ="table":=(by decide+kernel:∀u∈cI,¬u ="table") u
inductive QA(vs:List V)(H:Hp)(Q:VK)(E_:XK):Prop
 | mk (q:Addr) (d:FR) (n:Int) (_:vs=[.ref q]) (_:cw H q d) (_:GF n d) (_:∀H1,Same H H1->Q (.int (d7 d)) H1)
theorem VL:aM ["_law_row_here"] ["_law_row_here"] (ao lN):=by walk_at "sc1"
theorem xW{f:Addr}{fd:el}(F:cy K "_law_far" "_law_far" lN f fd)(T:Txt K w.params mg): aN P w K mg base bu 1 f fd ["_law_row_here"] QA:=by
 refine F.ok VL (by walk_at "ln") (fun J4 A outer s H vs Q E hr h=>?_)
 ·obtain⟨q,d,n,rfl,hR,hG,k⟩:=h;obtain⟨items,hq,_⟩:=hR.parts
  refine ck (ak (bj (aE bQ (aH aX (pv 0) aj (fun _ _=>rfl)) (tK (.cons ay (.cons ay (.cons ay (.cons ay (.cons ay .nil)))))) rfl) (au (aq (aC (aH aX (pv 0) (iV fh aj) (fun _ _=>rfl))))) (aU aF))
   (au (aq (aC aj)))) ?_
  refine⟨_,rfl,q,_,0,_,rfl,rfl,bp.of hq,at0 _ _,zle,fun t nt=>⟨t,cI.map V.str,rfl,.inr (bp.of ai),rfl,rfl,_,rfl,?_⟩⟩;have s0:=aw (o:=.tup [V.str "jump",V.str "zero",V.str "below",V.str "call",V.str "mark"]) nt;rw[show inV (.str d.u) (cI.map V.str)=decide (d.u∈cI)from cX _ _];generalize upd H t (.tup [V.str "jump",V.str "zero",V.str "below",V.str "call",V.str "mark"])=G0 at s0 ⊢;refine cK (fun e5=>?_) (fun e5=>?_)
  ·have e5:=of_decide_eq_true e5;obtain⟨hnt,c,r,e1,e2⟩:=hG.far e5;have ht:=hR.nt hnt;have hat:lh (V.str d.u::d.is.map V.int) (-1)=some (.int c):=jR (by rw[e1,map_append,<-List.cons_append,map_cons];exact List.getLast?_concat);exact⟨_,rfl,_,rfl,q,_,-1,_,rfl,rfl,bp.of (s0 _ _ ht),hat,by rw[<-e2];exact k _ s0⟩
  ·have e5:¬d.u∈cI:=fun z=>e5 (decide_eq_true z);unfold d7 at k;rw[if_neg e5]at k;exact k _ s0
def wy(st:List Int)(t:Int):Int:=if t<0 then st.getD (-1-t).toNat 0 else t
inductive QB(vs:List V)(H:Hp)(Q:VK)(E_:XK):Prop
 | mk (t:Int) (ls:Addr) (st:List Int) (_:vs=[.int t,.ref ls]) (_:H ls=some (.lst (st.map V.int))) (_:-t<=(st.length:Int)) (_:Q (.int (wy st t)) H)
theorem VM:aM ["_law_target","_law_stands"] ["_law_target","_law_stands"] (ao i7):=by walk_at "sc1"
theorem tZ{f:Addr}{fd:el}(F:cy K "_law_where" "_law_where" i7 f fd)(T:Txt K w.params mg): aN P w K mg base bu 1 f fd ["_law_target","_law_stands"] QB:=by
 refine F.ok VM (by walk_at "ln") (fun J4 A outer s H vs Q E hr h=>?_)
 ·obtain⟨t,ls,st,rfl,hl,ht,k⟩:=h
  refine ck (ak (bj (aE jz (pv 0) aj (aP _)) (au (aq (aC (aH aO (pv 1) (aS dO (aS dO aj aj) (pv 0)) (fun _ _=>rfl))))) (aU aF))
   (au (aq (aC (pv 0))))) ?_
  refine⟨_,rfl,_,_,rfl,rfl,_,rfl,?_⟩;unfold wy at k;refine cK (fun e=>?_) (fun e=>?_)
  ·have e:t<0:=of_decide_eq_true e;rw[if_pos e]at k;obtain⟨j,hj⟩:=Int.eq_ofNat_of_zero_le (show 0<=0-1-t by omega);have hjl:j<st.length:=by omega
   refine⟨_,rfl,_,_,rfl,rfl,_,rfl,_,_,rfl,rfl,ls,_,_,.int st[j],rfl,rfl,aR.of hl,?_,?_⟩
   ·show lh _ (0-1-t)=_;rw[hj];exact cj (by rw[ag,ac hjl];rfl)
   ·rw[show(-1-t).toNat=j by omega,List.getD_eq_getElem?_getD,ac hjl]at k;exact k
  ·rw[if_neg (fun z=>e (decide_eq_true z))]at k;exact⟨_,rfl,k⟩
theorem t7{d:FR}(h:d.Ok)(e:d.u∈cI):∃t,lh (V.str d.u::d.is.map V.int) (-2)=some (.int t)/\d.ts=[t]:=by
 rcases(by decide+kernel:∀u∈cI,u∈eT\/u∈zb) d.u e with z | z
 ·obtain⟨t,f,e1,e2⟩:=h.2.2.1 z;exact⟨t,by rw[e1];rfl,e2⟩
 ·obtain⟨b,t,f,e1,e2⟩:=h.2.2.2.1 z;exact⟨t,by rw[e1];rfl,e2⟩
inductive Lx(vs:List V)(H:Hp)(Q:VK)(E_:XK):Prop
 | mk (q:Addr) (d:FR) (_:vs=[.ref q]) (_:cw H q d) (_:∀(l:Addr) H',Same H H'->H l=none->H' l=some (.lst (d.ts.map V.int))->Q (.ref l) H')
theorem VN:aM ["_law_row_here"] ["_law_row_here"] (ao gw):=by walk_at "sc1"
theorem qf{f:Addr}{fd:el}(F:cy K "_law_targets" "_law_targets" gw f fd)(T:Txt K w.params mg): aN P w K mg base bu 1 f fd ["_law_row_here"] Lx:=by
 refine F.ok VN (by walk_at "ln") (fun J4 A outer s H vs Q E hr h=>?_)
 ·obtain⟨q,d,rfl,hR,k⟩:=h;obtain⟨items,hq,_⟩:=hR.parts
  refine ck (ak (bj (aE bQ (aH aX (pv 0) aj (fun _ _=>rfl)) (aV (ae ay (ae ay (ae ay (ae ay (ae ay ah)))))) rfl) (au (aq (aC (aY (ae (aH aX (pv 0) (iV fh aj) (fun _ _=>rfl)) ah))))) (aU aF))
   (ak (bj (aE dJ (aH aX (pv 0) aj (fun _ _=>rfl)) ay (aP _)) (au (aq (aC (bq cD (by rfl) T.list dq (ae (aH aX (pv 0) aj (fun _ _=>rfl)) ah))))) (aU aF))
   (au (aq (aC (aY ah)))))) ?_
  refine⟨_,rfl,q,_,0,_,rfl,rfl,bp.of hq,at0 _ _,zle,fun t nt=>bZ nt fun G0 s0 g0=>⟨t,cI.map V.str,rfl,.inr (bp.of g0),rfl,rfl,_,rfl,?_⟩⟩;rw[show inV (.str d.u) (cI.map V.str)=decide (d.u∈cI)from cX _ _];refine cK (fun e=>?_) (fun e=>?_)
  ·have e:=of_decide_eq_true e;have ht:=s0 _ _ (hR.nt (tY e));obtain⟨t1,hat,hts⟩:=t7 hR.1 e;exact⟨_,rfl,_,rfl,q,_,-2,.int t1,rfl,rfl,bp.of ht,hat,zle,fun l nl=>bZ nl fun G1 s1 g1=>k l _ (s0.trans s1) (s0.free nl) (by rw[hts];exact g1)⟩
  ·have e:¬d.u∈cI:=fun z=>e (decide_eq_true z);refine⟨_,rfl,q,_,0,_,rfl,rfl,bp.of (s0 _ _ hq),at0 _ _,rfl,_,rfl,cK (fun e2=>?_) (fun e2=>?_)⟩
   ·have e2:=strEq e2;rcases hR.2 with ⟨_,b,p,e3,e4,e5⟩ | ⟨z,_⟩
    ·exact⟨_,rfl,q,_,2,.ref p,rfl,rfl,bp.of (s0 _ _ e4),at2 _ _ _ _,p,_,rfl,.inr (bp.of (s0 _ _ e5)),fun l nl=>bZ nl fun G1 s1 g1=>k l _ (s0.trans s1) (s0.free nl) g1⟩
    ·exact absurd e2 z
   ·have hts:d.ts=[]:=hR.1.2.2.2.2.1 (vw e2) (fun z=>e ((by decide+kernel:∀u∈eT,u∈cI) _ z)) (fun z=>e ((by decide+kernel:∀u∈zb,u∈cI) _ z));exact⟨zle,fun l nl=>bZ nl fun G1 s1 g1=>k l _ (s0.trans s1) (s0.free nl) (by rw[hts];exact g1)⟩
def dj(ts:List Int)(fr:Int)(d:FR):FR:=if d.u∈eT then ⟨d.u,[ts.getD 0 0,fr],[ts.getD 0 0]⟩else if d.u∈zb then ⟨d.u,[d.is.getD 0 0,ts.getD 0 0,fr],[ts.getD 0 0]⟩else if d.u ="table"then ⟨d.u,d.is,ts⟩else d
inductive Ly(vs:List V)(H:Hp)(Q:VK)(E_:XK):Prop
 | mk (q lt:Addr) (d:FR) (ts:List Int) (v:V) (fr:Int) (_:vs=[.ref q,.ref lt,v]) (_:cw H q d) (_:H lt=some (.lst (ts.map V.int))) (_:d.u∈cI->v=.int fr/\ts≠ []) (_:∀(q':Addr) H',Same H H'->cw H' q' (dj ts fr d)->Q (.ref q') H')
theorem VO:aM ["_law_row_here","_law_targets_here","_law_far_here"] ["_law_row_here","_law_targets_here","_law_far_here"] (ao iA):=by walk_at "sc1"
theorem rh{f:Addr}{fd:el}(F:cy K "_law_turned" "_law_turned" iA f fd)(T:Txt K w.params mg): aN P w K mg base bu 1 f fd ["_law_row_here","_law_targets_here","_law_far_here"] Ly:=by
 refine F.ok VO (by walk_at "ln") (fun J4 A outer s H vs Q E hr h=>?_)
 ·obtain⟨q,lt,d,ts,v,fr,rfl,hR,hl,hv,k⟩:=h;obtain⟨items,hq,_⟩:=hR.parts
  refine ck (ak (bj (aE bQ (aH aX (pv 0) aj (fun _ _=>rfl)) (aV (ae ay (ae ay (ae ay (ae ay (ae ay ah)))))) rfl) (au (aq (aC (aS sM (gN sJ (pv 0) j3 (il (iV fh aj))) (aV (ae (aH aO (pv 1) aj (fun _ _=>rfl)) (ae (pv 2) ah))))))) (aU aF))
   (ak (bj (aE dJ (aH aX (pv 0) aj (fun _ _=>rfl)) ay (aP _)) (au (aq (aC (aS sM (gN sJ (pv 0) j3 (il aj)) (aV (ae (bq eC (by rfl) T.tuple gY (ae (pv 1) ah)) ah)))))) (aU aF))
   (au (aq (aC (pv 0)))))) ?_
  refine⟨_,rfl,q,_,0,_,rfl,rfl,bp.of hq,at0 _ _,zle,fun t nt=>bZ nt fun G0 s0 g0=>⟨t,cI.map V.str,rfl,.inr (bp.of g0),rfl,rfl,_,rfl,?_⟩⟩;rw[show inV (.str d.u) (cI.map V.str)=decide (d.u∈cI)from cX _ _];unfold dj at k;refine cK (fun e=>?_) (fun e=>?_)
  ·have e:=of_decide_eq_true e;have ht:=s0 _ _ (hR.nt (tY e));obtain⟨rfl,hne⟩:=hv e;obtain⟨u,is,ts0⟩:=d;obtain⟨t1,tr,rfl⟩:=List.exists_cons_of_ne_nil hne;rcases(by decide+kernel:∀u∈cI,(u∈eT/\¬u ="table")\/(u∈zb/\¬u∈eT/\¬u ="table")) u e with ⟨z,z3⟩ | ⟨z,z2,z3⟩
   ·obtain⟨t0,f0,rfl,rfl⟩:=hR.1.2.2.1 z;rw[if_pos z]at k;have ep:G0 q=some (.tup [V.str u,V.int t0,V.int f0]):=ht;refine⟨_,rfl,2,rfl,-2,rfl,q,_,rfl,bp.of ep,(fun z=>absurd z.2 (by show ¬(1:Nat)=3;decide)),fun a na=>bZ na fun G1 s1 g1=>?_⟩;have ha:G1 a=some (.tup [V.str u]):=g1;refine⟨_,rfl,lt,_,0,.int t1,rfl,rfl,aR.of (s1 _ _ (s0 _ _ hl)),at0 (V.int t1) (tr.map V.int),_,rfl,zle,fun b nb=>bZ nb fun G2 s2 g2=>?_⟩;refine⟨a,b,[V.str u],_,rfl,rfl,bp.of (s2 _ _ ha),bp.of g2,cons_ne_nil _ _,zle,fun z=>absurd z (cons_ne_nil _ _),fun _ p nq=>bZ nq fun G3 s3 g3=>?_⟩;exact k p G3 (s0.trans (s1.trans (s2.trans s3))) (eJ z g3)
   ·obtain⟨b0,t0,f0,rfl,rfl⟩:=hR.1.2.2.2.1 z;rw[if_neg z2,if_pos z]at k;have ep:G0 q=some (.tup [V.str u,V.int b0,V.int t0,V.int f0]):=ht;refine⟨_,rfl,2,rfl,-2,rfl,q,_,rfl,bp.of ep,(fun z=>absurd z.2 (by show ¬(2:Nat)=4;decide)),fun a na=>bZ na fun G1 s1 g1=>?_⟩;have ha:G1 a=some (.tup [V.str u,V.int b0]):=g1;refine⟨_,rfl,lt,_,0,.int t1,rfl,rfl,aR.of (s1 _ _ (s0 _ _ hl)),at0 (V.int t1) (tr.map V.int),_,rfl,zle,fun b nb=>bZ nb fun G2 s2 g2=>?_⟩;refine⟨a,b,[V.str u,V.int b0],_,rfl,rfl,bp.of (s2 _ _ ha),bp.of g2,cons_ne_nil _ _,zle,fun z=>absurd z (cons_ne_nil _ _),fun _ p nq=>bZ nq fun G3 s3 g3=>?_⟩;exact k p G3 (s0.trans (s1.trans (s2.trans s3))) (iE z g3)
  ·have e:¬d.u∈cI:=fun z=>e (decide_eq_true z);rw[if_neg (fun z=>e ((by decide+kernel:∀u∈eT,u∈cI) _ z)),if_neg (fun z=>e ((by decide+kernel:∀u∈zb,u∈cI) _ z))]at k;refine⟨_,rfl,q,_,0,_,rfl,rfl,bp.of (s0 _ _ hq),at0 _ _,rfl,_,rfl,cK (fun e2=>?_) (fun e2=>?_)⟩
   ·have e2:=strEq e2;rw[if_pos e2]at k;rcases hR.2 with ⟨_,b,p,e3,e4,e5⟩ | ⟨z,_⟩
    ·obtain⟨u,is,ts0⟩:=d;have e3:is=[b]:=e3;have e2:u ="table":=e2;subst e3;subst e2;refine⟨_,rfl,2,rfl,q,_,rfl,bp.of (s0 _ _ e4),(fun z=>absurd z.2 (by show ¬(2:Nat)=3;decide)),fun a na=>bZ na fun G1 s1 g1=>?_⟩;have ha:G1 a=some (.tup [V.str "table",V.int b]):=g1;refine⟨_,rfl,lt,_,rfl,.inl ⟨aR.of (s1 _ _ (s0 _ _ hl)),fun p1 np=>bZ np fun G2 s2 g2=>⟨zle,fun b1 nb=>bZ nb fun G3 s3 g3=>?_⟩⟩⟩;refine⟨a,b1,[V.str "table",V.int b],_,rfl,rfl,bp.of ((s2.trans s3) _ _ ha),bp.of g3,cons_ne_nil _ _,zle,fun z=>absurd z (cons_ne_nil _ _),fun _ p2 nq=>bZ nq fun G4 s4 g4=>?_⟩;exact k p2 G4 (s0.trans (s1.trans (s2.trans (s3.trans s4)))) (lT g4 ((s3.trans s4) _ _ g2))
    ·exact absurd e2 z
   ·rw[if_neg (vw e2)]at k;exact⟨_,rfl,k q _ s0 (hR.same s0)⟩
theorem bY.len{H:Hp}{xs:List V}{ds:List FR}(h:bY H xs ds):xs.length=ds.length:=by obtain⟨qs,rfl,a,_⟩:=h;rw[length_map,a]
theorem bY.get{H:Hp}{xs:List V}{ds:List FR}(h:bY H xs ds){i:Nat}{d:FR}(hd:ds[i]? =some d):∃q,xs[i]? =some (.ref q)/\cw H q d:=by
 obtain⟨qs,rfl,a,b⟩:=h;have hi:i<qs.length:=by have:=(al.mp hd).1;omega
 exact⟨qs[i],by rw[ag,ac hi];rfl,b i _ d (ac hi) hd⟩
theorem bY.snoc{H:Hp}{xs:List V}{ds:List FR}{q:Addr}{d:FR}(h:bY H xs ds)(g:cw H q d):bY H (xs++ [.ref q]) (ds++ [d]):=by
 obtain⟨qs,rfl,a,b⟩:=h;refine⟨qs++ [q],by rw[map_append];rfl,by rw[length_append,length_append,a];rfl,fun i q' d' h1 h2=>?_⟩;by_cases c:i<qs.length
 ·rw[ax c]at h1;rw[ax (by omega)]at h2;exact b i q' d' h1 h2
 ·have:i=qs.length:=by have:=(al.mp h1).1;rw[length_append]at this;simp at this;omega
  subst this;rw[bc (le_refl _),sub_self]at h1;rw[bc (by omega),a,sub_self]at h2;cases h1;cases h2;exact g
theorem bY.QC{H:Hp}{xs:List V}{ds:List FR}{q:Addr}{d:FR}(h:bY H xs ds)(g:cw H q d)(j:Nat):bY H (xs.set j (.ref q)) (ds.set j d):=by
 obtain⟨qs,rfl,a,b⟩:=h;refine⟨qs.set j q,by rw[map_set],by rw[length_set,length_set,a],fun i q' d' h1 h2=>?_⟩;rw[bn]at h1 h2;by_cases c:j=i
 ·rw[if_pos c]at h1 h2;split at h1
  ·rename_i hl;rw[if_pos (by omega)]at h2;cases h1;cases h2;exact g
  ·cases h1
 ·rw[if_neg c]at h1 h2;exact b i q' d' h1 h2
theorem bY.app{H:Hp}{xs ys:List V}{ds es:List FR}(h:bY H xs ds)(g:bY H ys es):bY H (xs++ys) (ds++es):=by
 obtain⟨qs,rfl,a,b⟩:=h;obtain⟨rs,rfl,c,d⟩:=g;refine⟨qs++rs,by rw[map_append],by rw[length_append,length_append,a,c],fun i q e h1 h2=>?_⟩;by_cases z:i<qs.length
 ·rw[ax z]at h1;rw[ax (by omega)]at h2;exact b i q e h1 h2
 ·rw[bc (by omega)]at h1 h2;rw[<-a]at h2;exact d _ q e h1 h2
theorem bY.row{H:Hp}{xs:List V}{ds:List FR}(h:bY H xs ds){i:Nat}{x:V}(hx:xs[i]? =some x):∃q d,x=.ref q/\ds[i]? =some d/\cw H q d:=by obtain⟨qs,rfl,a,b⟩:=h;rw[ag]at hx;obtain⟨q,hq,rfl⟩:=map_eq_some_iff.mp hx;have hi:=(al.mp hq).1;have hd:ds[i]? =some (ds[i]'(by omega)):=ac _;exact⟨q,_,rfl,hd,b i q _ hq hd⟩
theorem di{H:Hp}:bY H [] []:=⟨[],rfl,rfl,fun i q d h=>by simp at h⟩
theorem app1{G:Hp}{lp:Addr}{xs:List V}{ps:List FR}{q:Addr}{d:FR}(h:G lp=some (.lst xs))(r:bY G xs ps)(hq:cw G q d):bY (upd G lp (.lst (xs++ [.ref q]))) (xs++ [.ref q]) (ps++ [d]):=(r.snoc hq).tups (dX.upd h (fun _ z=>nomatch z))
def iG(w b a s:Int):List FR :=
 if w=1 then [⟨"see",[b,999999],[]⟩]
 else if w=2 then [⟨"put",[b,a],[]⟩,⟨"set",[b,7],[]⟩,⟨"more",[b,-9],[]⟩,⟨"take",[b,a],[]⟩]
 else if w=3 then [⟨"zero",[b,s+1,0],[s+1]⟩]
 else if w=4 then [⟨"below",[b,s+2,1],[s+2]⟩,⟨"see",[b,0],[]⟩]
 else if w=5 then [⟨"jump",[s+1,1],[s+1]⟩]
 else if w=6 then [⟨"below",[b,s+2,0],[s+2]⟩,⟨"jump",[s+3,0],[s+3]⟩,⟨"halt",[b],[]⟩]
 else if w=7 then [⟨"zero",[b,s+3,1],[s+3]⟩,⟨"put",[b,a],[]⟩,⟨"take",[b,a],[]⟩]
 else if w=8 then [⟨"below",[b,s+2,0],[s+2]⟩,⟨"halt",[7],[]⟩]
 else []
theorem dG{H:Hp}{q:Addr}{d:FR}{xs:List V}{ds:List FR}(h:cw H q d)(hl:bY H xs ds):bY H (.ref q::xs) (d::ds):=((di (H:=H)).snoc h).app hl
inductive Lz(vs:List V)(H:Hp)(Q:VK)(E_:XK):Prop
 | mk (l:Addr) (s:Int) (_:vs=[.ref l,.int s]) (_:qG H l) (_:∀(w b a:Int) (lp:Addr) (xs:List V) (H':Hp),(0<=b/\b<=7)->(500000<=a/\a<=500008)->cY l H H'->qG H' l->H lp=none->lp≠l->H' lp=some (.lst xs)->bY H' xs (iG w b a s)->Q (.ref lp) H')
theorem Hy:aM ["_law_state","_law_start","_law_way","_law_b","_law_aside"] ["_law_state","_law_start"] (ao iy):=by walk_at "sc1"
theorem rj{f fD:Addr}{fd Ed:el}(F:cy K "_law_put_in" "_law_put_in" iy f fd)(T:Txt K w.params mg)(GD:aN P w K mg base bu 1 fD Ed ["_law_state","_law_base"] kx)(kD:KI K fD)(bD:Binds K Ed ["_law_state","_law_base"] [])(mD:mg "_law_digit"=some (.ref fD)):aN P w K mg base bu 2 f fd ["_law_state","_law_start"] Lz:=by
 refine F.ok Hy (by walk_at "ln") (fun J4 A outer s H vs Q E hr h=>?_)
 ·obtain⟨l,st,rfl,h3,k⟩:=h
  refine ck (ak (aq (aT (i:=2) Hy.nd rfl (Or.inl rfl) (aA GD hr (by rfl) mD kD bD .nil aQ (ae (pv 0) (ae aj ah)))))
   (ak (aq (aT (i:=3) Hy.nd rfl (Or.inl rfl) (aA GD hr (by rfl) mD kD bD .nil aQ (ae (pv 0) (ae aj ah)))))
   (ak (aq (aT (i:=4) Hy.nd rfl (Or.inl rfl) (aS cL aj (aA GD hr (by rfl) mD kD bD .nil aQ (ae (pv 0) (ae aj ah))))))
   (ak (bj (aE dJ (pv 2) aj (aP _)) (au (aq (aC (aY (ae (aV (ae ay (ae (pv 3) (ae aj ah)))) ah))))) (aU aF))
   (ak (bj (aE dJ (pv 2) aj (aP _)) (au (aq (aC (aY (ae (aV (ae ay (ae (pv 3) (ae (pv 4) ah)))) (ae (aV (ae ay (ae (pv 3) (ae aj ah)))) (ae (aV (ae ay (ae (pv 3) (ae (aS dO aj aj) ah)))) (ae (aV (ae ay (ae (pv 3) (ae (pv 4) ah)))) ah)))))))) (aU aF))
   (ak (bj (aE dJ (pv 2) aj (aP _)) (au (aq (aC (aY (ae (aV (ae ay (ae (pv 3) (ae (aS cL (pv 1) aj) (ae aj ah))))) ah))))) (aU aF))
   (ak (bj (aE dJ (pv 2) aj (aP _)) (au (aq (aC (aY (ae (aV (ae ay (ae (pv 3) (ae (aS cL (pv 1) aj) (ae aj ah))))) (ae (aV (ae ay (ae (pv 3) (ae aj ah)))) ah)))))) (aU aF))
   (ak (bj (aE dJ (pv 2) aj (aP _)) (au (aq (aC (aY (ae (aV (ae ay (ae (aS cL (pv 1) aj) (ae aj ah)))) ah))))) (aU aF))
   (ak (bj (aE dJ (pv 2) aj (aP _)) (au (aq (aC (aY (ae (aV (ae ay (ae (pv 3) (ae (aS cL (pv 1) aj) (ae aj ah))))) (ae (aV (ae ay (ae (aS cL (pv 1) aj) (ae aj ah)))) (ae (aV (ae ay (ae (pv 3) ah))) ah))))))) (aU aF))
   (ak (bj (aE dJ (pv 2) aj (aP _)) (au (aq (aC (aY (ae (aV (ae ay (ae (pv 3) (ae (aS cL (pv 1) aj) (ae aj ah))))) (ae (aV (ae ay (ae (pv 3) (ae (pv 4) ah)))) (ae (aV (ae ay (ae (pv 3) (ae (pv 4) ah)))) ah))))))) (aU aF))
   (ak (bj (aE dJ (pv 2) aj (aP _)) (au (aq (aC (aY (ae (aV (ae ay (ae (pv 3) (ae (aS cL (pv 1) aj) (ae aj ah))))) (ae (aV (ae ay (ae aj ah))) ah)))))) (aU aF))
   (au (aq (aC (aY ah))))))))))))))) ?_
  refine⟨_,rfl,l,9,rfl,h3,by decide,by decide,fun d H1 d0 d1 t1 z1=>?_⟩;refine⟨_,rfl,l,8,rfl,t1,by decide,by decide,fun b H2 b0 b1 t2 z2=>?_⟩;refine⟨_,rfl,l,9,rfl,t2,by decide,by decide,fun aa H3 a0 a1 t3 z3=>⟨_,_,rfl,rfl,?_⟩⟩;have x3:=(z1.trans z2).trans z3;have hb:0<=b/\b<=7:=⟨b0,by omega⟩;have ha:500000<=500000+aa/\500000+aa<=500008:=by omega
  have fin:∀(lp:Addr) (xs:List V) (H':Hp),Same H3 H'->H3 lp=none->H' lp=some (.lst xs)->bY H' xs (iG d b (500000+aa) st)->Q (.ref lp) H':=fun lp xs H' s n e hL=>
   have ne:=t3.ne n
   k d b _ lp xs H' hb ha (x3.trans (.same s)) (t3.same s) (x3.free ne n) ne e hL
  clear k z1 z2 z3 t1 t2 x3 h3;show _;unfold iG at fin;refine⟨_,rfl,rfl,_,rfl,?_⟩;refine cK (fun e=>?_) (fun e=>?_)
  ·rw[if_pos (V.int.inj (of_decide_eq_true e))]at fin;refine⟨_,rfl,zle,fun q m=>bZ m fun G1 s1 g1=>⟨zle,fun lp np=>bZ np fun G2 s2 g2=>?_⟩⟩;exact fin lp _ _ (s1.trans s2) (s1.free np) g2 (dG (eI (by decide) (s2 _ _ g1)) di)
  rw[if_neg (fun z=>e (decide_eq_true (by rw[z])))]at fin;clear e;refine⟨_,rfl,rfl,_,rfl,?_⟩;refine cK (fun e=>?_) (fun e=>?_)
  ·rw[if_pos (V.int.inj (of_decide_eq_true e))]at fin;refine⟨_,rfl,_,rfl,zle,fun q0 m0=>bZ m0 fun G0 s0 g0=>⟨_,rfl,zle,fun q1 m1=>bZ m1 fun G1 s1 g1=>⟨_,rfl,_,_,rfl,rfl,zle,fun q2 m2=>bZ m2 fun G2 s2 g2=>⟨_,rfl,_,rfl,zle,fun q3 m3=>bZ m3 fun G3 s3 g3=>⟨zle,fun lp np=>bZ np fun GG ss gg=>?_⟩⟩⟩⟩⟩;exact fin lp _ _ (s0.trans (s1.trans (s2.trans (s3.trans ss)))) ((s0.trans (s1.trans (s2.trans s3))).free np) gg (dG (eI (by decide) ((s1.trans (s2.trans (s3.trans ss))) _ _ g0)) (dG (eI (by decide) ((s2.trans (s3.trans ss)) _ _ g1)) (dG (eI (by decide) ((s3.trans ss) _ _ g2)) (dG (eI (by decide) (ss _ _ g3)) di))))
  rw[if_neg (fun z=>e (decide_eq_true (by rw[z])))]at fin;clear e;refine⟨_,rfl,rfl,_,rfl,?_⟩;refine cK (fun e=>?_) (fun e=>?_)
  ·rw[if_pos (V.int.inj (of_decide_eq_true e))]at fin;refine⟨_,rfl,_,rfl,_,_,rfl,rfl,zle,fun q0 m0=>bZ m0 fun G0 s0 g0=>⟨zle,fun lp np=>bZ np fun GG ss gg=>?_⟩⟩;exact fin lp _ _ (s0.trans ss) (s0.free np) gg (dG (iE (by decide) (ss _ _ g0)) di)
  rw[if_neg (fun z=>e (decide_eq_true (by rw[z])))]at fin;clear e;refine⟨_,rfl,rfl,_,rfl,?_⟩;refine cK (fun e=>?_) (fun e=>?_)
  ·rw[if_pos (V.int.inj (of_decide_eq_true e))]at fin;refine⟨_,rfl,_,rfl,_,_,rfl,rfl,zle,fun q0 m0=>bZ m0 fun G0 s0 g0=>⟨_,rfl,zle,fun q1 m1=>bZ m1 fun G1 s1 g1=>⟨zle,fun lp np=>bZ np fun GG ss gg=>?_⟩⟩⟩;exact fin lp _ _ (s0.trans (s1.trans ss)) ((s0.trans s1).free np) gg (dG (iE (by decide) ((s1.trans ss) _ _ g0)) (dG (eI (by decide) (ss _ _ g1)) di))
  rw[if_neg (fun z=>e (decide_eq_true (by rw[z])))]at fin;clear e;refine⟨_,rfl,rfl,_,rfl,?_⟩;refine cK (fun e=>?_) (fun e=>?_)
  ·rw[if_pos (V.int.inj (of_decide_eq_true e))]at fin;refine⟨_,rfl,_,_,rfl,rfl,zle,fun q0 m0=>bZ m0 fun G0 s0 g0=>⟨zle,fun lp np=>bZ np fun GG ss gg=>?_⟩⟩;exact fin lp _ _ (s0.trans ss) (s0.free np) gg (dG (eJ (by decide) (ss _ _ g0)) di)
  rw[if_neg (fun z=>e (decide_eq_true (by rw[z])))]at fin;clear e;refine⟨_,rfl,rfl,_,rfl,?_⟩;refine cK (fun e=>?_) (fun e=>?_)
  ·rw[if_pos (V.int.inj (of_decide_eq_true e))]at fin;refine⟨_,rfl,_,rfl,_,_,rfl,rfl,zle,fun q0 m0=>bZ m0 fun G0 s0 g0=>⟨_,rfl,_,_,rfl,rfl,zle,fun q1 m1=>bZ m1 fun G1 s1 g1=>⟨_,rfl,zle,fun q2 m2=>bZ m2 fun G2 s2 g2=>⟨zle,fun lp np=>bZ np fun GG ss gg=>?_⟩⟩⟩⟩;exact fin lp _ _ (s0.trans (s1.trans (s2.trans ss))) ((s0.trans (s1.trans s2)).free np) gg (dG (iE (by decide) ((s1.trans (s2.trans ss)) _ _ g0)) (dG (eJ (by decide) ((s2.trans ss) _ _ g1)) (dG (oI (by decide) (ss _ _ g2)) di)))
  rw[if_neg (fun z=>e (decide_eq_true (by rw[z])))]at fin;clear e;refine⟨_,rfl,rfl,_,rfl,?_⟩;refine cK (fun e=>?_) (fun e=>?_)
  ·rw[if_pos (V.int.inj (of_decide_eq_true e))]at fin;refine⟨_,rfl,_,rfl,_,_,rfl,rfl,zle,fun q0 m0=>bZ m0 fun G0 s0 g0=>⟨_,rfl,_,rfl,zle,fun q1 m1=>bZ m1 fun G1 s1 g1=>⟨_,rfl,_,rfl,zle,fun q2 m2=>bZ m2 fun G2 s2 g2=>⟨zle,fun lp np=>bZ np fun GG ss gg=>?_⟩⟩⟩⟩;exact fin lp _ _ (s0.trans (s1.trans (s2.trans ss))) ((s0.trans (s1.trans s2)).free np) gg (dG (iE (by decide) ((s1.trans (s2.trans ss)) _ _ g0)) (dG (eI (by decide) ((s2.trans ss) _ _ g1)) (dG (eI (by decide) (ss _ _ g2)) di)))
  rw[if_neg (fun z=>e (decide_eq_true (by rw[z])))]at fin;clear e;refine⟨_,rfl,rfl,_,rfl,?_⟩;refine cK (fun e=>?_) (fun e=>?_)
  ·rw[if_pos (V.int.inj (of_decide_eq_true e))]at fin;refine⟨_,rfl,_,rfl,_,_,rfl,rfl,zle,fun q0 m0=>bZ m0 fun G0 s0 g0=>⟨zle,fun q1 m1=>bZ m1 fun G1 s1 g1=>⟨zle,fun lp np=>bZ np fun GG ss gg=>?_⟩⟩⟩;exact fin lp _ _ (s0.trans (s1.trans ss)) ((s0.trans s1).free np) gg (dG (iE (by decide) ((s1.trans ss) _ _ g0)) (dG (oI (by decide) (ss _ _ g1)) di))
  rw[if_neg (fun z=>e (decide_eq_true (by rw[z])))]at fin;clear e;exact⟨zle,fun lp np=>bZ np fun GG ss gg=>fin lp _ _ ss np gg di⟩
theorem LA{X:Cx}{a b:Expr}{ta tb:TE}{pos:Pos}{r:R2}(hr:R1 X r)(ha:DO X a ta)(hb:PE X b tb)(hs:yW b):DO X (.Subscript a b pos) (Oe r ta tb):=by unfold DO at ha ⊢;exact aH hr ha hb hs
theorem Hz{X:Cx}{pos:Pos}{tg e:Expr}{te:TE}{g:TG}(he:DO X e te)(hg:PG X tg g)(hs:swapsWithSole [tg] e pos.line X.env=pure false:=by rfl)(hw:swappedStores [tg] e X.env=pure none:=by rfl)
  (h1:(assignEach [tg] X.env).map (·.2)=[assign tg X.env]:=by rfl):Ny X (.Assign [tg] e pos) (Cw te g):=by
 unfold DO at he;unfold Ny;exact e9 he hg hs hw h1
def jb(ds:List FR):Prop:=∀d,ds.getLast? =some d->d.u∈cv
inductive QD(vs:List V)(H:Hp)(Q:VK)(E_:XK):Prop
 | mk (a:Addr) (ns:List Int) (_:vs=[.ref a]) (_:aR K H a (ns.map V.int)) (_:ns.length<=63) (_:∀(l:Addr) (xs:List V) (ds:List FR) (H':Hp),Same H H'->H l=none->H' l=some (.lst xs)->bY H' xs ds->(∀d∈ds,GF (ds.length:Nat) d/\iP d)->jb ds->1<=ds.length->ds.length<=9->Q (.ref l) H')
theorem LB:aM ["_law_script","_law_cells","_law_rows"] ["_law_script"] (ao eG):=by walk_at "sc1"
def LC:Scope:={kind:=.function,names:=[(".0",.local),("_law_cell",.local),("_law_row",.globalImplicit),("len",.globalImplicit),("_law_cells",.free)],isGenerator:=false,isCoroutine:=false,more:=[]}
theorem Ef:cC (ao eG) LC ["_law_script","_law_cells","_law_rows"] ["_law_cell","_law_cells"] [none,some 1]:=by walk_at "sc2"
theorem qg{f fR:Addr}{fd zF:el}(F:cy K "_law_program" "_law_program" eG f fd)(T:Txt K w.params mg)(GR:aN P w K mg base bu 2 fR zF ["_law_cell","_law_many"] Qz)(kR:KI K fR)(bR:Binds K zF ["_law_cell","_law_many"] [])(mR:mg "_law_row"=some (.ref fR)):aN P w K mg base bu 3 f fd ["_law_script"] (QD (K:=K)):=by
 refine F.ok LB (by walk_at "ln") (fun J4 A outer s H vs Q E hr h=>?_)
 ·obtain⟨a,ns,rfl,hS,hn,k⟩:=h
  refine ck (ak (aq (aT (i:=1) LB.nd rfl (Or.inr rfl) (aS gj (gN yX (pv 0) (il aj) (il aj)) (aS oY (aY (ae aj ah)) (bq rQ (by rfl) T.int xH (ae (cT jz (aG aK (by rfl) T.len bV (ae (pv 0) ah)) aj (aP _)) ah))))))
   (ak (aq (oC (i:=2) (N':=["_law_cell","_law_cells"]) (fr:=[none,some 1]) LB.nd rfl rfl Ef rfl (cJ (pv 1)) (fun C s0 H0 fp=>(bg (i:=0) Ef.nd rfl (Or.inl rfl))) (fun C s0 H0 fp=>df) (fun C s0 H0 fp=>(aA GR hr (by rfl) mR kR bR .nil aQ (ae (pv 0) (ae (aG (r:=iW K) aK (by rfl) T.len bV (ae (pv 1) ah)) ah))))))
   (ak (bj (aE ip (aH aX (aH aO (pv 2) (iV fh aj) (fun _ _=>rfl)) aj (fun _ _=>rfl)) (tK (.cons ay (.cons ay (.cons ay (.cons ay .nil))))) rfl) (au (vD (Hz (LA aO (Hg (.cons (aV (ae ay ah)) (.cons (aV (ae ay ah)) (.cons (tK (.cons ay (.cons (aS fc (aH aO (pv 1) (iV fh aj) (fun _ _=>rfl)) (aG aK (by rfl) T.len bV (ae (pv 1) ah))) (.cons aj .nil)))) .nil)))) (aS fc (aS kr (aH aO (pv 1) (iV fh aj) (fun _ _=>rfl)) aj) aj) (fun _ _=>rfl)) (ie (pv 2) (iV fh aj) set_list)))) (aU aF))
   (au (aq (aC (pv 2))))))) ?_
  refine⟨_,rfl,2,rfl,11,rfl,a,_,rfl,hS,fun l1 n1=>?_⟩;obtain⟨ms,hms,hml⟩:∃ms:List Int,qK (ns.map V.int) (some 2) (some 11)=ms.map V.int/\ms.length=min 11 ns.length-min 2 ns.length:=by unfold qK;have h1:HT.d9 (ns.map V.int).length 0 (some 2)=min 2 (ns.map V.int).length:=HT.yR ..;have h2:HT.d9 (ns.map V.int).length (ns.map V.int).length (some 11)=min 11 (ns.map V.int).length:=HT.yR ..;rw[h1,h2];refine⟨_,by rw[<-map_drop,<-map_take],?_⟩;simp;omega
  rw[hms];refine bZ n1 fun G1 s1 g1=>?_;refine⟨zle,fun l2 n2=>bZ n2 fun G2 s2 g2=>?_⟩;refine⟨_,rfl,a,_,rfl,.inl (hS.imp (fun z=>z.imp ((s1.trans s2) _ _) (fun y=>y.imp fun _ x=>(s1.trans s2) _ _ x)) id),_,_,rfl,rfl,.inr ⟨_,rfl,l2,_,_,rfl,rfl,g2,by split<;>decide,by split<;>decide,by split<;>exact zle,fun l3 n3=>?_⟩⟩;obtain⟨cs,hcs,hc1,hc9⟩:∃cs:List Int,ms.map V.int++(replicate (if decide (((ns.map V.int).length:Int)<3)=true then 1 else 0:Int).toNat [V.int 9]).flatten=cs.map V.int/\1<=cs.length/\cs.length<=9:=by
   rw[length_map];by_cases c:(ns.length:Int)<3
   ·rw[decide_eq_true c];refine⟨ms++ [9],by rw[map_append];rfl,?_,?_⟩<;>rw[length_append]<;>simp<;>omega
   ·rw[decide_eq_false c];exact⟨ms,append_nil _,by omega,by omega⟩
  refine bZ n3 fun G3 s3 g3=>⟨l1,l3,_,_,rfl,rfl,(s2.trans s3) _ _ g1,g3,?_,fun l4 n4=>?_⟩
  ·rw[<-length_append,hcs,length_map];exact le_trans hc9 (zle)
  rw[hcs];have ZE:Same H G3:=s1.trans (s2.trans s3);clear hcs hms hml g1 g2 g3;refine bZ n4 fun G4 s4 g4=>?_;have S4:=ZE.trans s4;clear ZE s1 s2 s3 s4;refine⟨_,rfl,l4,rfl,⟨_,aR.of g4⟩,fun D nD=>cO (K:=K) (xs:=cs.map V.int) (fun i σ ys G=>∃(v:Option V) (ds:List FR),σ=[v,some (.ref l4)]/\bY G ys ds/\ds.length=i/\(∀d∈ds,GF (cs.length:Int) d/\iP d)/\Same G4 G/\G D=some (.lst ys)) ?_ ?_ ?_ ?_⟩
  ·exact⟨none,[],rfl,di,rfl,fun d hd=>absurd hd not_mem_nil,aw nD,ai⟩
  ·rintro i σ ys G _ ⟨v,ds,rfl,_,_,_,s1,_⟩;exact aR.of (s1 _ _ g4)
  ·rintro i x σ ys G hx ⟨v,ds,rfl,hL,hl,hG,s1,hD⟩;rw[ag]at hx;obtain⟨c,hc,rfl⟩:=map_eq_some_iff.mp hx;have hi:=(al.mp hc).1;refine⟨_,rfl,_,rfl,l4,_,rfl,.inl (aR.of (s1 _ _ g4)),c,((cs.map V.int).length:Int),rfl,by rw[length_map];omega,by rw[length_map];omega,fun q d G1 s2 hR hg=>?_⟩;rw[length_map]at hg;have hyl:=hL.len;refine⟨s2 _ _ hD,bh (by omega),_,ds++ [d],rfl,app1 (s2 _ _ hD) (hL.tups (.of s2)) hR,by rw[length_append,hl];rfl,fun e he=>?_,aZ (s1.trans s2) nD,ai⟩;rcases mem_append.mp he with z | z
   ·exact hG e z
   ·rw[mem_singleton.mp z];exact hg
  rintro σ ys G ⟨v,ds,rfl,hL,hl,hG,s1,hD⟩;rw[length_map]at hl;rw[<-hl]at hG hc1 hc9;have S:=S4.trans s1;have hyl:=hL.len;have LD:=S4.free nD;have LG:ds[ds.length-1]? =some (ds[ds.length-1]'(by omega)):=ac _;generalize (ds[ds.length-1]'(by omega))=dl at LG;obtain⟨q,VP,hvl⟩:=hL.get LG;have hat:∀{zs:List V} {y:V},zs.length=ds.length->zs[ds.length-1]? =some y->lh zs (-1)=some y:=fun {zs} {y} hl hy=>by unfold lh uY;rw[if_neg (by decide),if_pos (by omega)];show zs[((-1:Int)+(zs.length:Int)).toNat]? =_;rw[show((-1:Int)+(zs.length:Int)).toNat=ds.length-1 by omega];exact hy
  obtain⟨zs,hqG,_⟩:=hvl.parts;refine⟨_,rfl,_,rfl,D,_,_,.ref q,rfl,rfl,aR.of hD,hat hyl VP,q,_,0,_,rfl,rfl,bp.of hqG,at0 _ _,zle,fun te VQ=>bZ VQ fun G5 s5 g5=>?_⟩;refine⟨te,cv.map V.str,rfl,.inr (bp.of g5),rfl,rfl,_,rfl,?_⟩;rw[show inV (.str dl.u) (cv.map V.str)=decide (dl.u∈cv)from cX _ _];have ZF:=hL.tups (.of s5);refine cK (fun e=>?_) (fun e=>?_);rotate_left
  ·refine⟨_,rfl,k D ys ds G5 (S.trans s5) LD (s5 _ _ hD) ZF hG (fun d hd=>?_) hc1 hc9⟩;rw[List.getLast?_eq_getElem?,LG]at hd;cases hd;by_cases c:dl.u∈cv
   ·exact c
   ·exact absurd (by rw[decide_eq_false c];rfl) e
  refine⟨zle,fun ta na=>bZ na fun G6 s6 g6=>⟨zle,fun tb nb=>bZ nb fun G7 s7 g7=>?_⟩⟩;obtain⟨cl,hcl⟩:∃c,cs[ds.length-1]? =some c:=⟨_,ac (by omega)⟩;have hcm:(cs.map V.int)[ds.length-1]? =some (.int cl):=by rw[ag,hcl];rfl
  have QE:=hat (by rw[length_map,hl]) hcm;have VR:=(s1.trans (s5.trans (s6.trans s7))) _ _ g4;have htg:0<=cl % (ds.length:Int)/\cl % (ds.length:Int)< (ds.length:Int):=⟨Int.emod_nonneg _ (by omega),Int.emod_lt_of_pos _ (by omega)⟩;refine⟨_,rfl,_,rfl,l4,_,_,_,rfl,rfl,aR.of VR,QE,_,rfl,l4,_,rfl,.inl (aR.of VR),_,_,rfl,rfl,(by show(0:Int)< ((cs.map V.int).length:Int);rw[length_map];omega),zle,fun tc nc=>?_⟩;rw[length_map,<-hl];refine bZ nc fun G8 s8 g8=>⟨zle,fun ld nl=>bZ nl fun G9 s9 g9=>?_⟩;have S9:=S.trans (s5.trans (s6.trans (s7.trans (s8.trans s9))));have L9:=ZF.tups (.of (s6.trans (s7.trans (s8.trans s9))));have Fw:=(s5.trans (s6.trans (s7.trans (s8.trans s9)))) _ _ hD;have hk:∃(c:Nat) (t:Addr) (d:FR),cl/64 % 3=(c:Int)/\([V.ref ta,.ref tb,.ref tc]:List V)[c]? =some (.ref t)/\cw G9 t d/\(GF (ds.length:Nat) d/\iP d)/\d.u∈cv:=by
   have h0:0<=cl/64 % 3:=Int.emod_nonneg _ (by decide);have h1:cl/64 % 3<3:=Int.emod_lt_of_pos _ (by decide);obtain⟨c,hc⟩:=Int.eq_ofNat_of_zero_le h0
   match c,(show c<3 by omega)with
   | 0,_=>exact⟨0,ta,⟨"stop",[],[]⟩,hc,rfl,tX (by decide) ((s7.trans (s8.trans s9)) _ _ g6),Hx (by decide+kernel),by decide+kernel⟩
   | 1,_=>exact⟨1,tb,⟨"back",[],[]⟩,hc,rfl,tX (by decide) ((s8.trans s9) _ _ g7),Hx (by decide+kernel),by decide+kernel⟩
   | 2,_=>exact⟨2,tc,_,hc,rfl,eJ (by decide) (s9 _ _ g8),Qx (by decide) htg,by show("jump": Str)∈cv;decide+kernel⟩
  obtain⟨c,t,d,hck,hpk,hpd,hpg,hpe⟩:=hk;have g4D:G9 l4=_:=(s8.trans s9) _ _ VR;refine⟨_,rfl,_,rfl,l4,_,_,_,rfl,rfl,aR.of g4D,QE,_,_,rfl,rfl,⟨by show(0:Int)<64;decide,by show(64:Int)<_;decide⟩,_,_,rfl,rfl,UI,ld,_,_,.ref t,rfl,rfl,aR.of g9,?_,?_⟩
  ·show lh _ (cl/64 % 3)=_;rw[hck];exact cj hpk
  refine⟨_,rfl,_,rfl,D,_,_,ds.length-1,rfl,rfl,Fw,?_,?_⟩
  ·show uY ys.length (-1)=_;unfold uY;rw[if_neg (by decide),if_pos (by omega)];congr 1;omega
  refine⟨_,rfl,k D (ys.set (ds.length-1) (.ref t)) (ds.set (ds.length-1) d) _ (aZ S9 LD) LD ai ((L9.QC hpd _).tups (.upd Fw (fun _ z=>nomatch z))) ?_ (fun e he=>?_) (by rw[length_set];exact hc1) (by rw[length_set];exact hc9)⟩
  ·intro e he;rw[length_set];rcases List.mem_or_eq_of_mem_set he with z | z
   ·exact hG e z
   ·rw[z];exact hpg
  ·rw[List.getLast?_eq_getElem?,length_set,bn,if_pos rfl,if_pos (by omega)]at he;cases he;exact hpe
def ct(ds:List FR)(ld:List (Option Int)):Nat->List Nat->(Int->Bool)->Option (Option Int)
 | 0,_,_=>none
 | f+1,ws,gn=>match ws.getLast? with
  | none=>some none
  | some n=>match ld[n]? with
   | some (some r)=>some (some r)
   | some none=>if gn n=true then ct ds ld f ws.dropLast gn else match ds[n]? with
    | some d=>ct ds ld f (ws.dropLast++(nxt d n).map Int.toNat) (gC gn n true)
    | none=>none
   | none=>none
def nV(n:Nat):V:=.int (n:Int)
inductive QF(vs:List V)(H:Hp)(Q:VK)(E_:XK):Prop
 | mk (l1 ll:Addr) (ds:List FR) (ld:List (Option Int)) (st:Nat) (fu:Nat) (M:Int) (r:Option Int) (_:vs=[.ref l1,.ref ll,.int (st:Int)]) (_:cm H l1 ds) (_:H ll=some (.lst (ld.map oV))) (_:∀d∈ds,GF M d) (_:fu<=1000) (_:ct ds ld fu [st] (fun _=>false)=some r) (_:∀H',Same H H'->Q (oV r) H')
theorem HA:aM ["new","leads","start","waiting","gone","n"] ["new","leads","start"] (ao jM):=by walk_at "sc1"
theorem vK{f fN:Addr}{fd pT:el}(F:cy K "comes_to" "comes_to" jM f fd)(T:Txt K w.params mg)(GN:aN P w K mg base bu 2 fN pT ["new","n"] KA)(kN:KI K fN)(bN:Binds K pT ["new","n"] [])(mN:mg "next_rows"=some (.ref fN)):aN P w K mg base bu 3 f fd ["new","leads","start"] QF:=by
 refine F.ok HA (by walk_at "ln") (fun J4 A outer s H vs Q E hr h=>?_)
 ·obtain⟨l1,ll,ds,ld,st,fu,M,r,rfl,hR,hl,hG,hfu,hct,k⟩:=h;have hu:=iM hr
  refine ck (ak (aq (aT (i:=3) HA.nd rfl (Or.inl rfl) (aY (ae (pv 2) ah))))
   (ak (aq (aT (i:=4) HA.nd rfl (Or.inl rfl) gS))
   (ak (aq (oO PassesOwn.never (aE rO (aG aK (by rfl) T.len bV (ae (pv 3) ah)) aj (aP _)) (aL (aT (i:=5) HA.nd rfl (Or.inl rfl) (wU ge PySem.F.slot_list_pop PySem.F.type_list_pop CL (pv 3)))
   (aL (cS (aE ik (aH aO (pv 1) (pv 5) (fun _ _=>rfl)) dM (aP _)) (aJ (aC (aH aO (pv 1) (pv 5) (fun _ _=>rfl)))) aF)
   (aJ (cS (wz (lC hu (pv 5) (pv 4))) (aL (iq hu (pv 4) (pv 5) dI rfl)
   (aJ (dy (iX ge PySem.F.slot_list_extend PySem.F.type_list_extend jl (pv 3) (ae (aA GN hr (by rfl) mN kN bN .nil aQ (ae (pv 0) (ae (pv 5) ah))) ah))))) aF))))))
   (au (aq (aC dM)))))) ?_
  refine⟨_,rfl,zle,fun lw nw=>bZ nw fun G1 s1 g1=>fun pg np=>bZ np fun G2 s2 g2=>?_⟩;have n2:=s1.free np;have s12:=s1.trans s2;have VT:lw≠pg:=fun z=>by rw[z,np]at g1;cases g1
  refine⟨fun m σ G=>∃(ws:List Nat) (gn:Int->Bool) (kv:List (Key×V)) (v:Option V),σ=[some (.ref l1),some (.ref ll),some (.int (st:Int)),some (.ref lw),some (.ref pg),v]/\ct ds ld m ws gn=some r/\Same H G/\G lw=some (.lst (ws.map nV))/\G pg=some (.dK kv)/\(∀j:Int,(cM kv (Sum.inl j)).isSome=gn j)/\kv.length+m<=fu/\ws.length+17*m<=1+17*fu,⟨fu,[st],fun _=>false,[],none,rfl,hct,s12,s2 _ _ g1,g2,fun _=>rfl,le_of_eq (Nat.zero_add _),le_refl _⟩,?_⟩;rintro m σ G ⟨ws,gn,kv,v,rfl,hc,s3,hw,hp,hv,hk,hwl⟩;cases m with
  | zero=>cases hc
  | succ m=>
  unfold ct at hc;refine⟨_,rfl,lw,_,rfl,.inl (aR.of hw),_,_,rfl,rfl,_,rfl,?_⟩;cases i9:ws.getLast? with
  | none=>
   have hws:ws=[]:=List.getLast?_eq_none_iff.mp i9;rw[i9]at hc;cases hc;refine bU (fun z=>?_) (k G s3);have:=of_decide_eq_true z;rw[hws]at this;simp at this
  | some n=>
   rw[i9]at hc;dsimp only at hc;obtain⟨us,rfl⟩:∃us,ws=us++ [n]:=List.getLast?_eq_some_iff.mp i9;rw[length_append,List.length_singleton]at hwl;rw[List.dropLast_concat]at hc;refine c6 (by rw[length_map,length_append];simp) ?_;refine⟨fun σ G=>∃(ws:List Nat) (gn:Int->Bool) (kv:List (Key×V)) (v:Option V),σ=[some (.ref l1),some (.ref ll),some (.int (st:Int)),some (.ref lw),some (.ref pg),v]/\ct ds ld m ws gn=some r/\Same H G/\G lw=some (.lst (ws.map nV))/\G pg=some (.dK kv)/\(∀j:Int,(cM kv (Sum.inl j)).isSome=gn j)/\kv.length+m<=fu/\ws.length+17*m<=1+17*fu,fun σ G h=>⟨m,by omega,h⟩,?_⟩;refine⟨_,rfl,.inl ⟨rfl,_,aR.of hw⟩,lw,_,nV n,rfl,rfl,hw,by rw[<-List.getLast?_eq_getElem?,map_append];exact List.getLast?_concat,?_⟩;have s4:Same H (upd G lw (.lst ((us++ [n]).map nV).dropLast)):=aZ s3 nw;have Bl:upd G lw (.lst ((us++ [n]).map nV).dropLast) lw=some (.lst (us.map nV)):=by rw[ai,map_append];show some (HO.lst (_++ [nV n]).dropLast)=_;rw[List.dropLast_concat]
   have Ce:upd G lw (.lst ((us++ [n]).map nV).dropLast) pg=some (.dK kv):=by rw[az VT.symm];exact hp
   generalize upd G lw (.lst ((us++ [n]).map nV).dropLast)=G4 at s4 Bl Ce ⊢;cases NM:ld[n]? with
   | none=>rw[NM]at hc;cases hc
   | some a=>
   rw[NM]at hc;have hat:lh (ld.map oV) (n:Int)=some (oV a):=cj (by rw[ag,NM];rfl);refine⟨_,rfl,_,rfl,ll,_,_,_,rfl,rfl,aR.of (s4 _ _ hl),hat,rfl,_,rfl,?_⟩;cases a with
   | some r0=>
    cases hc;exact c6 (by simp[oV]) ⟨_,rfl,_,rfl,ll,_,_,_,rfl,rfl,aR.of (s4 _ _ hl),hat,k _ s4⟩
   | none=>
   dsimp only at hc;refine bU (by decide) ?_;refine⟨_,rfl,_,rfl,pg,_,rfl,dP.k (k:=Sum.inl (n:Int)) Ce,_,rfl,?_⟩;rw[hv];by_cases c:gn n=true
   ·rw[if_pos c]at hc;rw[c];exact bU (by decide) ⟨us,gn,kv,_,rfl,hc,s4,Bl,Ce,hv,by omega,by omega⟩
   ·rw[if_neg c]at hc;refine c6 (by simp[c]) ?_;cases hd:ds[n]? with
    | none=>rw[hd]at hc;cases hc
    | some d=>
    rw[hd]at hc;dsimp only at hc;refine⟨_,rfl,_,rfl,pg,_,rfl,lA.k (k:=Sum.inl (n:Int)) Ce (bh (by omega)),?_⟩;have s5:=aZ (o:=.dK (putK kv (Sum.inl (n:Int)) (.bl true))) s4 n2;have Jh:=(az (H:=G4) (o:=.dK (putK kv (Sum.inl (n:Int)) (.bl true))) VT).trans Bl;have ZG:upd G4 pg (.dK (putK kv (Sum.inl (n:Int)) (.bl true))) pg=_:=ai;generalize upd G4 pg (.dK (putK kv (Sum.inl (n:Int)) (.bl true)))=G5 at s5 Jh ZG ⊢;have hgd:=hG d (am hd);refine⟨_,rfl,.inl ⟨rfl,_,aR.of Jh⟩,_,rfl,_,rfl,l1,ds,n,d,rfl,hR.same s5,hd,hgd.ts.1,fun l G6 s6 nl Fv=>?_⟩;have hnx:∀t∈nxt d n,0<=t:=fun t ht=>by
     unfold nxt at ht;rcases mem_append.mp ht with z | z
     ·exact(hgd.ts.2 t z).1
     ·split at z
      ·cases z
      ·rw[mem_singleton.mp z];omega
    have hnl:(nxt d n).length<=17:=by unfold nxt;have:=hgd.ts.1;rw[length_append];split<;>simp<;>omega
    have ee:(nxt d n).map V.int=((nxt d n).map Int.toNat).map nV:=by rw[map_map];exact map_congr_left fun t ht=>by show V.int t=V.int (t.toNat:Int);rw[Int.toNat_of_nonneg (hnx t ht)]
    rw[ee]at Fv;refine⟨lw,l,_,_,rfl,rfl,s6 _ _ Jh,Fv,?_,?_⟩
    ·rw[length_map,length_map,length_map];exact le_trans (show us.length+(nxt d n).length<=18000 by omega) (zle)
    refine⟨us++(nxt d n).map Int.toNat,gC gn n true,_,_,rfl,hc,aZ (s5.trans s6) nw,by rw[ai,map_append],(az VT.symm).trans (s6 _ _ ZG),fun j=>?_,?_,?_⟩
    ·rw[gQ];unfold gC;by_cases e:j=n
     ·rw[e,if_pos rfl,if_pos rfl];rfl
     ·rw[if_neg (fun z=>e (Sum.inl.inj z)),if_neg e,hv]
    ·have:=cU kv (Sum.inl (n:Int)) (.bl true);omega
    ·rw[length_append,length_map];omega
inductive QG(vs:List V)(H:Hp)(Q:VK)(E_:XK):Prop
 | mk (l1 ll:Addr) (ds:List FR) (ld:List (Option Int)) (st:Nat) (fu:Nat) (M:Int) (r:Int) (_:vs=[.ref l1,.ref ll,.int (st:Int)]) (_:cm H l1 ds) (_:H ll=some (.lst (ld.map oV))) (_:∀d∈ds,GF M d) (_:fu<=1000) (_:ct ds ld fu [st] (fun _=>false)=some (some r)) (_:∀H',Same H H'->Q (.int r) H')
theorem QH:aM ["new","leads","target","r"] ["new","leads","target"] (ao iz):=by walk_at "sc1"
theorem rm{f fC:Addr}{fd IV:el}(F:cy K "old_target" "old_target" iz f fd)(T:Txt K w.params mg)(GC:aN P w K mg base bu 3 fC IV ["new","leads","start"] QF)(kC:KI K fC)(bC:Binds K IV ["new","leads","start"] [])(mC:mg "comes_to"=some (.ref fC)):aN P w K mg base bu 4 f fd ["new","leads","target"] QG:=by
 refine F.ok QH (by walk_at "ln") (fun J4 A outer s H vs Q E hr h=>?_)
 ·obtain⟨l1,ll,ds,ld,st,fu,M,r,rfl,hR,hl,hG,hfu,hct,k⟩:=h
  refine ck (ak (aq (aT (i:=3) QH.nd rfl (Or.inl rfl) (aA GC hr (by rfl) mC kC bC .nil aQ (ae (pv 0) (ae (pv 1) (ae (pv 2) ah))))))
   (au (aq (aC (iT (aE sF (pv 3) dM (aP _)) aj (pv 3)))))) ?_
  refine⟨_,rfl,_,rfl,_,rfl,l1,ll,ds,ld,st,fu,M,some r,rfl,hR,hl,hG,hfu,hct,fun H1 s1=>?_⟩;refine⟨_,rfl,rfl,_,rfl,bU (by simp[oV]) ⟨_,rfl,k H1 s1⟩⟩
theorem oK(a b:List Int)(f g:Int)(d:FR):dj a f (dj b g d)=dj a f d:=by
 unfold dj;by_cases c:d.u∈eT
 ·simp only[if_pos c]
 ·by_cases c2:d.u∈zb
  ·simp only[if_neg c,if_pos c2];rfl
  ·by_cases c3:d.u ="table"
   ·simp only[if_neg c,if_neg c2,if_pos c3]
   ·simp only[if_neg c,if_neg c2,if_neg c3]
theorem LH(b:List Int)(f g:Int)(d:FR):dj (dj b g d).ts f d=dj b f d:=by
 unfold dj;by_cases c:d.u∈eT
 ·simp only[if_pos c];rfl
 ·by_cases c2:d.u∈zb
  ·simp only[if_neg c,if_pos c2];rfl
  ·by_cases c3:d.u ="table"
   ·simp only[if_neg c,if_neg c2,if_pos c3]
   ·simp only[if_neg c,if_neg c2,if_neg c3]
theorem VU{u:Str}(h:¬u∈cI):¬u∈eT/\¬u∈zb:=⟨fun z=>h ((by decide+kernel:∀u∈eT,u∈cI) _ z),fun z=>h ((by decide+kernel:∀u∈zb,u∈cI) _ z)⟩
theorem ky{d:FR}(h:d.Ok):dj d.ts (d7 d) d=d:=by
 unfold dj;obtain⟨u,is,ts⟩:=d;by_cases c:u∈eT
 ·obtain⟨t,f,rfl,rfl⟩:=h.2.2.1 c;have:d7 ⟨u,[t,f],[t]⟩=f:=if_pos ((by decide+kernel:∀u∈eT,u∈cI) u c);rw[if_pos c,this];rfl
 ·by_cases c2:u∈zb
  ·obtain⟨b,t,f,rfl,rfl⟩:=h.2.2.2.1 c2;have:d7 ⟨u,[b,t,f],[t]⟩=f:=if_pos ((by decide+kernel:∀u∈zb,u∈cI) u c2);rw[if_neg c,if_pos c2,this];rfl
  ·rw[if_neg c,if_neg c2];split<;>rfl
inductive QI(vs:List V)(H:Hp)(Q:VK)(E_:XK):Prop
 | mk (q lt:Addr) (d:FR) (ts:List Int) (_:vs=[.ref q,.ref lt]) (_:cw H q d) (_:H lt=some (.lst (ts.map V.int))) (_:d.u∈cI->ts≠ []) (_:∀(q':Addr) H',Same H H'->cw H' q' (dj ts (d7 d) d)->Q (.ref q') H')
theorem QJ:aM ["row","targets","word"] ["row","targets"] (ao fJ):=by walk_at "sc1"
theorem nG{f:Addr}{fd:el}(F:cy K "with_targets" "with_targets" fJ f fd)(T:Txt K w.params mg): aN P w K mg base bu 1 f fd ["row","targets"] QI:=by
 refine F.ok QJ (by walk_at "ln") (fun J4 A outer s H vs Q E hr h=>?_)
 ·obtain⟨q,lt,d,ts,rfl,hR,hl,hne,k⟩:=h;obtain⟨items,hq,_⟩:=hR.parts
  refine ck (ak (aq (aT (i:=2) QJ.nd rfl (Or.inl rfl) (aH aX (pv 0) aj (fun _ _=>rfl))))
   (ak (bj (aE dJ (pv 2) ay (aP _)) (au (aq (aC (aV (ae (pv 2) (ae (aH aX (pv 0) aj (fun _ _=>rfl)) (ae (bq eC (by rfl) T.tuple gY (ae (pv 1) ah)) ah))))))) (aU aF))
   (ak (bj (aE bQ (pv 2) (aV (ae ay (ae ay (ae ay ah)))) rfl) (au (aq (aC (aV (ae (pv 2) (ae (aH aO (pv 1) aj (fun _ _=>rfl)) (ae (aH aX (pv 0) aj (fun _ _=>rfl)) ah))))))) (aU aF))
   (ak (bj (aE bQ (pv 2) (aV (ae ay (ae ay ah))) rfl) (au (aq (aC (aV (ae (pv 2) (ae (aH aX (pv 0) aj (fun _ _=>rfl)) (ae (aH aO (pv 1) aj (fun _ _=>rfl)) (ae (aH aX (pv 0) aj (fun _ _=>rfl)) ah)))))))) (aU aF))
   (au (aq (aC (pv 0)))))))) ?_
  refine⟨_,rfl,q,_,0,_,rfl,rfl,bp.of hq,at0 _ _,_,rfl,rfl,_,rfl,?_⟩;obtain⟨u,is,ts0⟩:=d;unfold dj at k;refine cK (fun e=>?_) (fun e=>?_)
  ·have e:u ="table":=strEq e;subst e;rcases hR.2 with ⟨_,b,p,e3,e4,e5⟩ | ⟨z,_⟩
   ·have e3:is=[b]:=e3;subst e3;refine⟨_,rfl,_,rfl,q,_,1,.int b,rfl,rfl,bp.of e4,at1 _ _ _,_,rfl,lt,_,rfl,.inl ⟨aR.of hl,fun p1 np=>bZ np fun G2 s2 g2=>⟨zle,fun q1 nq=>bZ nq fun G3 s3 g3=>?_⟩⟩⟩;exact k q1 G3 (s2.trans s3) (lT g3 (s3 _ _ g2))
   ·exact absurd rfl z
  have e:¬u ="table":=vw e;have ht:H q=some (.tup (.str u::is.map V.int)):=hR.nt e;refine⟨_,rfl,zle,fun t1 n1=>bZ n1 fun G1 s1 g1=>⟨t1,eT.map V.str,rfl,.inr (bp.of g1),rfl,rfl,_,rfl,?_⟩⟩;rw[show inV (.str u) (eT.map V.str)=decide (u∈eT)from cX _ _];refine cK (fun e2=>?_) (fun e2=>?_)
  ·have e2:u∈eT:=of_decide_eq_true e2;have e5:=(by decide+kernel:∀u∈eT,u∈cI) u e2;obtain⟨t0,f0,rfl,rfl⟩:=hR.1.2.2.1 e2;obtain⟨t2,tr,rfl⟩:=List.exists_cons_of_ne_nil (hne e5);rw[if_pos e2,show d7 ⟨u,[t0,f0],[t0]⟩=f0 from if_pos e5]at k;refine⟨_,rfl,_,rfl,lt,_,0,.int t2,rfl,rfl,aR.of (s1 _ _ hl),at0 (V.int t2) (tr.map V.int),_,rfl,q,_,2,.int f0,rfl,rfl,bp.of (s1 _ _ ht),at2 _ _ _ _,zle,fun q1 nq=>bZ nq fun G3 s3 g3=>?_⟩;exact k q1 G3 (s1.trans s3) (eJ e2 g3)
  have e2:¬u∈eT:=fun z=>e2 (decide_eq_true z);refine⟨_,rfl,zle,fun t3 n3=>bZ n3 fun G2 s2 g2=>⟨t3,zb.map V.str,rfl,.inr (bp.of g2),rfl,rfl,_,rfl,?_⟩⟩;rw[show inV (.str u) (zb.map V.str)=decide (u∈zb)from cX _ _];refine cK (fun e3=>?_) (fun e3=>?_)
  ·have e3:u∈zb:=of_decide_eq_true e3;have e5:=(by decide+kernel:∀u∈zb,u∈cI) u e3;obtain⟨b0,t0,f0,rfl,rfl⟩:=hR.1.2.2.2.1 e3;obtain⟨t2,tr,rfl⟩:=List.exists_cons_of_ne_nil (hne e5);rw[if_neg e2,if_pos e3,show d7 ⟨u,[b0,t0,f0],[t0]⟩=f0 from if_pos e5]at k;have hq2:=(s1.trans s2) _ _ ht;refine⟨_,rfl,_,rfl,q,_,1,.int b0,rfl,rfl,bp.of hq2,at1 _ _ _,_,rfl,lt,_,0,.int t2,rfl,rfl,aR.of ((s1.trans s2) _ _ hl),at0 (V.int t2) (tr.map V.int),_,rfl,q,_,3,.int f0,rfl,rfl,bp.of hq2,rfl,zle,fun q1 nq=>bZ nq fun G3 s3 g3=>?_⟩;exact k q1 G3 (s1.trans (s2.trans s3)) (iE e3 g3)
  have e3:¬u∈zb:=fun z=>e3 (decide_eq_true z);rw[if_neg e2,if_neg e3,if_neg e]at k;exact⟨_,rfl,k q G2 (s1.trans s2) (hR.same (s1.trans s2))⟩
inductive Jj(vs:List V)(H:Hp)(Q:VK)(E_:XK):Prop
 | mk (q:Addr) (d:FR) (f:Int) (_:vs=[.ref q,.int f]) (_:cw H q d) (_:∀(q':Addr) H',Same H H'->cw H' q' (dj d.ts f d)->Q (.ref q') H')
theorem QK:aM ["row","far"] ["row","far"] (ao jL):=by walk_at "sc1"
theorem vL{f fH:Addr}{fd Pp:el}(F:cy K "with_far" "with_far" jL f fd)(T:Txt K w.params mg)(GH:aN P w K mg base bu 1 fH Pp ["word"] Kv)(kH:KI K fH)(bH:Binds K Pp ["word"] [])(mH:mg "has_far"=some (.ref fH)):aN P w K mg base bu 2 f fd ["row","far"] Jj:=by
 refine F.ok QK (by walk_at "ln") (fun J4 A outer s H vs Q E hr h=>?_)
 ·obtain⟨q,d,f,rfl,hR,k⟩:=h;obtain⟨items,hq,_⟩:=hR.parts;refine ck (au (aq (aC (iT (cq (aA GH hr (by rfl) mH kH bH .nil aQ (ae (aH aX (pv 0) aj (fun _ _=>rfl)) ah))) (aS sM (gN sJ (pv 0) j3 (il (iV fh aj))) (aV (ae (pv 1) ah))) (pv 0))))) ?_;refine⟨_,rfl,q,_,0,_,rfl,rfl,bp.of hq,at0 _ _,d.u,rfl,hR.1.1,_,rfl,?_⟩;obtain⟨u,is,ts⟩:=d;unfold dj at k;refine cK (fun e=>?_) (fun e=>?_)
  ·have e:u∈cI:=of_decide_eq_true e;have ht:H q=some (.tup (.str u::is.map V.int)):=hR.nt (tY e);by_cases c:u∈eT
   ·obtain⟨t0,f0,rfl,rfl⟩:=hR.1.2.2.1 c;rw[if_pos c]at k;refine⟨_,rfl,1,rfl,-1,rfl,q,_,rfl,bp.of ht,(fun z=>absurd z.2 (by show ¬(2:Nat)=3;decide)),fun a na=>bZ na fun G1 s1 g1=>?_⟩;have ha:G1 a=some (.tup [V.str u,V.int t0]):=g1;refine⟨_,rfl,zle,fun b nb=>bZ nb fun G2 s2 g2=>?_⟩;refine⟨a,b,[V.str u,V.int t0],_,rfl,rfl,bp.of (s2 _ _ ha),bp.of g2,cons_ne_nil _ _,zle,fun z=>absurd z (cons_ne_nil _ _),fun _ p nq=>bZ nq fun G3 s3 g3=>?_⟩;exact k p G3 (s1.trans (s2.trans s3)) (eJ c g3)
   ·have z:=((by decide+kernel:∀u∈cI,u∈eT\/u∈zb) u e).resolve_left c;obtain⟨b0,t0,f0,rfl,rfl⟩:=hR.1.2.2.2.1 z;rw[if_neg c,if_pos z]at k;refine⟨_,rfl,1,rfl,-1,rfl,q,_,rfl,bp.of ht,(fun z=>absurd z.2 (by show ¬(3:Nat)=4;decide)),fun a na=>bZ na fun G1 s1 g1=>?_⟩;have ha:G1 a=some (.tup [V.str u,V.int b0,V.int t0]):=g1;refine⟨_,rfl,zle,fun b nb=>bZ nb fun G2 s2 g2=>?_⟩;refine⟨a,b,[V.str u,V.int b0,V.int t0],_,rfl,rfl,bp.of (s2 _ _ ha),bp.of g2,cons_ne_nil _ _,zle,fun z=>absurd z (cons_ne_nil _ _),fun _ p nq=>bZ nq fun G3 s3 g3=>?_⟩;exact k p G3 (s1.trans (s2.trans s3)) (iE z g3)
  ·have e:=VU (fun z:u∈cI=>e (decide_eq_true z));rw[if_neg e.1,if_neg e.2,ite_self]at k;exact⟨_,rfl,k q H (.refl _) hR⟩
def ZI(ds:List FR)(ld:List (Option Int))(xs ts:List Int):Prop:=ts.length=xs.length/\∀(i:Nat) x t,xs[i]? =some x->ts[i]? =some t->ct ds ld 60 [x.toNat] (fun _=>false)=some (some t)
inductive QL(vs:List V)(H:Hp)(Q:VK)(E_:XK):Prop
 | mk (l1 pp ll lf lc:Addr) (ds es:List FR) (ld:List (Option Int)) (fs:List Int) (M:Int) (_:vs=[.ref l1,.ref pp]) (_:cm H l1 ds) (_:p6 H pp ll lf lc) (_:H ll=some (.lst (ld.map oV))) (_:ld.length<=1000) (_:H lf=some (.lst (fs.map V.int))) (_:fs.length<=1000) (_:∀d∈ds,GF M d) (_:es.length=fs.length) (_:∀(r:Nat) e f,es[r]? =some e->fs[r]? =some f->∃(n:Nat) (d:FR) (ts:List Int),StandsAt ld r n/\ds[n]? =some d/\ZI ds ld d.ts ts/\e=dj ts f d) (_:∀(l:Addr) (xs:List V) H',Same H H'->H l=none->H' l=some (.lst xs)->bY H' xs es->Q (.ref l) H')
theorem xX:aM ["new","paper","leads","places","rows","r","form","row","targets"] ["new","paper"] (ao fX):=by walk_at "sc1"
def LI:Scope:={kind:=.function,names:=[(".0",.local),("target",.local),("old_target",.globalImplicit),("leads",.free),("new",.free)],isGenerator:=false,isCoroutine:=false,more:=[]}
theorem Eg:cC (ao fX) LI ["new","paper","leads","places","rows","r","form","row","targets"] ["target","new","leads"] [none,some 0,some 2]:=by walk_at "sc2"
theorem ua{f fP fO fT fF fW:Addr}{fd sr QM pU zM my:el}(F:cy K "taken_out" "taken_out" fX f fd)(T:Txt K w.params mg)(GP:aN P w K mg base bu 1 fP sr ["leads"] Ky)(kP:KI K fP)(bP:Binds K sr ["leads"] [])(mP:mg "places_of"=some (.ref fP))(GO:aN P w K mg base bu 4 fO QM ["new","leads","target"] QG)(kO:KI K fO)(bO:Binds K QM ["new","leads","target"] [])(mO:mg "old_target"=some (.ref fO))(GT:aN P w K mg base bu 1 fT pU ["row"] eA)(kT:KI K fT)(bT:Binds K pU ["row"] [])(mT:mg "targets_of"=some (.ref fT))(GF:aN P w K mg base bu 2 fF zM ["row","far"] Jj)(kF:KI K fF)(bF:Binds K zM ["row","far"] [])(mF:mg "with_far"=some (.ref fF))(GW:aN P w K mg base bu 1 fW my ["row","targets"] QI)(kW:KI K fW)(bW:Binds K my ["row","targets"] [])(mW:mg "with_targets"=some (.ref fW)):aN P w K mg base bu 5 f fd ["new","paper"] QL:=by
 refine F.ok xX (by walk_at "ln") (fun J4 A outer s H vs Q E hr h=>?_)
 ·obtain⟨l1,pp,ll,lf,lc,ds,es,ld,fs,M,rfl,hR,hP,kc,hdl,hfs,hfl,hG,hel,hes,k⟩:=h;have hu:=iM hr;have hr1:=hr.mono (show 1<=_ by decide);have hr2:=hr.mono (show 2<=_ by decide)
  refine ck (ak (aq (aT (i:=2) xX.nd rfl (Or.inr rfl) (c9 hu (pv 1) ay (fun _ _=>rfl))))
   (ak (aq (aT (i:=3) xX.nd rfl (Or.inl rfl) (aA GP hr1 (by rfl) mP kP bP .nil aQ (ae (pv 2) ah))))
   (ak (aq (aT (i:=4) xX.nd rfl (Or.inl rfl) (aY ah)))
   (ak (aq (dA PassesOwn.never rfl (oE rfl T.enum (ae (c9 hu (pv 1) ay (fun _ _=>rfl)) ah)) (iC (K:=K) (i:=5) (j:=6) rfl rfl xX.nd rfl (Or.inl rfl) rfl (Or.inl rfl)) (aL (aT (i:=7) xX.nd rfl (Or.inl rfl) (aH aO (pv 0) (c9 hu (pv 3) (pv 5) (fun _ _=>rfl)) (fun _ _=>rfl)))
   (aL (oC (i:=8) (N':=["target","new","leads"]) (fr:=[none,some 0,some 2]) xX.nd rfl rfl Eg rfl (cJ (aA GT hr1 (by rfl) mT kT bT .nil aQ (ae (pv 7) ah))) (fun C s0 H0 fp=>(bg (i:=0) Eg.nd rfl (Or.inl rfl))) (fun C s0 H0 fp=>df) (fun C s0 H0 fp=>(aA GO hr (by rfl) mO kO bO .nil aQ (ae (pv 1) (ae (pv 2) (ae (pv 0) ah))))))
   (aJ (dy (iX ge gf gl eY (pv 4) (ae (aA GF hr2 (by rfl) mF kF bF .nil aQ (ae (aA GW hr1 (by rfl) mW kW bW .nil aQ (ae (pv 7) (ae (pv 8) ah))) (ae (pv 6) ah))) ah))))))))
   (au (aq (aC (pv 4)))))))) ?_
  obtain⟨kvs,hp,hv1,hv2,IW⟩:=hP.at_;refine⟨_,rfl,pp,_,rfl,by rw[<-hv1];exact dP.k (k:=(Sum.inr "leads": Key)) hp,?_⟩;refine⟨_,rfl,ll,ld,rfl,kc,by omega,fun pd kv G1 s1 hpd hkv=>?_⟩;refine⟨zle,fun lo no=>bZ no fun G2 s2 g2=>?_⟩;have S2:=s1.trans s2;have ZJ:=s1.free no;refine⟨_,rfl,pp,_,rfl,by rw[<-hv2];exact dP.k (k:=(Sum.inr "forms": Key)) (S2 _ _ hp),lf,rfl,⟨_,aR.of (S2 _ _ hfs)⟩,ke (K:=K) (xs:=fs.map V.int) (fun i σ G=>∃(v5 v6 v7 v8:Option V) (ys:List V),σ=[some (.ref l1),some (.ref pp),some (.ref ll),some (.ref pd),some (.ref lo),v5,v6,v7,v8]/\Same H G/\G pd=some (.dK kv)/\G lo=some (.lst ys)/\bY G ys (es.take i)) ?_ ?_ ?_ ?_⟩
  ·exact⟨none,none,none,none,[],rfl,S2,s2 _ _ hpd,g2,di⟩
  ·rintro i σ G _ ⟨v5,v6,v7,v8,ys,rfl,s3,_⟩;exact aR.of (s3 _ _ hfs)
  ·rintro i x σ G tt hx Fo ⟨v5,v6,v7,v8,ys,rfl,s3,vI,Eh,hys⟩;rw[ag]at hx;obtain⟨f,hf,rfl⟩:=map_eq_some_iff.mp hx;have hi:=(al.mp hf).1;have he:es[i]? =some (es[i]'(by omega)):=ac _;generalize es[i]'(by omega)=e at he;obtain⟨n,d,ts,hst,hd,hT,rfl⟩:=hes i e f he hf;refine bZ Fo fun G4 s4 g4=>?_;have S4:=s3.trans s4;refine⟨tt,_,rfl,bp.of g4,rfl,_,_,rfl,_,_,rfl,rfl,?_⟩;obtain⟨qs,q,h1,h2,h3,hF⟩:=hR.get hd;refine⟨_,rfl,_,rfl,_,rfl,pd,_,rfl,by rw[<-hkv _ _ hst];exact dP.k (k:=Sum.inl (i:Int)) (s4 _ _ vI),l1,_,_,.ref q,rfl,rfl,aR.of (S4 _ _ h1),h2,?_⟩;have ZK:=hF.same S4;have hgd:=hG d (am hd);refine⟨_,rfl,q,d.u,d.ts,rfl,ZK.at_,fun lt G5 s5 nt ht=>?_⟩;refine⟨lt,rfl,⟨_,aR.of ht⟩,fun D nD=>cO (K:=K) (xs:=d.ts.map V.int) (fun j τ zs G=>∃v:Option V,τ=[v,some (.ref l1),some (.ref ll)]/\zs=(ts.take j).map V.int/\Same G5 G/\G D=some (.lst zs)) ?_ ?_ ?_ ?_⟩
   ·exact⟨none,rfl,rfl,aw nD,ai⟩
   ·rintro j τ zs G _ ⟨v,rfl,rfl,s6,_⟩;exact aR.of (s6 _ _ ht)
   ·rintro j x τ zs G hx ⟨v,rfl,rfl,s6,hD⟩;rw[ag]at hx;obtain⟨x0,hx0,rfl⟩:=map_eq_some_iff.mp hx;have hj:=(al.mp hx0).1;have hj2:j<ts.length:=by rw[hT.1];exact hj
    have h0:=(hgd.ts.2 x0 (am hx0)).1;have S6:=S4.trans (s5.trans s6);refine⟨_,rfl,_,rfl,_,rfl,l1,ll,ds,ld,x0.toNat,60,M,ts[j],by rw[Int.toNat_of_nonneg h0];rfl,hR.same S6,S6 _ _ kc,hG,by decide,hT.2 j x0 _ hx0 (ac hj2),fun G7 s7=>⟨s7 _ _ hD,bh (by rw[length_map,length_take];have:=hgd.ts.1;omega),_,rfl,?_,aZ (s6.trans s7) nD,ai⟩⟩;rw[take_add_one,ac hj2,toList_some,map_append];rfl
   rintro τ zs G6 ⟨v,rfl,rfl,s6,hD⟩;rw[length_map,<-hT.1,take_of_length_le (le_refl _)]at hD;have NN:=s5.trans s6;refine⟨_,rfl,.inl ⟨rfl,_,aR.of ((s4.trans NN) _ _ Eh)⟩,_,rfl,_,rfl,q,D,d,ts,rfl,ZK.same NN,hD,fun z=>?_,fun q' G7 s7 hq'=>?_⟩
   ·obtain⟨t0,_,e2⟩:=t7 hF.1 z;intro e0;have:=hT.1;rw[e0,e2]at this;cases this
   refine⟨_,rfl,q',_,f,rfl,hq',fun q2 G8 s8 hq2=>?_⟩;rw[oK]at hq2;rw[LH]at hq2;have SK:=s7.trans s8;have QN:=(s4.trans (NN.trans SK)) _ _ Eh;refine⟨lo,_,_,rfl,rfl,QN,bh (by rw[hys.len,length_take];omega),_,_,_,_,_,rfl,aZ (S4.trans (NN.trans SK)) ZJ,?_,ai,?_⟩
   ·rw[az (fun z=>by rw[z,Eh]at vI;cases vI)];exact(s4.trans (NN.trans SK)) _ _ vI
   ·rw[take_add_one,he];exact app1 QN (hys.tups (.of (s4.trans (NN.trans SK)))) hq2
  ·rintro σ G ⟨v5,v6,v7,v8,ys,rfl,s3,vI,Eh,hys⟩;rw[length_map,<-hel,take_of_length_le (le_refl _)]at hys;exact⟨_,rfl,k lo ys G s3 ZJ Eh hys⟩
abbrev eO:=List (Option Int)
def Put(ds:List FR)(ld:eO)(s:Nat)(ps:List FR):Prop:=∀(j:Nat) x,ps[j]? =some x->ds[s+j]? =some x/\ld[s+j]? =some none
def LJ(s:Nat)(T:Int)(ps:List FR):Prop:=∃w b a f:Int,(0<=b/\b<=7)/\(500000<=a/\a<=500008)/\ps=iG w b a s++ [⟨"jump",[T,f],[T]⟩]
def Blk(ds:List FR)(ld:eO)(s:Nat)(T:Int):Prop:=∃ps,LJ s T ps/\Put ds ld s ps
def LU(ds:List FR)(ld:eO)(x t:Int):Prop:=x=-1-t\/(0<=x/\Blk ds ld x.toNat (-1-t))
def QO(ds:List FR)(ld:eO)(n:Nat)(j:Nat):Prop:=∃s T ps,LJ s T ps/\Put ds ld s ps/\-(n:Int)<=T/\T<0/\s<=j/\j<s+ps.length
def Ext(ds:List FR)(ld:eO)(ds':List FR)(uO:eO):Prop:=∀(j:Nat) x,ds[j]? =some x->ld[j]? =some none->ds'[j]? =some x/\uO[j]? =some none
theorem Put.ext{ds ds':List FR}{ld uO:eO}{s:Nat}{ps:List FR}(h:Put ds ld s ps)(e:Ext ds ld ds' uO):Put ds' uO s ps:=fun j x hx=>e _ x (h j x hx).1 (h j x hx).2
theorem Blk.ext{ds ds':List FR}{ld uO:eO}{s:Nat}{T:Int}(h:Blk ds ld s T)(e:Ext ds ld ds' uO):Blk ds' uO s T:=h.imp fun _ z=>⟨z.1,z.2.ext e⟩
theorem LU.ext{ds ds':List FR}{ld uO:eO}{x t:Int}(h:LU ds ld x t)(e:Ext ds ld ds' uO):LU ds' uO x t:=h.imp id fun z=>⟨z.1,z.2.ext e⟩
theorem QO.ext{ds ds':List FR}{ld uO:eO}{n j:Nat}(h:QO ds ld n j)(e:Ext ds ld ds' uO):QO ds' uO n j:=by obtain⟨s,T,ps,a,b,c⟩:=h;exact⟨s,T,ps,a,b.ext e,c⟩
theorem uc{ds:List FR}{ld:eO}(es:List FR)(le:eO):Ext ds ld (ds++es) (ld++le):=fun j x h1 h2=>⟨by rw[ax (al.mp h1).1];exact h1,by rw[ax (al.mp h2).1];exact h2⟩
theorem zR{ds:List FR}{ld:eO}{m:Nat}{r:Int}(h:ld[m]? =some (some r))(d:FR):Ext ds ld (ds.set m d) ld:=fun j x h1 h2=>⟨by
 rw[bn,if_neg (fun z=>by rw[<-z,h]at h2;cases h2)]
 exact h1,h2⟩
theorem zS{ds ps qs:List FR}{ld:eO}{k:Nat}(hl:ld.length=ds.length)(hk:k=ps.length):Put (ds++ps++qs) (ld++replicate k none) ds.length ps:=fun j x hx=>by
 have hj:=(al.mp hx).1;refine⟨?_,?_⟩
 ·rw[append_assoc,bc (Nat.le_add_right _ _),Nat.add_sub_cancel_left,ax hj];exact hx
 ·rw[bc (by omega),hl,Nat.add_sub_cancel_left,List.getElem?_replicate,if_pos (by omega)]
structure Mid(aI ds:List FR)(ld:eO)(m:Nat):Prop where
 len:ld.length=ds.length
 old:∀(j:Nat) (r:Int),ld[j]? =some (some r)->0<=r/\∃e,aI[r.toNat]? =some e/\(∃ts f,ds[j]? =some (dj ts f e)/\(m<=j->ts=e.ts)/\(j<m->ts.length=e.ts.length/\∀(i:Nat) x t,ts[i]? =some x->e.ts[i]? =some t->LU ds ld x t))/\(¬e.u∈cv->Blk ds ld (j+1) (-2-r))
 non:∀j:Nat,ld[j]? =some none->QO ds ld aI.length j
theorem Mid.app{aI ds:List FR}{ld:eO}{m:Nat}(h:Mid aI ds ld m){es:List FR}{le:eO}(hl:le.length=es.length)
  (ho:∀(k:Nat) r,le[k]? =some (some r)->m<=ds.length+k/\0<=r/\∃e,aI[r.toNat]? =some e/\(∃f,es[k]? =some (dj e.ts f e))/\(¬e.u∈cv->Blk (ds++es) (ld++le) (ds.length+k+1) (-2-r)))
  (hn:∀k:Nat,le[k]? =some none->QO (ds++es) (ld++le) aI.length (ds.length+k)):Mid aI (ds++es) (ld++le) m:=by
 have hE:=uc (ds:=ds) (ld:=ld) es le;refine⟨by rw[length_append,length_append,h.len,hl],fun j r hj=>?_,fun j hj=>?_⟩
 ·by_cases c:j<ld.length
  ·rw[ax c]at hj;obtain⟨h0,e,he,⟨ts,f,h1,h2,h3⟩,h4⟩:=h.old j r hj;exact⟨h0,e,he,⟨ts,f,by rw[ax (by rw[<-h.len];exact c)];exact h1,h2,fun z=>⟨(h3 z).1,fun i x t a b=>((h3 z).2 i x t a b).ext hE⟩⟩,fun z=>(h4 z).ext hE⟩
  ·rw[bc (by omega)]at hj;obtain⟨k0,h0,e,he,⟨f,h1⟩,h4⟩:=ho _ r hj;have hs:=h.len;have ej:ds.length+(j-ld.length)=j:=by omega
   rw[ej]at h4 k0;exact⟨h0,e,he,⟨e.ts,f,by rw[bc (by omega),<-hs];exact h1,fun _=>rfl,fun z=>absurd z (by omega)⟩,h4⟩
 ·by_cases c:j<ld.length
  ·rw[ax c]at hj;exact(h.non j hj).ext hE
  ·rw[bc (by omega)]at hj;have:=hn _ hj;rw[<-h.len,Nat.add_sub_cancel' (by omega)]at this;exact this
theorem qh{k j:Nat}{r:Int}:¬(replicate k (none:Option Int))[j]? =some (some r):=fun h=>by rw[List.getElem?_replicate]at h;split at h<;>cases h
theorem Mid.piece{aI ds:List FR}{ld:eO}{m:Nat}(h:Mid aI ds ld m){T:Int}{ps:List FR}(hp:LJ ds.length T ps)(h1:-(aI.length:Int)<=T)(h2:T<0):Mid aI (ds++ps) (ld++replicate ps.length none) m/\Blk (ds++ps) (ld++replicate ps.length none) ds.length T:=by
 have NP:Put (ds++ps) (ld++replicate ps.length none) ds.length ps:=by
  have:=zS (qs:=[]) h.len (rfl:ps.length=_)
  rwa [append_nil]at this
 refine⟨h.app (by rw[length_replicate]) (fun k r hk=>absurd hk qh) (fun k hk=>?_),ps,hp,NP⟩;have hk:=(al.mp hk).1;rw[length_replicate]at hk;exact⟨_,T,ps,hp,NP,h1,h2,Nat.le_add_right _ _,by omega⟩
theorem Mid.row{aI ds:List FR}{ld:eO}(h:Mid aI ds ld 0){r:Nat}{e:FR}(he:aI[r]? =some e)(hok:e.Ok){ps:List FR}(hp:(e.u∈cv/\ps=[])\/(LJ (ds.length+1) (-2- (r:Int)) ps/\r+1<aI.length)):Mid aI (ds++ [e]++ps) (ld++ [some (r:Int)]++replicate ps.length none) 0:=by
 have NP:Put (ds++ [e]++ps) (ld++ [some (r:Int)]++replicate ps.length none) (ds.length+1) ps:=by
  have:=zS (ds:=ds++ [e]) (ld:=ld++ [some (r:Int)]) (qs:=[]) (by rw[length_append,length_append,h.len];rfl) (rfl:ps.length=_)
  rwa [append_nil,length_append]at this
 rw[append_assoc,append_assoc]at NP ⊢;refine h.app (by rw[length_append,length_append,length_replicate];rfl) (fun k r' hk=>?_) (fun k hk=>?_)
 ·cases k with
  | succ k=>
   rw[bc (by simp)]at hk;exact absurd hk qh
  | zero=>
   cases hk;refine⟨zero_le _,by omega,e,by rw[lv];exact he,⟨d7 e,by rw[ky hok];rfl⟩,fun z=>?_⟩;rcases hp with ⟨c,_⟩ | ⟨c,_⟩
   ·exact absurd c z
   ·exact⟨ps,c,NP⟩
 ·cases k with
  | zero=>cases hk
  | succ k=>
   rw[bc (by simp)]at hk;have hk:=(al.mp hk).1;rw[length_replicate]at hk;have hk:k<ps.length:=by simpa using hk
   rcases hp with ⟨_,c⟩ | ⟨c,c2⟩
   ·rw[c]at hk;exact absurd hk (Nat.not_lt_zero _)
   ·exact⟨_,_,ps,c,NP,by omega,by omega,by omega,by omega⟩
theorem Mid.turn{aI ds:List FR}{ld:eO}{m:Nat}(h:Mid aI ds ld m){r:Int}{e:FR}(hm:ld[m]? =some (some r))(he:aI[r.toNat]? =some e){ts:List Int}(hl:ts.length=e.ts.length)(hu:∀(i:Nat) x t,ts[i]? =some x->e.ts[i]? =some t->LU ds ld x t){f:Int}:Mid aI (ds.set m (dj ts f e)) ld (m+1):=by
 have hE:=zR (ds:=ds) hm (dj ts f e);have hml:m<ds.length:=by rw[<-h.len];exact(al.mp hm).1
 refine⟨by rw[length_set,h.len],fun j r' hj=>?_,fun j hj=>(h.non j hj).ext hE⟩;obtain⟨h0,e',he',⟨ts',f',h1,h2,h3⟩,h4⟩:=h.old j r' hj;by_cases c:j=m
 ·subst c;rw[hm]at hj;cases hj;rw[he]at he';cases he';exact⟨h0,e,he,⟨ts,f,by rw[bn,if_pos rfl,if_pos hml],fun z=>absurd z (by omega),fun _=>⟨hl,fun i x t a b=>(hu i x t a b).ext hE⟩⟩,fun z=>(h4 z).ext hE⟩
 ·exact⟨h0,e',he',⟨ts',f',by rw[bn,if_neg (fun z=>c z.symm)];exact h1,fun z=>h2 (by omega),fun z=>⟨(h3 (by omega)).1,fun i x t a b=>((h3 (by omega)).2 i x t a b).ext hE⟩⟩,fun z=>(h4 z).ext hE⟩
theorem Mid.skip{aI ds:List FR}{ld:eO}{m m':Nat}(h:Mid aI ds ld m)(hmm:m<=m')(hm:∀(j:Nat) r,m<=j->j<m'->¬ld[j]? =some (some r)):Mid aI ds ld m':=by refine⟨h.len,fun j r hj=>?_,h.non⟩;obtain⟨h0,e,he,⟨ts,f,h1,h2,h3⟩,h4⟩:=h.old j r hj;exact⟨h0,e,he,⟨ts,f,h1,fun z=>h2 (by omega),fun z=>h3 (Nat.lt_of_not_le fun y=>hm j r y z hj)⟩,h4⟩
structure iR(H:Hp)(l lo qj:Addr)(aI:List FR)(G:Hp)(ln ll:Addr)(xs:List V)(ds:List FR)(ld:eO):Prop where
 kp:Keeps (fun c=>c=l\/c=qj) H G
 gr:dt H G
 st:qG G l
 ol:cm G lo aI
 nw:G ln=some (.lst xs)
 rw:bY G xs ds
 le:G ll=some (.lst (ld.map oV))
 n1:ln=qj\/H ln=none
 n2:ln≠l/\ll≠l/\ll≠ln/\lo≠l/\lo≠ln
variable {H:Hp}{l lo qj:Addr}{aI:List FR}{G G1:Hp}{ln ll:Addr}{xs:List V}{ds:List FR}{ld:eO}
theorem cm.keeps{R:Addr->Prop}(h:cm G lo aI)(k:Keeps R G G1)(n:¬R lo):cm G1 lo aI:=by obtain⟨qs,a,b,c⟩:=h;exact⟨qs,k _ _ a (.inl n),b,fun i q d e f=>(c i q d e f).tups k.tups⟩
theorem iR.step{R:Addr->Prop}(h:iR H l lo qj aI G ln ll xs ds ld)(k:Keeps R G G1)(g:dt G G1)(s:qG G1 l)(hR:∀c,R c->c≠ln/\c≠ll/\c≠lo/\(c=l\/H c=none)):iR H l lo qj aI G1 ln ll xs ds ld :=
 ⟨fun c o e n=>k c o (h.kp c o e n) (by
  rcases n with n | n
  ·refine .inl fun z=>?_;rcases(hR c z).2.2.2 with y | y
   ·exact n (.inl y)
   ·rw[y]at e;cases e
  ·exact .inr n),h.gr.trans g,s,h.ol.keeps k (fun z=>(hR _ z).2.2.1 rfl),k _ _ h.nw (.inl fun z=>(hR _ z).1 rfl),h.rw.tups k.tups,k _ _ h.le (.inl fun z=>(hR _ z).2.1 rfl),h.n1,h.n2⟩
theorem iR.dig(h:iR H l lo qj aI G ln ll xs ds ld)(x:cY l G G1)(s:qG G1 l):iR H l lo qj aI G1 ln ll xs ds ld:=by
 refine h.step (R:=fun c=>c=l) (fun c o e n=>x c o (fun z=>?_) e) (fun c n=>x.free (s.ne n) n) s (fun c e=>by cases e;exact⟨h.n2.1.symm,h.n2.2.1.symm,h.n2.2.2.2.1.symm,.inl rfl⟩);obtain⟨_,_,_,y⟩:=h.st;rw[z,y]at e;rcases n with n | ⟨_,rfl⟩
 ·exact n z
 ·cases e
theorem iR.Ei(h:iR H l lo qj aI G ln ll xs ds ld)(x:cY l G G1):dX G G1:=fun b ys e=>x b _ (fun z=>by
 obtain⟨_,_,_,y⟩:=h.st;rw[z,y]at e
 cases e) e
theorem iR.same(h:iR H l lo qj aI G ln ll xs ds ld)(s:Same G G1):iR H l lo qj aI G1 ln ll xs ds ld:=h.dig (.same s) (h.st.same s)
theorem iR.put(h:iR H l lo qj aI G ln ll xs ds ld){D:Addr}{ys:List V}{o:HO}(hD:G D=some (.lst ys))(nD:H D=none)(n:D≠ln/\D≠ll/\D≠lo/\D≠l):iR H l lo qj aI (upd G D o) ln ll xs ds ld :=
 h.step (R:=fun c=>c=D) (Keeps.refl.upd hD (fun _ z=>nomatch z) rfl) (fun c z=>by
  by_cases e:c=D
  ·rw[e,ai]at z;cases z
  ·rwa [az e]at z) (h.st.upd n.2.2.2) (fun c e=>by cases e;exact⟨n.1,n.2.1,n.2.2.1,.inr nD⟩)
theorem iR.QP(h:iR H l lo qj aI G ln ll xs ds ld){j:Nat}{q:Addr}{d:FR}(hq:cw G q d):iR H l lo qj aI (upd G ln (.lst (xs.set j (.ref q)))) ln ll (xs.set j (.ref q)) (ds.set j d) ld:=by
 refine⟨fun c o e n=>?_,fun c z=>?_,h.st.upd h.n2.1,h.ol.keeps (R:=fun c=>c=ln) (Keeps.refl.upd h.nw (fun _ z=>nomatch z) rfl) h.n2.2.2.2.2,ai,(h.rw.QC hq j).tups (.upd h.nw (fun _ z=>nomatch z)),(az h.n2.2.2.1).trans h.le,h.n1,h.n2⟩
 ·have e1:=h.kp c o e n;by_cases c1:c=ln
  ·rw[c1,h.nw]at e1;rcases n with n | ⟨_,rfl⟩
   ·rcases h.n1 with y | y
    ·exact absurd (.inr (c1.trans y)) n
    ·rw[c1,y]at e;cases e
   ·cases e1
  ·rw[az c1];exact e1
 ·by_cases c1:c=ln
  ·rw[c1,ai]at z;cases z
  ·rw[az c1]at z;exact h.gr c z
theorem iR.fresh(h:iR H l lo qj aI G ln ll xs ds ld){D:Addr}(n:G D=none):H D=none/\D≠ln/\D≠ll/\D≠lo/\D≠l:=by
 refine⟨h.gr _ n,fun z=>?_,fun z=>?_,fun z=>?_,h.st.ne n⟩
 ·rw[z,h.nw]at n;cases n
 ·rw[z,h.le]at n;cases n
 ·obtain⟨qs,a,_⟩:=h.ol;rw[z,a]at n;cases n
def cnt(ld:eO)(i:Nat):Nat:=((ld.take i).filterMap id).length
theorem LK{ld:eO}{n:Nat}(h:ld.length<=n)(i:Nat):cnt ld i<=cnt ld n:=by unfold cnt;rw[take_of_length_le h];exact((List.take_sublist i ld).filterMap id).length_le
theorem Jk(ts:List Int)(f:Int)(d:FR):(dj ts f d).u=d.u:=by
 unfold dj
 repeat' split
 all_goals rfl
theorem ud(w b a s:Int):(iG w b a s).length<=4:=by
 unfold iG
 repeat' split
 all_goals exact zle
theorem Ej(k:Nat):(replicate k [V.non]).flatten=(replicate k (none:Option Int)).map oV:=by
 induction k with
 | zero=>rfl
 | succ k ih=>
  rw[replicate_succ,replicate_succ,List.flatten_cons,ih];rfl
inductive QR(vs:List V)(H:Hp)(Q:VK)(E_:XK):Prop
 | mk (ln ll l lo:Addr) (xs:List V) (ds aI:List FR) (ld:eO) (n:Int) (_:vs=[.ref ln,.ref ll,.ref l,.ref lo]) (_:iR H l lo ln aI H ln ll xs ds ld) (_:Mid aI ds ld 0) (_:∀e∈aI,GF n e) (_:∀e∈aI,∀t∈e.ts,t<aI.length) (_:ds.length<=100) (_:cnt ld ds.length<=9) (_:∀(q ln' ZL:Addr) (xs':List V) (ds':List FR) (k:Nat) H',H' q=some (.tup [.ref ln',.ref ZL])->iR H l lo ln aI H' ln' ZL xs' ds' (ld++replicate k none)->Mid aI ds' (ld++replicate k none) ds'.length->Ext ds ld ds' (ld++replicate k none)->ds'.length<=900->Q (.ref q) H')
theorem xY:aM ["_law_new_here","_law_leads","_law_state","_law_old","_law_number","_law_led_here","_law_target","_law_some"] ["_law_new_here","_law_leads","_law_state","_law_old"] (ao lM):=by walk_at "sc1"
theorem xZ{f fT fD fP fN:Addr}{fd pU Ed sr pT:el}(F:cy K "_law_led" "_law_led" lM f fd)(T:Txt K w.params mg)(GT:aN P w K mg base bu 1 fT pU ["_law_row_here"] Lx)(kT:KI K fT)(bT:Binds K pU ["_law_row_here"] [])(mT:mg "_law_targets"=some (.ref fT))(GD:aN P w K mg base bu 1 fD Ed ["_law_state","_law_base"] kx)(kD:KI K fD)(bD:Binds K Ed ["_law_state","_law_base"] [])(mD:mg "_law_digit"=some (.ref fD))(GP:aN P w K mg base bu 2 fP sr ["_law_state","_law_start"] Lz)(kP:KI K fP)(bP:Binds K sr ["_law_state","_law_start"] [])(mP:mg "_law_put_in"=some (.ref fP))(GN:aN P w K mg base bu 1 fN pT ["_law_row_here","_law_targets_here","_law_far_here"] Ly)(kN:KI K fN)(bN:Binds K pT ["_law_row_here","_law_targets_here","_law_far_here"] [])(mN:mg "_law_turned"=some (.ref fN)):aN P w K mg base bu 3 f fd ["_law_new_here","_law_leads","_law_state","_law_old"] QR:=by
 refine F.ok xY (by walk_at "ln") (fun J4 A outer s H vs Q E hr h=>?_)
 ·obtain⟨qj,ZM,l,lo,xs0,SL,aI,ld,n,rfl,hS,hM,hG,hT,h100,h9,k⟩:=h;have hr1:=hr.mono (show 1<=_ by decide)
  refine ck (ak (aq (dA PassesOwn.never rfl (ei rfl T.range (ae (aG aK (by rfl) T.len bV (ae (pv 0) ah)) ah)) (bg (i:=4) xY.nd rfl (Or.inl rfl)) (aJ (cS (aE ik (aH aO (pv 1) (pv 4) (fun _ _=>rfl)) dM (aP _)) (aL (aT (i:=5) xY.nd rfl (Or.inl rfl) (aY ah))
   (aL (dA PassesOwn.never rfl (cJ (aA GT hr1 (by rfl) mT kT bT .nil aQ (ae (aH aO (pv 3) (aH aO (pv 1) (pv 4) (fun _ _=>rfl)) (fun _ _=>rfl)) ah))) (bg (i:=6) xY.nd rfl (Or.inl rfl)) (aL (dy (iX ge gf gl eY (pv 5) (ae (aS dO (aS dO aj aj) (pv 6)) ah)))
   (aJ (cS (aE rO (aA GD hr1 (by rfl) mD kD bD .nil aQ (ae (pv 2) (ae aj ah))) aj (aP _)) (aL (e9 (aG aK (by rfl) T.len bV (ae (pv 0) ah)) (ie (pv 5) (iV fh aj) set_list))
   (aL (aT (i:=7) xY.nd rfl (Or.inl rfl) (aS gj (aA GP hr (by rfl) mP kP bP .nil aQ (ae (pv 2) (ae (aG aK (by rfl) T.len bV (ae (pv 0) ah)) ah))) (aY (ae (aV (ae ay (ae (aS dO (aS dO aj aj) (pv 6)) (ae (aA GD hr1 (by rfl) mD kD bD .nil aQ (ae (pv 2) (ae aj ah))) ah)))) ah))))
   (aL (aT (i:=0) xY.nd rfl (Or.inl rfl) (aS gj (pv 0) (pv 7)))
   (aJ (aT (i:=1) xY.nd rfl (Or.inl rfl) (aS gj (pv 1) (aS oY (aY (ae dM ah)) (aG aK (by rfl) T.len bV (ae (pv 7) ah))))))))) aF))))
   (aJ (e9 (aA GN hr1 (by rfl) mN kN bN .nil aQ (ae (aH aO (pv 0) (pv 4) (fun _ _=>rfl)) (ae (pv 5) (ae (aA GD hr1 (by rfl) mD kD bD .nil aQ (ae (pv 2) (ae aj ah))) ah)))) (ie (pv 0) (pv 4) set_list))))) aF))))
   (au (aq (aC (aV (ae (pv 0) (ae (pv 1) ah))))))) ?_
  have QS:=hS.rw.len;have hdl:=hM.len;refine⟨_,rfl,qj,_,rfl,.inl (aR.of hS.nw),_,rfl,by omega,by omega,gL (lo:=0) (n:=((xs0.length:Nat):Int).toNat) (fun i σ G=>∃(v4 v5 v6 v7:Option V) (ln ll:Addr) (xs:List V) (ds:List FR) (kk:Nat),σ=[some (.ref ln),some (.ref ll),some (.ref l),some (.ref lo),v4,v5,v6,v7]/\iR H l lo qj aI G ln ll xs ds (ld++replicate kk none)/\Mid aI ds (ld++replicate kk none) i/\Ext SL ld ds (ld++replicate kk none)/\ds.length<=100+80*cnt ld i) ?_ ?_ ?_⟩
  ·exact⟨none,none,none,none,qj,ZM,xs0,SL,0,rfl,by rw[replicate_zero,append_nil];exact hS,by rw[replicate_zero,append_nil];exact hM,by rw[replicate_zero,append_nil];exact fun _ _ a b=>⟨a,b⟩,by omega⟩
  ·rintro i σ G hi ⟨v4,v5,v6,v7,ln,ll,xs,ds,kk,rfl,h1,m1,x1,b1⟩;rw[lv,QS,<-hdl]at hi;show iL _ (.int (0+(i:Int))) _ _ _;rw[Int.zero_add];have hli:(ld++replicate kk none)[i]? =some ld[i]:=by rw[ax hi];exact ac hi
   have hat:lh ((ld++replicate kk none).map oV) (i:Int)=some (oV ld[i]):=cj (by rw[ag,hli];rfl);have hc1:cnt ld (i+1)=cnt ld i+([ld[i]].filterMap id).length:=by unfold cnt;rw[take_add_one,ac hi,toList_some,filterMap_append,length_append]
   refine⟨_,rfl,_,rfl,ll,_,_,_,rfl,rfl,aR.of h1.le,hat,rfl,_,rfl,?_⟩;generalize ld[i]=a at hli hat hc1;cases a with
   | none=>
    refine bU (by decide) ⟨_,_,_,_,ln,ll,xs,ds,kk,rfl,h1,m1.skip (Nat.le_succ _) (fun j r a b c=>?_),x1,by rw[hc1];omega⟩;have:j=i:=by omega
    rw[this,hli]at c;cases c
   | some r=>
   have hc1:cnt ld (i+1)=cnt ld i+1:=hc1;have hc9:=le_trans (LK (le_of_eq hdl) (i+1)) h9;refine c6 (by simp[oV]) ?_;obtain⟨r0,e,he,⟨te,fe,hde,LL,_⟩,_⟩:=m1.old i r hli;have LL:=LL (le_refl _);subst LL;obtain⟨rn,rfl⟩:=Int.eq_ofNat_of_zero_le r0;rw[lv]at he;have hge:=hG e (am he);have hTe:=hT e (am he);refine⟨zle,fun D nD=>bZ nD fun G2 s2 g2=>?_⟩;obtain⟨LD,Fx⟩:=h1.fresh nD;have h2:=h1.same s2;obtain⟨qs,q,g3,g4,g5,hF⟩:=h2.ol.get he;refine⟨_,rfl,_,rfl,_,rfl,ll,_,_,_,rfl,rfl,aR.of h2.le,hat,lo,_,_,.ref q,rfl,rfl,aR.of g3,g4,q,e,rfl,hF,fun lt G3 s3 nt ht=>?_⟩;have h3:=h2.same s3;have hD3:=s3 _ _ g2;have ZO:lt≠D:=fun z=>by rw[z,g2]at nt;cases nt
   obtain⟨ntH,VW⟩:=h2.fresh nt;clear s3 g2 h2 s2 h1;refine⟨lt,rfl,⟨_,aR.of ht⟩,gK (K:=K) (xs:=e.ts.map V.int) (fun j σ G=>∃(v6 v7:Option V) (ln ll:Addr) (xs:List V) (ds:List FR) (kk:Nat) (ts:List Int),σ=[some (.ref ln),some (.ref ll),some (.ref l),some (.ref lo),some (.int (i:Int)),some (.ref D),v6,v7]/\iR H l lo qj aI G ln ll xs ds (ld++replicate kk none)/\Mid aI ds (ld++replicate kk none) i/\Ext SL ld ds (ld++replicate kk none)/\ds.length<=100+80*cnt ld i+5*j/\G D=some (.lst (ts.map V.int))/\D≠ln/\D≠ll/\G lt=some (.lst (e.ts.map V.int))/\ts.length=j/\∀(i:Nat) x t,ts[i]? =some x->e.ts[i]? =some t->LU ds (ld++replicate kk none) x t) ?_ ?_ ?_ ?_⟩
   ·exact⟨_,_,ln,ll,xs,ds,kk,[],rfl,h3,m1,x1,by omega,hD3,Fx.1,Fx.2.1,ht,rfl,fun i x t z=>by cases z⟩
   ·rintro j σ G _ ⟨v6,v7,ln,ll,xs,ds,kk,ts,rfl,h4,m4,x4,b4,NQ,d1,d2,SM,B6,SN⟩;exact aR.of SM
   ·rintro j x σ G hx ⟨v6,v7,ln,ll,xs,ds,kk,ts,rfl,h4,m4,x4,b4,NQ,d1,d2,SM,B6,SN⟩;rw[ag]at hx;obtain⟨t,ht,rfl⟩:=map_eq_some_iff.mp hx;have hj:=(al.mp ht).1;have IK:=hge.ts.1;have t0:=(hge.ts.2 t (am ht)).1;have t1:=hTe t (am ht);refine⟨_,rfl,.inl ⟨rfl,_,aR.of NQ⟩,_,_,rfl,rfl,_,rfl,_,_,rfl,rfl,D,_,_,rfl,rfl,NQ,bh (by rw[length_map];omega),?_⟩;have h5:=h4.put (o:=.lst (ts.map V.int++ [V.int (0-1-t)])) NQ LD ⟨d1,d2,Fx.2.2⟩;have VX:upd G D (.lst (ts.map V.int++ [V.int (0-1-t)])) D=_:=ai;have VY:upd G D (.lst (ts.map V.int++ [V.int (0-1-t)])) lt=_:=(az ZO).trans SM;generalize upd G D (.lst (ts.map V.int++ [V.int (0-1-t)]))=G5 at h5 VX VY ⊢;refine⟨_,rfl,l,3,rfl,h5.st,by decide,by decide,fun dg G6 _ _ ZP SO=>⟨_,_,rfl,rfl,_,rfl,?_⟩⟩;have h6:=h5.dig SO ZP;have La:=SO _ _ Fx.2.2.2 VX;have VZ:=SO _ _ VW.2.2.2 VY;have lu:∀{ds':List FR} {uO:eO} {y:Int},Ext ds (ld++replicate kk none) ds' uO->LU ds' uO y t->∀(i:Nat) x t',(ts++ [y])[i]? =some x->e.ts[i]? =some t'->LU ds' uO x t':=fun {ds' uO y} hE hy i x t' a b=>by
     by_cases c:i<ts.length
     ·rw[ax c]at a;exact(SN i x t' a b).ext hE
     ·have c2:i=ts.length:=by have:=(al.mp a).1;rw[length_append,List.length_singleton]at this;omega
      rw[c2,List.getElem?_concat_length]at a;rw[c2,B6,ht]at b;cases a;cases b;exact hy
    refine cK (fun _=>?_) (fun _=>?_);rotate_left
    ·refine⟨_,_,ln,ll,xs,ds,kk,ts++ [-1-t],rfl,h6,m4,x4,by omega,by rw[map_append];exact La,d1,d2,VZ,by rw[length_append,B6];rfl,lu (fun _ _ a b=>⟨a,b⟩) (.inl rfl)⟩
    refine⟨_,rfl,ln,_,rfl,.inl (aR.of h6.nw),_,rfl,_,rfl,D,_,_,ts.length,rfl,rfl,La,?_,?_⟩
    ·show uY (ts.map V.int++ [V.int (0-1-t)]).length (-1)=_;rw[length_append,length_map];unfold uY;rw[if_neg (by decide),if_pos (by simp;omega)];simp;omega
    have QT:=h6.rw.len;have V0:(ts.map V.int++ [V.int (0-1-t)]).set ts.length (.int (xs.length:Int))=(ts++ [(ds.length:Int)]).map V.int:=by rw[List.set_append_right _ _ (by rw[length_map];exact le_refl _),length_map,sub_self,map_append,QT];rfl
    rw[V0];have h7:=h6.put (o:=.lst ((ts++ [(ds.length:Int)]).map V.int)) La LD ⟨d1,d2,Fx.2.2⟩;have SQ:upd G6 D (.lst ((ts++ [(ds.length:Int)]).map V.int)) D=_:=ai;have SR:upd G6 D (.lst ((ts++ [(ds.length:Int)]).map V.int)) lt=_:=(az ZO).trans VZ;generalize upd G6 D (.lst ((ts++ [(ds.length:Int)]).map V.int))=G7 at h7 SQ SR ⊢;refine⟨_,rfl,_,rfl,ln,_,rfl,.inl (aR.of h7.nw),l,(xs.length:Int),rfl,h7.st,fun pw pb pa lp ys G8 hb ha LM QU np SU LN hys=>?_⟩;have h8:=h7.dig LM QU;have ZQ:=LM _ _ Fx.2.2.2 SQ;have ZR:=LM _ _ VW.2.2.2 SR;rw[QT]at hys;have nlp:=h7.fresh np;have npD:lp≠D:=fun z=>by rw[z,SQ]at np;cases np
    have Y1:lp≠lt:=fun z=>by rw[z,SR]at np;cases np
    refine⟨_,_,rfl,rfl,_,rfl,_,_,rfl,rfl,_,rfl,l,2,rfl,h8.st,by decide,by decide,fun fj G9 _ _ ZS NR=>⟨zle,fun tj nj=>?_⟩⟩;have h9:=h8.dig NR ZS;have Fw:=NR _ _ Fx.2.2.2 ZQ;have ht9:=NR _ _ VW.2.2.2 ZR;have V1:=NR _ _ SU LN;have QV:=hys.tups (h8.Ei NR);clear h8 h7 h6 h5 SO LM NR ZP QU ZS VX La SQ ZQ VY VZ SR ZR hys LN;refine bZ nj fun NS qN HB=>⟨zle,fun lj QW=>bZ QW fun SV pj Jl=>?_⟩;have hpl:=ud pw pb pa ds.length;have hyl:=QV.len;refine⟨lp,lj,ys,_,rfl,rfl,(qN.trans pj) _ _ V1,Jl,cH (by simp;omega),fun l7 n7=>bZ n7 fun QX s12 Fy=>?_⟩;have Fz:=qN.trans (pj.trans s12);have h12:=h9.same Fz;have hps:bY QX (ys++ [V.ref tj]) (iG pw pb pa ds.length++ [⟨"jump",[-1-t,fj],[-1-t]⟩]):=(QV.tups (.of Fz)).snoc (eJ (by decide) ((pj.trans s12) _ _ HB));have Ek:LJ ds.length (-1-t) (iG pw pb pa ds.length++ [⟨"jump",[-1-t,fj],[-1-t]⟩]):=⟨pw,pb,pa,fj,hb,ha,rfl⟩;have LO:(iG pw pb pa ds.length++ [FR.mk "jump" [-1-t,fj] [-1-t]]).length<=5:=by rw[length_append];simp;omega
    generalize (iG pw pb pa ds.length++ [FR.mk "jump" [-1-t,fj] [-1-t]])=ps at hps Ek LO;generalize ys++ [V.ref tj]=zs at Fy hps;have V2:=hps.len;refine⟨_,rfl,_,rfl,ln,l7,_,_,rfl,rfl,h12.nw,Fy,cH (by omega),fun lq nq=>bZ nq fun V3 km QY=>?_⟩;have h13:=h12.same km;obtain⟨ZU,nq1,nq2,ZV,V4⟩:=h12.fresh nq;refine⟨_,rfl,zle,fun l8 n8=>bZ n8 fun NT uM QZ=>⟨_,rfl,l7,_,rfl,.inl (aR.of ((km.trans uM) _ _ Fy)),l8,_,_,rfl,rfl,QZ,by omega,by omega,cH (by simp;omega),fun l9 n9=>?_⟩⟩;rw[lv,V2,Ej];refine bZ n9 fun ZW B8 V5=>?_;have SW:=uM.trans B8;have h15:=h13.same SW;have V6:=m4.len;refine⟨ll,l9,_,_,rfl,rfl,h15.le,V5,cH (by rw[length_map,length_map,length_replicate,V6];omega),fun lr nr=>?_⟩;rw[<-map_append,append_assoc,List.replicate_append_replicate];refine bZ nr fun V7 HC Q0=>?_;obtain⟨nrH,nr1,nr2,nr3,V8⟩:=h15.fresh nr;have Bk:=SW.trans HC;have Bo:=h13.same Bk;obtain⟨m5,ZX⟩:=m4.piece Ek (by omega) (by omega);rw[append_assoc,List.replicate_append_replicate]at m5 ZX;have hE:=uc (ds:=ds) (ld:=ld++replicate kk none) ps (replicate ps.length none);rw[append_assoc,List.replicate_append_replicate]at hE;have SD:=(Fz.trans (km.trans Bk));refine⟨_,_,lq,lr,xs++zs,ds++ps,kk+ps.length,ts++ [(ds.length:Int)],rfl,⟨Bo.kp,Bo.gr,Bo.st,Bo.ol,Bk _ _ QY,Bo.rw.app (hps.tups (.of (km.trans Bk))),Q0,.inr ZU,V4,V8,?_,Bo.n2.2.2.2.1,ZV.symm⟩,m5,fun j x a b=>hE j x (x4 j x a b).1 (x4 j x a b).2,by rw[length_append];omega,SD _ _ Fw,?_,?_,SD _ _ ht9,by rw[length_append,B6];rfl,lu hE (.inr ⟨Int.natCast_nonneg _,by rw[lv];exact ZX⟩)⟩
    ·intro z;rw[z,SW _ _ QY]at nr;cases nr
    ·intro z;have:=Fz _ _ Fw;rw[z,nq]at this;cases this
    ·intro z;have:=(Fz.trans (km.trans SW)) _ _ Fw;rw[z,nr]at this;cases this
   ·rintro σ G4 ⟨v6,v7,ln,ll,xs,ds,kk,ts,rfl,h4,m4,x4,b4,NQ,d1,d2,SM,B6,SN⟩;rw[length_map]at B6 b4;have IK:=hge.ts.1;have LP:(ld++replicate kk none)[i]? =some (some (rn:Int)):=by rw[ax hi];rw[ax hi]at hli;exact hli
    obtain⟨_,e',he',⟨te,fe,hde,LL,_⟩,_⟩:=m4.old i _ LP;have LL:=LL (le_refl _);subst LL;rw[lv,he]at he';cases he';obtain⟨q4,ZY,hF4⟩:=h4.rw.get hde;refine⟨_,rfl,_,rfl,ln,_,_,_,rfl,rfl,aR.of h4.nw,cj ZY,_,rfl,_,rfl,l,2,rfl,h4.st,by decide,by decide,fun fj G5 _ _ wq Bp=>?_⟩;have h5:=h4.dig Bp wq;refine⟨q4,D,_,ts,.int fj,fj,rfl,hF4.tups (h4.Ei Bp),Bp _ _ Fx.2.2.2 NQ,fun z=>⟨rfl,fun z2=>?_⟩,fun q5 G6 s6 Sz=>?_⟩
    ·rw[Jk]at z;obtain⟨t0,_,e2⟩:=t7 hge.ok z;rw[z2,e2]at B6;cases B6
    rw[oK]at Sz;have h6:=h5.same s6;have hil:i<xs.length:=(al.mp ZY).1;refine⟨_,rfl,_,rfl,ln,_,_,i,rfl,rfl,h6.nw,zJ hil,?_⟩;exact⟨_,_,_,_,ln,ll,_,_,kk,rfl,h6.QP Sz,m4.turn LP (by rw[lv];exact he) B6 SN,fun j x a b=>zR LP _ j x (x4 j x a b).1 (x4 j x a b).2,by rw[length_set];omega⟩
  ·rintro σ G ⟨v4,v5,v6,v7,ln,ll,xs,ds,kk,rfl,h1,m1,x1,b1⟩;rw[lv,QS]at m1 b1;have hm:=m1.len;rw[length_append,hdl]at hm;refine⟨_,rfl,_,rfl,zle,fun q nq=>bZ nq fun G2 s2 g2=>k q ln ll xs ds kk G2 g2 (h1.same s2) (m1.skip (by omega) fun j r a b c=>?_) x1 (by omega)⟩;rw[bc (by omega)]at c;exact qh c
theorem jb.on{ds:List FR}(h:jb ds){i:Nat}{d:FR}(hd:ds[i]? =some d)(n:¬d.u∈cv):i+1<ds.length:=by
 have hi:=(al.mp hd).1;by_cases c:i+1<ds.length
 ·exact c
 ·refine absurd (h d ?_) n;rw[List.getLast?_eq_getElem?,show ds.length-1=i by omega];exact hd
theorem Mid.nil{aI:List FR}:Mid aI [] [] 0:=⟨rfl,fun j r h=>(by cases h),fun j h=>(by cases h)⟩
variable {El Jm:Addr}{xs1:List V}{c5:List FR}{FA:eO}
theorem iR.self(h:iR H l lo qj aI G ln ll xs ds ld):iR G l lo ln aI G ln ll xs ds ld:=⟨.refl,.refl,h.st,h.ol,h.nw,h.rw,h.le,.inl rfl,h.n2⟩
theorem iR.back(h:iR H l lo l aI G ln ll xs ds ld)(nl:H l=none)(h1:iR G l lo ln aI G1 El Jm xs1 c5 FA):iR H l lo l aI G1 El Jm xs1 c5 FA:=by
 have hn:H ln=none:=h.n1.elim (fun z=>absurd z h.n2.1) id;refine⟨fun c o e n=>h1.kp c o (h.kp c o e n) (.inl fun z=>?_),h.gr.trans h1.gr,h1.st,h1.ol,h1.nw,h1.rw,h1.le,.inr ?_,h1.n2⟩
 ·rcases z with z | z
  ·rw[z,nl]at e;cases e
  ·rw[z,hn]at e;cases e
 ·rcases h1.n1 with z | z
  ·rw[z];exact hn
  ·exact h.gr _ z
theorem iR.all(h:iR H l lo l aI G ln ll xs ds ld)(nl:H l=none):Same H G:=fun c o e=>h.kp c o e (.inl fun z=>by
 have z:=z.elim id id;rw[z,nl]at e
 cases e)
def jx(st:List Int)(d:FR):FR:=dj (d.ts.map (wy st)) (d7 d) d
def vM(st:List Int)(ds:List FR)(i:Nat):List FR:=(ds.take i).map (jx st)++ds.drop i
theorem zT{st:List Int}{ds:List FR}{i:Nat}{d:FR}(h:ds[i]? =some d):(vM st ds i)[i]? =some d:=by have hi:=(al.mp h).1;unfold vM;rw[bc (by rw[length_map,length_take];omega),length_map,length_take,Nat.min_eq_left (by omega),sub_self,List.getElem?_drop];exact h
theorem zU{st:List Int}{ds:List FR}{i:Nat}{d:FR}(h:ds[i]? =some d):(vM st ds i).set i (jx st d)=vM st ds (i+1):=by
 have hi:=(al.mp h).1;have hd:ds.drop i=d::ds.drop (i+1):=by rw[List.drop_eq_getElem_cons hi,(al.mp h).2]
 unfold vM;rw[List.set_append_right _ _ (by rw[length_map,length_take];omega),length_map,length_take,Nat.min_eq_left (by omega),sub_self,hd,List.set_cons_zero,take_add_one,h,toList_some,map_append,append_assoc];rfl
theorem set_same{α:Type}{xs:List α}{i:Nat}{x:α}(h:xs[i]? =some x):xs.set i x=xs:=by
 refine List.ext_getElem? fun j=>?_;rw[bn];split
 ·rename_i e;subst e;rw[if_pos (al.mp h).1,h]
 ·rfl
def stI(ld:eO)(n:Nat):List Int:=(List.range n).map fun r=>((ef ld r:Nat):Int)
structure jU(aI ds:List FR)(ld:eO):Prop where
 mid:Mid aI ds ld ds.length
 beg:ld[0]? =some (some 0)\/Blk ds ld 0 (-1)
 Jo:p5 ld aI.length ds.length
 len:ds.length<=900
variable {n b c:Int}{f:Int->Bool}{u:Str}
theorem vN{is ts:List Int}(h:u∈ko/\¬u ="put"):rc ⟨u,is,ts⟩ f=true:=by unfold rc;rw[decide_eq_true (show(FR.mk u is ts).u∈ko from h.1),decide_eq_false (show ¬(FR.mk u is ts).u ="put"from h.2)];rfl
def PG(n:Int)(d:FR):Prop:=GF n d/\∀f:Int->Bool,(∀j:Int,800<=j->f j=false)->rc d f=true
theorem uf(h:u∈zL12)(hb:0<=b/\b<=7)(hc:0<=c):PG n ⟨u,[b,c],[]⟩:=⟨.B4 ((by decide+kernel:∀u∈zL12,u∈zL1) u h) hb hc,fun _ _=>vN ((by decide+kernel:∀u∈zL12,u∈ko/\¬u ="put") u h)⟩
theorem Em(hb:0<=b/\b<=7)(hc:500000<=c):PG n ⟨"put",[b,c],[]⟩:=⟨.B4 (by decide+kernel) hb (by omega),fun f hf=>by
 show(decide (("put": Str)∈ko)&& !(decide (("put": Str)="put")&&f c))=true;rw[hf c (by omega),Bool.and_false]
 decide+kernel⟩
theorem En(h:u∈zL2)(hb:0<=b/\b<=7):PG n ⟨u,[b,c],[]⟩:=⟨.val h hb,fun _ _=>vN ((by decide+kernel:∀u∈zL2,u∈ko/\¬u ="put") u h)⟩
theorem vO(h:u∈zL0)(hb:0<=b/\b<=7){t:Int}(ht:0<=t/\t<n):PG n ⟨u,[b,t,c],[t]⟩:=⟨.B5 h hb ht,fun _ _=>vN ((by decide+kernel:∀u∈zL0,u∈ko/\¬u ="put") u h)⟩
theorem ya{t:Int}(ht:0<=t/\t<n):PG n ⟨"jump",[t,c],[t]⟩:=⟨.jmp (by decide+kernel) ht,fun _ _=>vN (by decide+kernel)⟩
theorem zV:PG n ⟨"halt",[c],[]⟩:=⟨.halt,fun _ _=>vN (by decide+kernel)⟩
end
theorem yb(w:Int){b a:Int}{s:Nat}(hb:0<=b/\b<=7)(ha:500000<=a):∀d∈iG w b a s,PG ((s+(iG w b a s).length+1:Nat):Int) d:=by
 unfold iG
 repeat' split
 all_goals
  intro d hd;simp only[mem_cons,not_mem_nil,or_false]at hd
 ·subst hd;exact uf (by decide+kernel) hb (by decide)
 ·rcases hd with rfl | rfl | rfl | rfl
  ·exact Em hb ha
  ·exact En (by decide+kernel) hb
  ·exact En (by decide+kernel) hb
  ·exact uf (by decide+kernel) hb (by omega)
 ·subst hd;exact vO (by decide+kernel) hb (by simp;omega)
 ·rcases hd with rfl | rfl
  ·exact vO (by decide+kernel) hb (by simp;omega)
  ·exact uf (by decide+kernel) hb (by decide)
 ·subst hd;exact ya (by simp;omega)
 ·rcases hd with rfl | rfl | rfl
  ·exact vO (by decide+kernel) hb (by simp;omega)
  ·exact ya (by simp;omega)
  ·exact zV
 ·rcases hd with rfl | rfl | rfl
  ·exact vO (by decide+kernel) hb (by simp;omega)
  ·exact Em hb ha
  ·exact uf (by decide+kernel) hb (by omega)
 ·rcases hd with rfl | rfl
  ·exact vO (by decide+kernel) hb (by simp;omega)
  ·exact zV
theorem kz{ts:List Int}{f:Int}{e:FR}(h:e.Ok)(hl:ts.length=e.ts.length):(dj ts f e).ts=ts:=by
 obtain⟨u,is,es⟩:=e;unfold dj;by_cases c:u∈eT
 ·obtain⟨t,g,rfl,rfl⟩:=h.2.2.1 c;obtain⟨x,rfl⟩:=length_eq_one_iff.mp hl;rw[if_pos c];rfl
 ·by_cases c2:u∈zb
  ·obtain⟨b,t,g,rfl,rfl⟩:=h.2.2.2.1 c2;obtain⟨x,rfl⟩:=length_eq_one_iff.mp hl;rw[if_neg c,if_pos c2];rfl
  ·rw[if_neg c,if_neg c2];by_cases c3:u ="table"
   ·rw[if_pos c3]
   ·rw[if_neg c3];have e0:es=[]:=h.2.2.2.2.1 c3 c c2;subst e0;exact(length_eq_zero_iff.mp hl).symm
theorem Mid.low{aI ds:List FR}{ld:eO}(h:Mid aI ds ld ds.length)(hG:∀e∈aI,GF (aI.length:Nat) e){j:Nat}{d:FR}(hd:ds[j]? =some d):d.ts.length<=16/\∀x∈d.ts,-(aI.length:Int)<=x:=by
 have hj:=(al.mp hd).1;have hl:ld[j]? =some (ld[j]'(by rw[h.len];exact hj)):=ac _;generalize ld[j]'(by rw[h.len];exact hj)=o at hl;cases o with
 | none=>
  obtain⟨s,T,ps,⟨w,b,a,f,hb,ha,rfl⟩,hp,h1,h2,h3,h4⟩:=h.non j hl;have hi:j-s< (iG w b a s++ [FR.mk "jump" [T,f] [T]]).length:=by omega
  have e1:=hp (j-s) _ (ac hi);rw[Nat.add_sub_cancel' h3,hd]at e1;have e2:=Option.some.inj e1.1;have hm:=bi hi;rw[<-e2]at hm;rcases mem_append.mp hm with z | z
  ·have:=(yb w hb ha.1 d z).1.ts;exact⟨this.1,fun x hx=>by have:=(this.2 x hx).1;omega⟩
  ·rw[mem_singleton.mp z];exact⟨zle,fun x hx=>by rw[mem_singleton.mp hx];exact h1⟩
 | some r=>
  obtain⟨h0,e,he,⟨ts,f,e1,_,e2⟩,_⟩:=h.old j r hl;obtain⟨hl2,hu⟩:=e2 hj;rw[hd]at e1;cases e1;have hm:=am he;rw[kz (hG e hm).ok hl2];refine⟨by rw[hl2];exact(hG e hm).ts.1,fun x hx=>?_⟩;obtain⟨i,hi⟩:=List.getElem?_of_mem hx;have hi2:i<e.ts.length:=by rw[<-hl2];exact(al.mp hi).1
  have ht:=((hG e hm).ts.2 _ (bi hi2)).2;rcases hu i x _ hi (ac hi2)with z | z
  ·omega
  ·omega
section
variable {P:Program}{w:World}{K:Frag}{mg:Str->Option Value}{base:Heap}
inductive Q5(vs:List V)(H:Hp)(Q:VK)(E_:XK):Prop
 | mk (lo:Addr) (c:Int) (aI:List FR) (_:vs=[.ref lo,.int c]) (_:cm H lo aI) (_:∀e∈aI,GF (aI.length:Nat) e) (_:jb aI) (_:1<=aI.length) (_:aI.length<=9) (_:∀(q ln ll:Addr) (xs:List V) (ds:List FR) (ld:eO) H',Same H H'->H' q=some (.tup [.ref ln,.ref ll])->H' ln=some (.lst xs)->bY H' xs (ds.map (jx (stI ld aI.length)))->H' ll=some (.lst (ld.map oV))->jU aI ds ld->Q (.ref q) H')
theorem iQ:aM ["_law_old","_law_cell","_law_state","_law_new_here","_law_order","_law_r","_law_leads","_law_some","_law_stands","_law_number","_law_led_here"] ["_law_old","_law_cell"] (ao gX):=by walk_at "sc1"
def LQ:Scope:={kind:=.function,names:=[(".0",.local),("_law_r",.local),("_law_leads",.free)],isGenerator:=false,isCoroutine:=false,more:=[]}
theorem Eo:cC (ao gX) LQ ["_law_old","_law_cell","_law_state","_law_new_here","_law_order","_law_r","_law_leads","_law_some","_law_stands","_law_number","_law_led_here"] ["_law_r","_law_leads"] [none,some 6]:=by walk_at "sc2"
def LR:Scope:={kind:=.function,names:=[(".0",.local),("_law_target",.local),("_law_where",.globalImplicit),("_law_stands",.free)],isGenerator:=false,isCoroutine:=false,more:=[]}
theorem Ep:cC (ao gX) LR ["_law_old","_law_cell","_law_state","_law_new_here","_law_order","_law_r","_law_leads","_law_some","_law_stands","_law_number","_law_led_here"] ["_law_target","_law_stands"] [none,some 8]:=by walk_at "sc2"
theorem yc{f fT fD fP fN fL fW:Addr}{fd pU Ed sr pT zI my:el}(F:cy K "_law_new" "_law_new" gX f fd)(T:Txt K w.params mg)(GT:aN P w K mg base bu 1 fT pU ["_law_row_here"] Lx)(kT:KI K fT)(bT:Binds K pU ["_law_row_here"] [])(mT:mg "_law_targets"=some (.ref fT))(GD:aN P w K mg base bu 1 fD Ed ["_law_state","_law_base"] kx)(kD:KI K fD)(bD:Binds K Ed ["_law_state","_law_base"] [])(mD:mg "_law_digit"=some (.ref fD))(GP:aN P w K mg base bu 2 fP sr ["_law_state","_law_start"] Lz)(kP:KI K fP)(bP:Binds K sr ["_law_state","_law_start"] [])(mP:mg "_law_put_in"=some (.ref fP))(GN:aN P w K mg base bu 1 fN pT ["_law_row_here","_law_targets_here","_law_far_here"] Ly)(kN:KI K fN)(bN:Binds K pT ["_law_row_here","_law_targets_here","_law_far_here"] [])(mN:mg "_law_turned"=some (.ref fN))(GL:aN P w K mg base bu 3 fL zI ["_law_new_here","_law_leads","_law_state","_law_old"] QR)(kL:KI K fL)(bL:Binds K zI ["_law_new_here","_law_leads","_law_state","_law_old"] [])(mL:mg "_law_led"=some (.ref fL))(GW:aN P w K mg base bu 1 fW my ["_law_target","_law_stands"] QB)(kW:KI K fW)(bW:Binds K my ["_law_target","_law_stands"] [])(mW:mg "_law_where"=some (.ref fW)):aN P w K mg base bu 4 f fd ["_law_old","_law_cell"] Q5:=by
 refine F.ok iQ (by walk_at "ln") (fun J4 A outer s H vs Q E hr h=>?_)
 ·obtain⟨lo,c,aI,rfl,hR,hG,hE,h1,h9,k⟩:=h;have hr1:=hr.mono (show 1<=_ by decide);have hr2:=hr.mono (show 2<=_ by decide);have hu0:=hr.oU
  refine ck (ak (aq (aT (i:=2) iQ.nd rfl (Or.inl rfl) (aY (ae (aG (rP rfl) (by rfl) T.max Dx (ae aj (ae (aS dO (pv 1) (aS Cz aj aj)) ah))) (ae (aS fc (pv 1) aj) (ae aj ah))))))
   (ak (aq (aT (i:=3) iQ.nd rfl (Or.inl rfl) (aY ah)))
   (ak (aq (aT (i:=4) iQ.nd rfl (Or.inl rfl) (aY ah)))
   (ak (aq (dA PassesOwn.never rfl (ei rfl T.range (ae (aG aK (by rfl) T.len bV (ae (pv 0) ah)) ah)) (bg (i:=5) iQ.nd rfl (Or.inl rfl)) (aJ (dy (iX ge PySem.F.slot_list_insert PySem.F.type_list_insert A3 (pv 4) (ae (aA GD hr1 (by rfl) mD kD bD .nil aQ (ae (pv 2) (ae (aS cL (aG aK (by rfl) T.len bV (ae (pv 4) ah)) aj) ah))) (ae (pv 5) ah)))))))
   (pF (bj (iK (aE rN (aH aO (pv 4) aj (fun _ _=>rfl)) aj (aP _)) (eZ (aE dJ (aA GD hr1 (by rfl) mD kD bD .nil aQ (ae (pv 2) (ae aj ah))) aj (aP _)))).pt (au (aq (aT (i:=3) iQ.nd rfl (Or.inl rfl) (aS gj (aA GP hr2 (by rfl) mP kP bP .nil aQ (ae (pv 2) (ae aj ah))) (aY (ae (aV (ae ay (ae (aS dO aj aj) (ae aj ah)))) ah)))))) (aU aF))
   (ak (aq (aT (i:=6) iQ.nd rfl (Or.inr rfl) (aS oY (aY (ae dM ah)) (aG aK (by rfl) T.len bV (ae (pv 3) ah)))))
   (ak (aq (dA PassesOwn.never rfl (cJ (pv 4)) (bg (i:=5) iQ.nd rfl (Or.inl rfl)) (aL (aT (i:=3) iQ.nd rfl (Or.inl rfl) (aS gj (pv 3) (aY (ae (aH aO (pv 0) (pv 5) (fun _ _=>rfl)) ah))))
   (aL (aT (i:=6) iQ.nd rfl (Or.inr rfl) (aS gj (pv 6) (aY (ae (pv 5) ah))))
   (aJ (cS (aE ip (aH aX (aH aO (pv 0) (pv 5) (fun _ _=>rfl)) aj (fun _ _=>rfl)) (aV (ae ay (ae ay (ae ay (ae ay ah))))) rfl) (aL (aT (i:=7) iQ.nd rfl (Or.inl rfl) (aS gj (aA GP hr2 (by rfl) mP kP bP .nil aQ (ae (pv 2) (ae (aG aK (by rfl) T.len bV (ae (pv 3) ah)) ah))) (aY (ae (aV (ae ay (ae (aS dO (aS dO aj aj) (pv 5)) (ae (aA GD hr1 (by rfl) mD kD bD .nil aQ (ae (pv 2) (ae aj ah))) ah)))) ah))))
   (aL (aT (i:=3) iQ.nd rfl (Or.inl rfl) (aS gj (pv 3) (pv 7)))
   (aJ (aT (i:=6) iQ.nd rfl (Or.inr rfl) (aS gj (pv 6) (aS oY (aY (ae dM ah)) (aG aK (by rfl) T.len bV (ae (pv 7) ah)))))))) aF))))))
   (ak (aq (e9 (aA GL hr (by rfl) mL kL bL .nil aQ (ae (pv 3) (ae (pv 6) (ae (pv 2) (ae (pv 0) ah))))) (wA (n:=2) rfl (gJ (bg (i:=3) iQ.nd rfl (Or.inl rfl)) (gJ (bg (i:=6) iQ.nd rfl (Or.inr rfl)) sC)))))
   (ak (aq (aT (i:=8) iQ.nd rfl (Or.inr rfl) (cW (N':=["_law_r","_law_leads"]) (fr:=[none,some 6]) Eo rfl (ei rfl T.range (ae (aG aK (by rfl) T.len bV (ae (pv 0) ah)) ah)) (fun C s0 H0 fp=>(bg (i:=0) Eo.nd rfl (Or.inl rfl))) (fun C s0 H0 fp=>df) (fun C s0 H0 fp=>(iX ge PySem.F.slot_list_index PySem.F.type_list_index A4 (pv 1) (ae (pv 0) ah):PE _ _ (YH K "list" zv (Aq 1) (uV (Aq 0) wL)))))))
   (ak (aq (dA PassesOwn.never rfl (ei rfl T.range (ae (aG aK (by rfl) T.len bV (ae (pv 3) ah)) ah)) (bg (i:=9) iQ.nd rfl (Or.inl rfl)) (aL (oC (i:=10) (N':=["_law_target","_law_stands"]) (fr:=[none,some 8]) iQ.nd rfl rfl Ep rfl (cJ (aA GT hr1 (by rfl) mT kT bT .nil aQ (ae (aH aO (pv 3) (pv 9) (fun _ _=>rfl)) ah))) (fun C s0 H0 fp=>(bg (i:=0) Ep.nd rfl (Or.inl rfl))) (fun C s0 H0 fp=>df) (fun C s0 H0 fp=>(aA GW hr1 (by rfl) mW kW bW .nil aQ (ae (pv 0) (ae (pv 1) ah)))))
   (aJ (cS (aE (sW hu0) (pv 10) (aY ah) (aP _)) (aJ (e9 (aA GN hr1 (by rfl) mN kN bN .nil aQ (ae (aH aO (pv 3) (pv 9) (fun _ _=>rfl)) (ae (pv 10) (ae (aH aX (aH aO (pv 3) (pv 9) (fun _ _=>rfl)) (iV fh aj) (fun _ _=>rfl)) ah)))) (ie (pv 3) (pv 9) set_list))) aF)))))
   (au (aq (aC (aV (ae (pv 3) (ae (pv 6) ah)))))))))))))))) ?_
  obtain⟨qs,q0,q1,q2⟩:=id hR;refine⟨_,rfl,_,_,rfl,rfl,⟨by decide,by decide,by decide⟩,_,_,rfl,rfl,_,_,rfl,_,rfl,_,_,rfl,rfl,eF,xv,fun l nl=>?_⟩;refine bZ nl fun G1 s1 g1=>⟨zle,fun ln n2=>bZ n2 fun G2 s2 g2=>⟨zle,fun lq n3=>bZ n3 fun G3 s3 g3=>?_⟩⟩;have st3:qG G3 l:=⟨_,_,_,(s2.trans s3) _ _ g1⟩;have S3:=s1.trans (s2.trans s3);have SX:=s1.free n2;have nlq:=(s1.trans s2).free n3;have e1:ln≠l:=fun z=>by rw[z,g1]at n2;cases n2
  have e2:lq≠l:=fun z=>by rw[z,s2 _ _ g1]at n3;cases n3
  have e3:lq≠ln:=fun z=>by rw[z,g2]at n3;cases n3
  have gn:=s3 _ _ g2;clear g1 g2 n2 n3 s1 s2 s3;refine⟨_,rfl,lo,_,rfl,.inl (aR.of (S3 _ _ q0)),_,rfl,by rw[length_map];omega,by rw[length_map];omega,gL (lo:=0) (n:=(((qs.map V.ref).length:Nat):Int).toNat) (fun i σ G=>∃(v5:Option V) (os:List Int),σ=[some (.ref lo),some (.int c),some (.ref l),some (.ref ln),some (.ref lq),v5,none,none,none,none,none]/\Same H G/\qG G l/\G ln=some (.lst [])/\G lq=some (.lst (os.map V.int))/\os.Perm (iO i)) ?_ ?_ ?_⟩
  ·exact⟨none,[],rfl,S3,st3,gn,g3,.refl _⟩
  ·rintro i σ G hi ⟨v5,os,rfl,s4,Gc,SY,FC,Ce⟩;rw[lv,length_map,q1]at hi;show iL _ (.int (0+(i:Int))) _ _ _;rw[Int.zero_add];have hol:os.length=i:=by rw[Ce.length_eq];unfold iO;rw[length_map,length_range]
   refine⟨_,rfl,.inl ⟨rfl,_,aR.of FC⟩,_,rfl,_,rfl,lq,_,rfl,.inl (aR.of FC),_,_,rfl,rfl,l,_,rfl,Gc,by omega,by rw[length_map];omega,fun d G5 d0 d1 wq Bp=>?_⟩;obtain⟨dn,rfl⟩:=Int.eq_ofNat_of_zero_le d0;rw[length_map]at d1;have SZ:=Bp _ _ e2 FC;refine⟨_,rfl,lq,_,dn,_,rfl,rfl,SZ,by rw[length_map];omega,bh (by rw[length_map];omega),by omega,?_⟩;refine⟨_,os.take dn++(i:Int)::os.drop dn,rfl,aZ (cY.of s4 nl Bp) nlq,wq.upd e2,(az e3.symm).trans (Bp _ _ e1 SY),?_,?_⟩
   ·rw[ai,map_append,map_cons,map_take,map_drop]
   ·have:iO (i+1)=iO i++ [(i:Int)]:=by unfold iO;rw[List.range_succ,map_append];rfl
    rw[this];refine List.perm_middle.trans ?_;rw[List.take_append_drop];exact(List.Perm.cons _ Ce).trans (List.perm_append_singleton _ _).symm
  rintro σ G ⟨v5,os,rfl,s4,Gc,SY,FC,Ce⟩;rw[lv,length_map,q1]at Ce;have hol:os.length=aI.length:=by rw[Ce.length_eq];unfold iO;rw[length_map,length_range]
  obtain⟨o0,Z0⟩:∃o,os[0]? =some o:=⟨_,ac (by omega)⟩;refine⟨fun σ G=>∃(ln:Addr) (xs:List V) (ds:List FR),σ=[some (.ref lo),some (.int c),some (.ref l),some (.ref ln),some (.ref lq),v5,none,none,none,none,none]/\Same H G/\qG G l/\G lq=some (.lst (os.map V.int))/\H ln=none/\ln≠l/\G ln=some (.lst xs)/\bY G xs ds/\ds.length<=5/\((ds=[]/\os[0]? =some 0)\/LJ 0 (-1) ds),?_,?_⟩
  ·have V9:lh (os.map V.int) 0=some (.int o0):=cj (j:=0) (by rw[ag,Z0];rfl);refine⟨_,rfl,lq,_,_,_,rfl,rfl,aR.of FC,V9,rfl,_,rfl,cK (fun e=>?_) (fun e=>⟨_,rfl,l,2,rfl,Gc,by decide,by decide,fun d G5 _ _ wq Bp=>⟨rfl,_,rfl,cK (fun e5=>?_) (fun e5=>?_)⟩⟩)⟩;rotate_left 2
   ·have h0:o0=0:=by
     by_cases z:o0=0
     ·exact z
     ·exact absurd (by rw[decide_eq_false (fun y=>z (V.int.inj y))];rfl) e
    exact⟨ln,[],[],rfl,cY.of s4 nl Bp,wq,Bp _ _ e2 FC,SX,e1,Bp _ _ e1 SY,di,zero_le _,.inl ⟨rfl,by rw[Z0,h0]⟩⟩
   rotate_left 1;have s4:=cY.of s4 nl Bp;have Gc:=wq;have FC:=Bp _ _ e2 FC
   all_goals
    refine⟨_,rfl,l,0,rfl,Gc,fun pw pb pa lp ys G8 hb ha LM QU np SU LN hys=>?_⟩;have hpl:=ud pw pb pa 0;have hyl:=hys.len;refine⟨_,_,rfl,rfl,zle,fun tj nj=>bZ nj fun NS qN HB=>⟨zle,fun lj QW=>bZ QW fun SV pj Jl=>⟨lp,lj,ys,_,rfl,rfl,(qN.trans pj) _ _ LN,Jl,cH (by simp;omega),fun l7 n7=>bZ n7 fun QX s12 Fy=>?_⟩⟩⟩;have Fz:=qN.trans (pj.trans s12);have S8:=cY.of s4 nl LM;have Z1:G8 l7=none:=(qN.trans pj).free n7;refine⟨l7,_,_,rfl,S8.trans Fz,QU.same Fz,Fz _ _ (LM _ _ e2 FC),S8.free Z1,QU.ne Z1,Fy,(hys.tups (.of Fz)).snoc (eJ (t:=-1) (by decide) ((pj.trans s12) _ _ HB)),by rw[length_append];simp;omega,.inr ⟨pw,pb,pa,1,hb,ha,rfl⟩⟩
  rintro σ G5 ⟨ln,xs,ds,rfl,s5,wq,SZ,SX,e1,Ta,hxs,h5,hds⟩;clear s4 Gc SY FC gn e3 S3 st3 g3;have QS:=hxs.len;refine⟨zle,fun l8 n8=>bZ n8 fun G6 s6 g6=>⟨_,rfl,ln,_,rfl,.inl (aR.of (s6 _ _ Ta)),l8,_,_,rfl,rfl,g6,by omega,by omega,cH (by simp;omega),fun ll Sn=>?_⟩⟩;rw[lv,QS,Ej];refine bZ Sn fun G7 s7 g7=>?_;have Jp:=s6.trans s7;have LS:=s6.free Sn;have hS0:iR H l lo l aI G7 ln ll xs ds (replicate ds.length none):=⟨.same (s5.trans Jp),.same (s5.trans Jp),wq.same Jp,hR.same (s5.trans Jp),Jp _ _ Ta,hxs.tups (.of Jp),g7,.inr SX,e1,wq.ne LS,(fun z=>by rw[z,Ta]at LS;cases LS),bt q0 nl,bt q0 SX⟩;have Z2:Mid aI ds (replicate ds.length none) 0:=by
   rcases hds with ⟨rfl,_⟩ | z
   ·exact Mid.nil
   ·exact(Mid.nil.piece z (by omega) (by omega)).1
  have Sb:(ds=[]/\os[0]? =some 0)\/Blk ds (replicate ds.length none) 0 (-1):=hds.imp id fun z=>(Mid.nil (aI:=aI).piece z (by omega) (by omega)).2;have Wa:=Jp _ _ SZ;clear hds s5 Jp s6 s7 g6 g7 SZ Ta;refine⟨_,rfl,lq,rfl,⟨_,aR.of Wa⟩,gK (K:=K) (xs:=os.map V.int) (fun i σ G=>∃(v5 v7:Option V) (ln ll:Addr) (xs:List V) (ds:List FR) (ld:eO),σ=[some (.ref lo),some (.int c),some (.ref l),some (.ref ln),some (.ref lq),v5,some (.ref ll),v7,none,none,none]/\iR H l lo l aI G ln ll xs ds ld/\Mid aI ds ld 0/\G lq=some (.lst (os.map V.int))/\ld.filterMap id=os.take i/\((ds=[]/\i=0/\os[0]? =some 0)\/ld[0]? =some (some 0)\/Blk ds ld 0 (-1))/\ds.length<=5+6*i) ?_ ?_ ?_ ?_⟩
  ·refine⟨_,_,ln,ll,xs,ds,_,rfl,hS0,Z2,Wa,?_,Sb.imp (fun z=>⟨z.1,rfl,z.2⟩) .inr,by omega⟩;rw[List.take_zero,List.filterMap_eq_nil_iff];exact fun a ha=>(mem_replicate.mp ha).2
  ·rintro i σ G _ ⟨v5,v7,ln,ll,xs,ds,ld,rfl,_,_,gq,_⟩;exact aR.of gq
  ·rintro i x σ G hx ⟨v5,v7,ln,ll,xs,ds,ld,rfl,h6,m6,gq,hf,hb0,Fv⟩;rw[ag]at hx;obtain⟨r,hr0,rfl⟩:=map_eq_some_iff.mp hx;have hi:=(al.mp hr0).1;obtain⟨rn,rfl,hrn⟩:∃rn:Nat,r=(rn:Int)/\rn<aI.length:=by obtain⟨a,ha,rfl⟩:=mem_map.mp (Ce.mem_iff.mp (am hr0));exact⟨a,rfl,mem_range.mp ha⟩
   have he:aI[rn]? =some aI[rn]:=ac hrn;have hge:=hG _ (bi hrn);generalize aI[rn]=e at he hge;have Wb:=h6.rw.len;have Q6:=m6.len;obtain⟨Sg,qe,g1,g2,g3,hF⟩:=h6.ol.get he;refine⟨_,rfl,_,rfl,_,rfl,lo,_,_,.ref qe,rfl,rfl,aR.of g1,g2,zle,fun la na=>bZ na fun G7 s7 g7=>⟨ln,la,_,_,rfl,rfl,s7 _ _ h6.nw,g7,cH (by simp;omega),fun Tb nn=>bZ nn fun G8 s8 g8=>?_⟩⟩;refine⟨_,rfl,_,rfl,zle,fun lb nb=>bZ nb fun G9 s9 g9=>⟨ll,lb,_,_,rfl,rfl,((s7.trans s8).trans s9) _ _ h6.le,g9,cH (by simp;omega),fun Wc nq=>?_⟩⟩;rw[show ld.map oV++ [V.int (rn:Int)]=(ld++ [some (rn:Int)]).map oV by rw[map_append];rfl];refine bZ nq fun NS qN HB=>?_;have Tc:=s7.trans (s8.trans (s9.trans qN));obtain⟨nnH,nn1,nn2,nn3,nn4⟩:=(h6.same s7).fresh nn;obtain⟨ZU,nq1,nq2,ZV,V4⟩:=(h6.same (s7.trans (s8.trans s9))).fresh nq;have Wd:=hF.same Tc;have h6':=h6.same Tc;have h10:iR H l lo l aI NS Tb Wc (xs++ [.ref qe]) (ds++ [e]) (ld++ [some (rn:Int)]):=⟨h6'.kp,h6'.gr,h6'.st,h6'.ol,(s9.trans qN) _ _ g8,h6'.rw.snoc Wd,HB,.inr nnH,nn4,V4,(fun z=>by rw[z,s9 _ _ g8]at nq;cases nq),h6'.n2.2.2.2.1,nn3.symm⟩;have Q7:=Tc _ _ gq;have hf1:∀k:Nat,(ld++ [some (rn:Int)]++replicate k none).filterMap id=os.take (i+1):=fun k=>by rw[filterMap_append,filterMap_append,hf,take_add_one,hr0,(List.filterMap_eq_nil_iff (f:=id) (l:=replicate k (none:Option Int))).mpr (fun a ha=>(mem_replicate.mp ha).2),append_nil];rfl
   have hb1:∀ps:List FR,((ds++ [e]++ps=[]/\i+1=0/\os[0]? =some 0)\/(ld++ [some (rn:Int)]++replicate ps.length none)[0]? =some (some 0)\/Blk (ds++ [e]++ps) (ld++ [some (rn:Int)]++replicate ps.length none) 0 (-1)):=fun ps=>by
    have hE:=uc (ds:=ds) (ld:=ld) ([e]++ps) ([some (rn:Int)]++replicate ps.length none);rw[<-append_assoc,<-append_assoc]at hE;rcases hb0 with ⟨rfl,rfl,z⟩ | z | z
    ·rw[z]at hr0;have e0:=Option.some.inj hr0;have:ld=[]:=length_eq_zero_iff.mp Q6;subst this;rw[<-e0];exact .inr (.inl rfl)
    ·refine .inr (.inl ?_);rw[append_assoc,ax (al.mp z).1];exact z
    ·exact .inr (.inr (z.ext hE))
   clear h6 h6' hf hb0 g7 g8 g9 HB s7 s8 s9 qN Tc gq hF nn nq na nb g1 g2 g3;obtain⟨Sg,Z3,g1,g2,g3,hF⟩:=h10.ol.get he;obtain⟨items,hqi,_⟩:=hF.parts;refine⟨_,rfl,_,rfl,lo,_,_,.ref Z3,rfl,rfl,aR.of g1,g2,Z3,_,0,_,rfl,rfl,bp.of hqi,at0 _ _,zle,fun te VQ=>bZ VQ fun SV pj Jl=>⟨te,cv.map V.str,rfl,.inr (bp.of Jl),rfl,rfl,_,rfl,?_⟩⟩;rw[show inV (.str e.u) (cv.map V.str)=decide (e.u∈cv)from cX _ _];have h11:=h10.same pj;have LV:=pj _ _ Q7;by_cases c0:e.u∈cv
   ·rw[decide_eq_true c0];refine bU (by decide) ?_;have:=m6.row he hge.ok (ps:=[]) (.inl ⟨c0,rfl⟩);have f0:=hf1 0;have b0:=hb1 [];rw[List.length_nil,replicate_zero,append_nil,append_nil]at this b0;rw[replicate_zero,append_nil]at f0;exact⟨_,_,Tb,Wc,_,_,_,rfl,h11,this,LV,f0,b0,by rw[length_append];simp;omega⟩
   rw[decide_eq_false c0];refine c6 (by decide) ?_;have hon:=hE.on he c0;have exl:(xs++ [V.ref qe]).length=ds.length+1:=by rw[length_append,Wb];rfl
   refine⟨_,rfl,_,rfl,Tb,_,rfl,.inl (aR.of h11.nw),l,_,rfl,h11.st,fun pw pb pa lp ys QX hb ha LW Q8 np SU LN hys=>?_⟩;have h12:=h11.dig LW Q8;rw[exl]at hys;refine⟨_,_,rfl,rfl,_,rfl,_,_,rfl,rfl,_,rfl,l,2,rfl,h12.st,by decide,by decide,fun fj V3 _ _ Q9 Er=>⟨zle,fun tj nj=>?_⟩⟩;have h13:=h12.dig Er Q9;have Wf:=Er _ _ e2 (LW _ _ e2 LV);have Ra:=Er _ _ SU LN;have Jq:=hys.tups (h12.Ei Er);clear h10 h11 h12 LW Er Q8 Q9 Q7 LV LN hys;refine bZ nj fun NT uM QZ=>⟨zle,fun lj QW=>bZ QW fun ZW B8 V5=>?_⟩;have hpl:=ud pw pb pa ((ds.length+1:Nat):Int);have hyl:=Jq.len;refine⟨lp,lj,ys,_,rfl,rfl,(uM.trans B8) _ _ Ra,V5,cH (by simp;omega),fun l7 n7=>bZ n7 fun V7 HC Q0=>?_⟩;have Bk:=uM.trans (B8.trans HC);have IK:=h13.same Bk;have hps:bY V7 (ys++ [V.ref tj]) (iG pw pb pa ((ds.length+1:Nat):Int)++ [FR.mk "jump" [-2- (rn:Int),fj] [-2- (rn:Int)]]):=(Jq.tups (.of Bk)).snoc (eJ (by decide) ((B8.trans HC) _ _ QZ));have Ek:LJ (ds.length+1) (-2- (rn:Int)) (iG pw pb pa ((ds.length+1:Nat):Int)++ [FR.mk "jump" [-2- (rn:Int),fj] [-2- (rn:Int)]]):=⟨pw,pb,pa,fj,hb,ha,rfl⟩;have LO:(iG pw pb pa ((ds.length+1:Nat):Int)++ [FR.mk "jump" [-2- (rn:Int),fj] [-2- (rn:Int)]]).length<=5:=by rw[length_append];simp at hpl ⊢;omega
   generalize (iG pw pb pa ((ds.length+1:Nat):Int)++ [FR.mk "jump" [-2- (rn:Int),fj] [-2- (rn:Int)]])=ps at hps Ek LO;generalize ys++ [V.ref tj]=zs at Q0 hps;have V2:=hps.len;refine⟨_,rfl,_,rfl,Tb,l7,_,_,rfl,rfl,IK.nw,Q0,cH (by omega),fun l9 n9=>bZ n9 fun Wg zW Z4=>?_⟩;have UR:=IK.same zW;obtain⟨n9H,n91,n92,n93,n94⟩:=IK.fresh n9;refine⟨_,rfl,zle,fun l8 n8=>bZ n8 fun Z5 Bq Wh=>⟨_,rfl,l7,_,rfl,.inl (aR.of ((zW.trans Bq) _ _ Q0)),l8,_,_,rfl,rfl,Wh,by omega,by omega,cH (by simp;omega),fun la na=>?_⟩⟩;rw[lv,V2,Ej];refine bZ na fun Z6 Rb Td=>?_;have Wi:=Bq.trans Rb;have US:=UR.same Wi;refine⟨Wc,la,_,_,rfl,rfl,US.le,Td,cH (by rw[length_map,length_map,length_replicate,length_append,Q6];simp;omega),fun lr nr=>?_⟩;rw[<-map_append];refine bZ nr fun G20 Jr g20=>?_;obtain⟨nrH,nr1,nr2,nr3,V8⟩:=US.fresh nr;have Tf:=Wi.trans Jr;have NU:=UR.same Tf;refine⟨_,_,l9,lr,_,_,_,rfl,⟨NU.kp,NU.gr,NU.st,NU.ol,Tf _ _ Z4,NU.rw.app (hps.tups (.of (zW.trans Tf))),g20,.inr n9H,n94,V8,(fun z=>by rw[z,Wi _ _ Z4]at nr;cases nr),NU.n2.2.2.2.1,n93.symm⟩,m6.row he hge.ok (.inr ⟨Ek,hon⟩),(Bk.trans (zW.trans Tf)) _ _ Wf,hf1 _,hb1 ps,by rw[length_append,length_append];simp;omega⟩
  rintro σ G6 ⟨v5,v7,ln,ll,xs,ds,ld,rfl,h6,m6,gq,hf,hb0,Fv⟩;rw[length_map]at hf Fv hb0;rw[take_of_length_le (le_refl _)]at hf;have hb0:=hb0.resolve_left (fun z=>by omega);clear hS0 Z2 Sb Wa QS hxs;have hTs:∀e∈aI,∀t∈e.ts,t< (aI.length:Nat):=fun e he t ht=>((hG e he).ts.2 t ht).2;have hc:cnt ld ds.length<=9:=by unfold cnt;rw[take_of_length_le (le_of_eq m6.len),hf];omega
  refine⟨_,rfl,_,rfl,_,rfl,_,rfl,ln,ll,l,lo,xs,ds,aI,ld,_,rfl,h6.self,m6,hG,hTs,by omega,hc,fun q El Jm xs1 c5 kk G7 g7 h7 m7 x7 l7=>?_⟩;have h7:=h6.back nl h7;have Wj:(ld++replicate kk none)[0]? =some (some 0)\/Blk c5 (ld++replicate kk none) 0 (-1):=hb0.imp (fun z=>by rw[ax (al.mp z).1];exact z) (fun z=>z.ext x7);have Wk:(ld++replicate kk none).filterMap id=os:=by rw[filterMap_append,hf,(List.filterMap_eq_nil_iff (f:=id) (l:=replicate kk (none:Option Int))).mpr (fun a ha=>(mem_replicate.mp ha).2),append_nil]
  generalize ld++replicate kk none=FA at h7 m7 x7 Wj Wk;have FD:jU aI c5 FA:=⟨m7,Wj,⟨m7.len,by rw[Wk];exact Ce⟩,l7⟩;clear Wj Wk x7 h6 m6 hb0 hf Fv hc gq;have S7:=h7.all nl;refine⟨q,_,rfl,bp.of g7,rfl,_,_,rfl,_,_,rfl,rfl,?_⟩;refine⟨_,rfl,lo,_,rfl,.inl (aR.of (S7 _ _ q0)),_,rfl,by rw[length_map];omega,by rw[length_map];omega,fun D nD=>?_⟩;obtain⟨LD,Fx⟩:=h7.fresh nD;refine pq (lo:=0) (n:=(((qs.map V.ref).length:Nat):Int).toNat) (fun i σ ys G=>∃v:Option V,σ=[v,some (.ref Jm)]/\ys=(stI FA i).map V.int/\Same G7 G/\G D=some (.lst ys)) ?_ ?_ ?_
  ·exact⟨none,rfl,rfl,aw nD,ai⟩
  ·rintro i σ ys G hi ⟨v,rfl,rfl,s8,hD⟩;rw[lv,length_map,q1]at hi;show iL _ (.int (0+(i:Int))) _ _ _;rw[Int.zero_add];have hst:=ia FD.Jo hi;refine⟨_,rfl,.inl ⟨rfl,_,aR.of (s8 _ _ h7.le)⟩,_,rfl,Jm,_,(i:Int),ef FA i,rfl,rfl,s8 _ _ h7.le,fun y hy=>?_,by rw[ag,hst.1];rfl,fun m hm z=>?_,by rw[length_map,m7.len];omega,hD,bh (by unfold stI;rw[length_map,length_map,length_range];omega),_,rfl,?_,aZ s8 nD,ai⟩
   ·obtain⟨o,_,rfl⟩:=mem_map.mp hy;cases o with
    | none=>exact .inl rfl
    | some j=>exact .inr ⟨j,rfl⟩
   ·rw[ag]at z;obtain⟨o,ho,ho2⟩:=map_eq_some_iff.mp z;cases o with
    | none=>cases ho2
    | some j=>
     have:j=(i:Int):=V.int.inj ho2;subst this;have:=hst.2 m ho;omega
   ·unfold stI;rw[List.range_succ,map_append,map_append];rfl
  rintro σ ys G8 ⟨v,rfl,rfl,s8,hD⟩;rw[lv,length_map,q1]at hD;have h8:=h7.same s8;have Wl:(stI FA aI.length).length=aI.length:=by unfold stI;rw[length_map,length_range]
  generalize hst:stI FA aI.length=st at hD k Wl;have hx1:=h8.rw.len;refine⟨_,rfl,El,_,rfl,.inl (aR.of h8.nw),_,rfl,by omega,by omega,gL (lo:=0) (n:=((xs1.length:Nat):Int).toNat) (fun i σ G=>∃(v9 v10:Option V) (xs:List V),σ=[some (.ref lo),some (.int c),some (.ref l),some (.ref El),some (.ref lq),v5,some (.ref Jm),v7,some (.ref D),v9,v10]/\iR H l lo l aI G El Jm xs (vM st c5 i) FA/\G D=some (.lst (st.map V.int))) ?_ ?_ ?_⟩
  ·exact⟨none,none,xs1,rfl,by unfold vM;rw[List.take_zero,List.drop_zero];exact h8,hD⟩
  ·rintro i σ G hi ⟨v9,v10,xs,rfl,h9,Fw⟩;rw[lv,hx1]at hi;show iL _ (.int (0+(i:Int))) _ _ _;rw[Int.zero_add];have hd:c5[i]? =some c5[i]:=ac hi;generalize c5[i]=d at hd;obtain⟨IK,hlow⟩:=m7.low hG hd;obtain⟨qd,hqd,hF⟩:=h9.rw.get (zT hd);have hil:=(al.mp hqd).1;refine⟨_,rfl,_,rfl,El,_,_,_,rfl,rfl,aR.of h9.nw,cj hqd,qd,d,rfl,hF,fun lt NS qN nt ht=>?_⟩;refine⟨lt,rfl,⟨_,aR.of ht⟩,fun D2 Fp=>cO (K:=K) (xs:=d.ts.map V.int) (fun j τ zs G=>∃v:Option V,τ=[v,some (.ref D)]/\zs=((d.ts.take j).map (wy st)).map V.int/\Same NS G/\G D2=some (.lst zs)) ?_ ?_ ?_ ?_⟩
   ·exact⟨none,rfl,rfl,aw Fp,ai⟩
   ·rintro j τ zs G _ ⟨v,rfl,rfl,pj,_⟩;exact aR.of (pj _ _ ht)
   ·rintro j x τ zs G hx ⟨v,rfl,rfl,pj,hD2⟩;rw[ag]at hx;obtain⟨x0,hx0,rfl⟩:=map_eq_some_iff.mp hx;have hj:=(al.mp hx0).1;have h0:=hlow x0 (am hx0);refine⟨_,rfl,_,rfl,x0,D,st,rfl,(qN.trans pj) _ _ Fw,by omega,hD2,bh (by rw[length_map,length_map,length_take];omega),_,rfl,?_,aZ pj Fp,ai⟩;rw[take_add_one,hx0,toList_some,map_append,map_append];rfl
   rintro τ zs SV ⟨v,rfl,rfl,pj,hD2⟩;rw[length_map,take_of_length_le (le_refl _)]at hD2;have Es:=qN.trans pj;have h11:=h9.same Es;have Wm:=hF.same Es;refine⟨_,rfl,zle,fun l0 n0=>bZ n0 fun QX s12 Fy=>⟨D2,l0,_,([]:List Int).map V.int,rfl,rfl,aR.of (s12 _ _ hD2),aR.of Fy,fun i a b h1 h2=>(by cases h2),_,rfl,?_⟩⟩;have h12:=h11.same s12;have Rc:=(Es.trans s12) _ _ Fw;refine cK (fun e=>?_) (fun e=>?_);rotate_left
   ·have e0:(d.ts.map (wy st)).map V.int=([]:List Int).map V.int:=by
     by_cases z:(d.ts.map (wy st)).map V.int=([]:List Int).map V.int
     ·exact z
     ·exact absurd (by rw[decide_eq_false z];rfl) e
    have e1:d.ts=[]:=by rw[map_map,map_nil,List.map_eq_nil_iff]at e0;exact e0
    have e2:jx st d=d:=by have:=ky hF.1;unfold jx;rw[e1]at this ⊢;exact this
    refine⟨_,_,xs,rfl,?_,Rc⟩;have:=zU (st:=st) hd;rw[e2,set_same (zT hd)]at this;rw[<-this];exact h12
   have LX:=Wm.same s12;obtain⟨items,hit,_⟩:=LX.parts;obtain⟨v,hv⟩:∃v,(V.str d.u::items).getLast? =some v:=⟨_,List.getLast?_eq_some_getLast (cons_ne_nil _ _)⟩;refine⟨_,rfl,_,rfl,El,_,_,_,rfl,rfl,aR.of h12.nw,cj hqd,_,rfl,_,rfl,_,rfl,El,_,_,_,rfl,rfl,aR.of h12.nw,cj hqd,_,rfl,qd,_,_,v,rfl,rfl,bp.of hit,jR hv,qd,D2,d,d.ts.map (wy st),v,d7 d,rfl,LX,s12 _ _ hD2,fun z=>?_,fun q2 V3 km hq2=>?_⟩
   ·have ht:=LX.nt (tY z);rw[hit]at ht;have hi2:=(List.cons.inj (HO.tup.inj (Option.some.inj ht))).2;obtain⟨t,_,e2⟩:=t7 hF.1 z;refine⟨?_,by rw[e2];exact cons_ne_nil _ _⟩;rw[hi2]at hv;unfold d7;rw[if_pos z];rcases(by decide+kernel:∀u∈cI,u∈eT\/u∈zb) d.u z with y | y
    ·obtain⟨t,f,a,_⟩:=hF.1.2.2.1 y;rw[a]at hv ⊢;cases hv;rfl
    ·obtain⟨b,t,f,a,_⟩:=hF.1.2.2.2.1 y;rw[a]at hv ⊢;cases hv;rfl
   have h13:=h12.same km;refine⟨_,rfl,_,rfl,El,_,_,i,rfl,rfl,h13.nw,zJ hil,?_⟩;have hs:=h13.QP (j:=i) hq2;rw[show dj (d.ts.map (wy st)) (d7 d) d=jx st d from rfl,zU hd]at hs;refine⟨_,_,_,rfl,hs,?_⟩;rw[az Fx.1];exact km _ _ Rc
  ·rintro σ G ⟨v9,v10,xs,rfl,h9,Fw⟩;rw[lv,hx1]at h9;unfold vM at h9;rw[take_of_length_le (le_refl _),List.drop_of_length_le (le_refl _),append_nil]at h9;refine⟨_,rfl,_,rfl,zle,fun q nq=>bZ nq fun G2 s2 g2=>?_⟩;have h10:=h9.same s2;exact k q El Jm xs c5 FA G2 (h10.all nl) g2 h10.nw (by rw[hst];exact h10.rw) h10.le FD
def ph(s T m:Nat)(t:Nat):Nat:=if t<m then s+t else T
def up(s T m:Nat)(b:Bd):Bd:=⟨ph s T m b.pl,b.held,b.af,fun p=>b.gn (p-s)⟩
def NV(t:Int)(s:WS):WS:=⟨s.n,s.lo,s.es.map fun k=>(t,k.2)⟩
def Et(m:Nat):eO:=replicate m none++ [some 0]
theorem Eu{m j:Nat}(h:j<m):(Et m)[j]? =some none:=by unfold Et;rw[ax (by rw[length_replicate];exact h),List.getElem?_replicate,if_pos h]
theorem LY{m:Nat}:(Et m)[m]? =some (some 0):=by unfold Et;rw[bc (by rw[length_replicate];exact le_refl _),length_replicate,sub_self];rfl
def off3:List Str:=["jump","zero","below"]
def RR(s T m j:Nat)(d e:FR):Prop:=d.u=e.u/\(d.u∈off3\/d.is=e.is)/\nxt d ((s+j:Nat):Int)=(nxt e (j:Int)).map (fun t=>((ph s T m t.toNat:Nat):Int))/\∀t∈nxt e (j:Int),0<=t/\t<=m
structure Tg(ds:List FR)(ld:eO)(s T:Nat)(t:Int)(ps:List FR):Prop where
 row:∀j e,ps[j]? =some e->∃d,ds[s+j]? =some d/\RR s T ps.length j d e
 non:∀j,j<ps.length->ld[s+j]? =some none
 end_:ld[T]? = some (some t)
def K0(s:WS):Prop:=∀k∈s.es,k.1=0
theorem HD{t:Int}{es:List NK}(h:∀k∈es,k.1=0)(hd:List (Option Int)):lR (es.map fun k=>(t,k.2)) (t,hd)=(lR es (0,hd)).map fun k=>(t,k.2):=by
 have e:(t,hd)∈(es.map fun k=>(t,k.2))↔((0:Int),hd)∈es:=by
  rw[mem_map];constructor
  ·rintro⟨k,hk,e⟩;have h1:=h k hk;have h2:k.2=hd:=(Prod.mk.inj e).2;rw[show((0:Int),hd)=k from Prod.ext h1.symm h2.symm];exact hk
  ·intro hk;exact⟨_,hk,rfl⟩
 unfold lR;by_cases c:((0:Int),hd)∈es
 ·rw[if_pos c,if_pos (e.mpr c)]
 ·rw[if_neg c,if_neg (fun z=>c (e.mp z)),map_append];rfl
theorem LZ{es:List NK}(h:∀k∈es,k.1=0)(hd:List (Option Int)):∀k∈lR es (0,hd),k.1=0:=fun k hk=>by
 unfold lR at hk;split at hk
 ·exact h k hk
 ·rcases mem_append.mp hk with z | z
  ·exact h k z
  ·rw[mem_singleton.mp z]
theorem zX{b:Bd}{d e:FR}{s T m j:Nat}(h:RR s T m j d e)(hb:b.pl<m)(p:Nat):({dF (up s T m b) d with pl:=ph s T m p}:Bd)=up s T m {dF b e with pl:=p}:=by
 have hg:gC (fun p=>b.gn (p-s)) ((s+b.pl:Nat):Int) true=fun p:Int=>(gC b.gn (b.pl:Int) true) (p-s):=by
  funext p;unfold gC;by_cases c:p=((s+b.pl:Nat):Int)
  ·rw[if_pos c,if_pos (by omega)]
  ·rw[if_neg c,if_neg (by omega)]
 have hp:ph s T m b.pl=s+b.pl:=if_pos hb;rcases h.2.1 with c | c
 ·obtain⟨n1,n2,n3,n4⟩:=(by decide+kernel:∀u∈off3,¬u ="copy"/\¬u ="take"/\¬u ="put"/\¬u∈lQ) _ c;unfold dF;rw[<-h.1,if_neg n1,if_neg n2,if_neg n3,if_neg n4,if_neg n1,if_neg n2,if_neg n3,if_neg n4];unfold up;dsimp only;rw[hp,hg]
 ·unfold dF up;dsimp only;rw[h.1,c,hp,hg];split
  ·rfl
  split
  ·rfl
  split
  ·rfl
  split<;>rfl
theorem ug{ds:List FR}{ld:eO}{f:Nat}{s:WS}{b:Bd}{fk:List Bd}{k:Int}(h:ld[b.pl]? =some (some k)):tV ds ld (f+1) s b fk=some ({s with es:=lR s.es (k,b.held)},fk):=by rw[tV,h]
theorem zY{ds ps:List FR}{ld:eO}{s0 T:Nat}{t:Int}(hp:Tg ds ld s0 T t ps):∀(f:Nat) (s:WS) (b:Bd) (fk:List Bd) (s':WS) (Ft:List Bd),K0 s->b.pl<=ps.length->(∀c∈fk,c.pl<=ps.length)->tV ps (Et ps.length) f s b fk=some (s',Ft)->
  tV ds ld f (NV t s) (up s0 T ps.length b) (fk.map (up s0 T ps.length))=some (NV t s',Ft.map (up s0 T ps.length))/\K0 s'/\∀c∈Ft,c.pl<=ps.length
 | 0,s,b,fk,s',Ft,_,_,_,h=>by rw[tV]at h;cases h
 | f+1,s,b,fk,s',Ft,h0,hb,hfk,h=>by
  by_cases c:b.pl=ps.length
  ·rw[ug (k:=0) (by rw[c];exact LY)]at h;cases h;rw[ug (k:=t) (by show ld[ph s0 T ps.length b.pl]? =_;unfold ph;rw[if_neg (by omega)];exact hp.end_)];refine⟨?_,LZ h0 _,hfk⟩;show some (WS.mk s.n s.lo (lR (s.es.map fun k=>(t,k.2)) (t,b.held)),_)=some (WS.mk s.n s.lo ((lR s.es (0,b.held)).map fun k=>(t,k.2)),_);rw[HD h0]
  ·have hj:b.pl<ps.length:=by omega
   have he:ps[b.pl]? =some ps[b.pl]:=ac hj;generalize ps[b.pl]=e at he;obtain⟨d,hd,hR⟩:=hp.row b.pl e he;have NW:(up s0 T ps.length b).pl=s0+b.pl:=if_pos hj;have h1:=Eu hj;have g1:ld[(up s0 T ps.length b).pl]? =some none:=by rw[NW];exact hp.non _ hj
   have g3:ds[(up s0 T ps.length b).pl]? =some d:=by rw[NW];exact hd
   have g2:(up s0 T ps.length b).gn (up s0 T ps.length b).pl=b.gn b.pl:=by rw[NW];show b.gn (((s0+b.pl:Nat):Int)-s0)=_;congr 1;omega
   have g4:nxt d (((up s0 T ps.length b).pl:Nat):Int)=(nxt e (b.pl:Int)).map (fun t=>((ph s0 T ps.length t.toNat:Nat):Int)):=by rw[NW];exact hR.2.2.1
   rw[tV,h1]at h;dsimp only at h;rw[tV,g1];dsimp only;rw[g2];by_cases c2:b.gn b.pl=true
   ·rw[if_pos c2]at h ⊢;cases h;exact⟨rfl,h0,hfk⟩
   ·rw[if_neg c2]at h ⊢;by_cases c3:2000<s.n+1
    ·rw[if_pos c3]at h;cases h
    ·rw[if_neg c3,he]at h;dsimp only at h;rw[if_neg (show ¬2000< (NV t s).n+1 from c3),g3];dsimp only;rw[g4];have hw:=hR.2.2.2;cases hn:nxt e (b.pl:Int)with
     | nil=>
      rw[hn]at h;dsimp only at h;cases h;exact⟨rfl,h0,hfk⟩
     | cons p qs=>
      rw[hn]at h hw;dsimp only at h;rw[map_cons];dsimp only;have hp0:=hw p mem_cons_self;rw[lv,zX hR hj,map_map];have e2:(qs.map ((fun q:Int=>({dF (up s0 T ps.length b) d with pl:=q.toNat}:Bd))∘fun t=>((ph s0 T ps.length t.toNat:Nat):Int)))=(qs.map fun q=>({dF b e with pl:=q.toNat}:Bd)).map (up s0 T ps.length):=by rw[map_map];refine map_congr_left fun q _=>?_;show({dF (up s0 T ps.length b) d with pl:=((ph s0 T ps.length q.toNat:Nat):Int).toNat}:Bd)=_;rw[lv,zX hR hj];rfl
      rw[e2,<-map_append];refine zY hp f {s with n:=s.n+1} _ _ s' Ft h0 (by show p.toNat<=_;omega) (fun c hc=>?_) h;rcases mem_append.mp hc with z | z
      ·exact hfk c z
      ·obtain⟨q,hq,rfl⟩:=mem_map.mp z;have:=hw q (List.mem_cons_of_mem _ hq);show q.toNat<=_;omega
theorem zZ{ds ps:List FR}{ld:eO}{s0 T:Nat}{t:Int}(hp:Tg ds ld s0 T t ps):∀(f:Nat) (s:WS) (ws:List Bd) (s':WS),K0 s->(∀c∈ws,c.pl<=ps.length)->uN ps (Et ps.length) f s ws=some s'->uN ds ld f (NV t s) (ws.map (up s0 T ps.length))=some (NV t s')
 | 0,s,ws,s',_,_,h=>by rw[uN]at h;cases h
 | f+1,s,ws,s',h0,hws,h=>by
  rw[uN]at h ⊢;rw[List.getLast?_map];cases hl:ws.getLast? with
  | none=>
   rw[hl]at h;dsimp only[Option.map_none]at h ⊢;cases h;rfl
  | some b=>
   rw[hl]at h;dsimp only[map_some]at h ⊢;cases hf:tV ps (Et ps.length) 2002 s b []with
   | none=>rw[hf]at h;cases h
   | some p=>
    obtain⟨s1,Jc⟩:=p;rw[hf]at h;dsimp only at h;obtain⟨g1,g2,g3⟩:=zY hp 2002 s b [] s1 Jc h0 (hws b (List.mem_of_getLast? hl)) (fun c hc=>absurd hc not_mem_nil) hf;rw[map_nil]at g1;rw[g1];dsimp only;rw[<-map_dropLast,<-map_append];refine zZ hp f s1 _ s' g2 (fun c hc=>?_) h;rcases mem_append.mp hc with z | z
    ·exact hws c (dropLast_subset _ z)
    ·exact g3 c z
theorem yd{ds ps:List FR}{ld:eO}{s0 T:Nat}{t:Int}(hp:Tg ds ld s0 T t ps):∀(f:Nat) (ws:List Nat) (gn:Int->Bool),(∀c∈ws,c<=ps.length)->ct ps (Et ps.length) f ws gn=some (some 0)->ct ds ld f (ws.map (ph s0 T ps.length)) (fun p=>gn (p-s0))=some (some t)
 | 0,ws,gn,_,h=>by rw[ct]at h;cases h
 | f+1,ws,gn,hws,h=>by
  rw[ct]at h ⊢;rw[List.getLast?_map];cases hl:ws.getLast? with
  | none=>
   rw[hl]at h;cases h
  | some n=>
   rw[hl]at h;dsimp only[map_some]at h ⊢;have hn:=hws n (List.mem_of_getLast? hl);by_cases c:n=ps.length
   ·rw[show ph s0 T ps.length n=T from if_neg (by omega),hp.end_]
   ·have hj:n<ps.length:=by omega
    have NW:ph s0 T ps.length n=s0+n:=if_pos hj;have he:ps[n]? =some ps[n]:=ac hj;generalize ps[n]=e at he;obtain⟨d,hd,hR⟩:=hp.row n e he;have g2:gn (((s0+n:Nat):Int)-s0)=gn n:=by congr 1;omega
    rw[Eu hj,he]at h;rw[NW,hp.non _ hj,hd];dsimp only at h ⊢;rw[g2];by_cases c2:gn n=true
    ·rw[if_pos c2]at h ⊢;rw[<-map_dropLast];exact yd hp f _ gn (fun c hc=>hws c (dropLast_subset _ hc)) h
    ·rw[if_neg c2]at h ⊢;have e1:gC (fun p=>gn (p-s0)) ((s0+n:Nat):Int) true=fun p:Int=>(gC gn (n:Int) true) (p-s0):=by
      funext p;unfold gC;by_cases c:p=((s0+n:Nat):Int)
      ·rw[if_pos c,if_pos (by omega)]
      ·rw[if_neg c,if_neg (by omega)]
     rw[hR.2.2.1,e1,map_map,<-map_dropLast,show(nxt e (n:Int)).map (Int.toNat∘fun t=>((ph s0 T ps.length t.toNat:Nat):Int))=((nxt e (n:Int)).map Int.toNat).map (ph s0 T ps.length) by rw[map_map];exact map_congr_left fun q _=>lv _,<-map_append];refine yd hp f _ _ (fun c hc=>?_) h;rcases mem_append.mp hc with z | z
     ·exact hws c (dropLast_subset _ z)
     ·obtain⟨q,hq,rfl⟩:=mem_map.mp z;have:=hR.2.2.2 q hq;omega
def Wn:List (Option Int):=[some 0,some 1,some 2,some 3,some 4,some 5,some 6,some 7]
def Wo(ps:List FR):Bool:=(match uN ps (Et ps.length) 60 ⟨0,false,[]⟩ [b0 0]with
 | some s=>!s.lo&&s.es.all fun k=>decide (k.1=0)&&decide (k.2=Wn)
 | none=>false)&&decide (ct ps (Et ps.length) 60 [0] (fun _=>false)=some (some 0))
def Rf(w b a:Int):List FR:=iG w b a 0++ [⟨"jump",[((iG w b a 0).length+1:Nat),0],[((iG w b a 0).length+1:Nat)]⟩]
def L0:List Int:=[0,1,2,3,4,5,6,7,8]
theorem Br:(L0.all fun w=>dR.all fun b=>L0.all fun a=>Wo (Rf w b (500000+a)))=true:=by kernel_rfl
def Ti(s T m:Nat):Nat->List FR->List FR->Prop
 | _,[],[]=>True
 | j,d::ds,e::es=>RR s T m j d e/\Ti s T m (j+1) ds es
 | _,_,_=>False
theorem Ti.get{s T m:Nat}:∀{ds es:List FR} {j:Nat},Ti s T m j ds es->∀{i:Nat} {e:FR},es[i]? =some e->∃d,ds[i]? =some d/\RR s T m (j+i) d e
 | [],[],_,_,i,e,h=>by simp at h
 | [],_::_,_,h,_,_,_=>h.elim
 | _::_,[],_,h,_,_,_=>h.elim
 | d::ds,e'::es,j,h,0,e,he=>by
  cases he;exact⟨d,rfl,h.1⟩
 | d::ds,e'::es,j,h,i+1,e,he=>by obtain⟨x,h1,h2⟩:=h.2.get (i:=i) (e:=e) he;exact⟨x,h1,by rw[show j+(i+1)=j+1+i by omega];exact h2⟩
variable {s T m j:Nat}{u:Str}{b c:Int}
theorem Aa{t:Nat}(h:t<m):((ph s T m t:Nat):Int)=(s:Int)+t:=by unfold ph;rw[if_pos h];omega
theorem mQ{is:List Int}(hu:¬u∈cv)(hj:j+1<m):RR s T m j ⟨u,is,[]⟩ ⟨u,is,[]⟩:=by
 have e:∀n:Int,nxt ⟨u,is,[]⟩ n=[n+1]:=fun n=>by unfold nxt;rw[if_neg hu];rfl
 refine⟨rfl,.inr rfl,?_,fun t ht=>?_⟩
 ·rw[e,e,map_singleton,show((j:Int)+1).toNat=j+1 by omega,Aa hj];congr 1
 ·rw[e]at ht;rw[mem_singleton.mp ht];omega
theorem vP{t:Nat}(hu:u∈zL0)(hj:j+1<m)(ht:t<m):RR s T m j ⟨u,[b,(s:Int)+(t:Int),c],[(s:Int)+(t:Int)]⟩ ⟨u,[b,0+(t:Int),c],[0+(t:Int)]⟩:=by
 obtain⟨h1,h2⟩:=(by decide+kernel:∀u∈zL0,u∈off3/\¬u∈cv) u hu;have e:∀(x n:Int),nxt ⟨u,[b,x,c],[x]⟩ n=[x,n+1]:=fun x n=>by unfold nxt;rw[if_neg h2];rfl
 refine⟨rfl,.inl h1,?_,fun x hx=>?_⟩
 ·rw[e,e,map_cons,map_singleton,show((j:Int)+1).toNat=j+1 by omega,show(0+(t:Int)).toNat=t by omega,Aa hj,Aa ht];congr 2
 ·rw[e]at hx;rcases mem_cons.mp hx with z | z
  ·omega
  ·rw[mem_singleton.mp z];omega
theorem Js{t:Nat}(ht:t<m):RR s T m j ⟨"jump",[(s:Int)+(t:Int),c],[(s:Int)+(t:Int)]⟩ ⟨"jump",[0+(t:Int),c],[0+(t:Int)]⟩:=by
 have e:∀(x n:Int),nxt ⟨"jump",[x,c],[x]⟩ n=[x]:=fun x n=>by unfold nxt;rw[if_pos (by show("jump": Str)∈cv;decide+kernel)];rfl
 refine⟨rfl,.inl (by show("jump": Str)∈off3;decide+kernel),?_,fun x hx=>?_⟩
 ·rw[e,e,map_singleton,show(0+(t:Int)).toNat=t by omega,Aa ht]
 ·rw[e]at hx;rw[mem_singleton.mp hx];omega
theorem iH{f:Int}:RR s T m j ⟨"jump",[(T:Int),f],[(T:Int)]⟩ ⟨"jump",[(m:Int),0],[(m:Int)]⟩:=by
 have e:∀(x n c:Int),nxt ⟨"jump",[x,c],[x]⟩ n=[x]:=fun x n c=>by unfold nxt;rw[if_pos (by show("jump": Str)∈cv;decide+kernel)];rfl
 refine⟨rfl,.inl (by show("jump": Str)∈off3;decide+kernel),?_,fun x hx=>?_⟩
 ·rw[e,e,map_singleton,lv];unfold ph;rw[if_neg (Nat.lt_irrefl m)]
 ·rw[e]at hx;rw[mem_singleton.mp hx];omega
theorem Ab:RR s T m j ⟨"halt",[c],[]⟩ ⟨"halt",[c],[]⟩:=by
 have e:∀n:Int,nxt ⟨"halt",[c],[]⟩ n=[]:=fun n=>by unfold nxt;rw[if_pos (by show("halt": Str)∈cv;decide+kernel)];rfl
 refine⟨rfl,.inr rfl,by rw[e,e];rfl,fun t ht=>?_⟩;rw[e]at ht;cases ht
end
theorem L1{w:Int}(hw:w∈L0)(b a:Int)(s T:Nat)(f:Int):Ti s T ((iG w b a 0).length+1) 0 (iG w b a s++ [⟨"jump",[(T:Int),f],[(T:Int)]⟩]) (Rf w b a):=by
 unfold L0 at hw;simp only[mem_cons,not_mem_nil,or_false]at hw;rcases hw with rfl | rfl | rfl | rfl | rfl | rfl | rfl | rfl | rfl
 ·exact⟨iH,trivial⟩
 ·exact⟨mQ (by decide+kernel) (by show 1<2;decide),iH,trivial⟩
 ·exact⟨mQ (by decide+kernel) (by show 1<5;decide),mQ (by decide+kernel) (by show 2<5;decide),mQ (by decide+kernel) (by show 3<5;decide),mQ (by decide+kernel) (by show 4<5;decide),iH,trivial⟩
 ·exact⟨vP (t:=1) (by decide+kernel) (by show 1<2;decide) (by show 1<2;decide),iH,trivial⟩
 ·exact⟨vP (t:=2) (by decide+kernel) (by show 1<3;decide) (by show 2<3;decide),mQ (by decide+kernel) (by show 2<3;decide),iH,trivial⟩
 ·exact⟨Js (t:=1) (by show 1<2;decide),iH,trivial⟩
 ·exact⟨vP (t:=2) (by decide+kernel) (by show 1<4;decide) (by show 2<4;decide),Js (t:=3) (by show 3<4;decide),Ab,iH,trivial⟩
 ·exact⟨vP (t:=3) (by decide+kernel) (by show 1<4;decide) (by show 3<4;decide),mQ (by decide+kernel) (by show 2<4;decide),mQ (by decide+kernel) (by show 3<4;decide),iH,trivial⟩
 ·exact⟨vP (t:=2) (by decide+kernel) (by show 1<3;decide) (by show 2<3;decide),Ab,iH,trivial⟩
theorem Rg(w b a s:Int):∃w'∈L0,iG w b a s=iG w' b a s/\iG w b a 0=iG w' b a 0:=by
 by_cases h:w∈L0
 ·exact⟨w,h,rfl,rfl⟩
 ·refine⟨0,by decide,?_⟩;unfold L0 at h;simp only[mem_cons,not_mem_nil,or_false,not_or]at h;obtain⟨_,h1,h2,h3,h4,h5,h6,h7,h8⟩:=h;unfold iG;simp only[if_neg h1,if_neg h2,if_neg h3,if_neg h4,if_neg h5,if_neg h6,if_neg h7,if_neg h8];exact⟨rfl,rfl⟩
theorem Blk.pcs{ds:List FR}{ld:eO}{s T:Nat}{t:Int}(h:Blk ds ld s (T:Int))(ht:ld[T]? =some (some t)):∃ps,Tg ds ld s T t ps/\Wo ps=true/\0<ps.length:=by
 obtain⟨ps,⟨w,b,a,f,hb,ha,rfl⟩,hp⟩:=h;obtain⟨w',hw,e1,e2⟩:=Rg w b a s;rw[e1]at hp;have hr:=L1 hw b a s T f;have hl:(Rf w' b a).length=(iG w' b a 0).length+1:=by unfold Rf;rw[length_append];rfl
 refine⟨Rf w' b a,⟨fun j e he=>?_,fun j hj=>?_,ht⟩,?_,by omega⟩
 ·obtain⟨d,h1,h2⟩:=hr.get he;rw[Nat.zero_add]at h2;exact⟨d,(hp j d h1).1,by rw[hl];exact h2⟩
 ·obtain⟨d,h1,_⟩:=hr.get (ac hj);exact(hp j d h1).2
 ·have h1:=all_eq_true.mp Br w' hw
  have h2:=all_eq_true.mp h1 b (by
   have:b=0\/b=1\/b=2\/b=3\/b=4\/b=5\/b=6\/b=7:=by omega
   rcases this with rfl | rfl | rfl | rfl | rfl | rfl | rfl | rfl<;>decide)
  have h3:=all_eq_true.mp h2 (a-500000) (by
   have:a=500000\/a=500001\/a=500002\/a=500003\/a=500004\/a=500005\/a=500006\/a=500007\/a=500008:=by omega
   rcases this with rfl | rfl | rfl | rfl | rfl | rfl | rfl | rfl | rfl<;>decide)
  rw[show(500000:Int)+(a-500000)=a by omega]at h3;exact h3
def L3(ds:List FR)(ld:eO)(s:Nat)(t:Int):Prop:=(∃w:WS,hZ ds ld s w/\w.lo=false/\∀k∈w.es,k=(t,(b0 0).held))/\ct ds ld 60 [s] (fun _=>false)=some (some t)
theorem vQ{ds:List FR}{ld:eO}{s:Nat}{t:Int}(h:ld[s]? =some (some t)):L3 ds ld s t:=by
 refine⟨⟨⟨0,false,[(t,(b0 0).held)]⟩,⟨2,by decide,?_⟩,rfl,fun k hk=>mem_singleton.mp hk⟩,?_⟩
 ·rw[uN];rw[show [b0 s].getLast? =some (b0 s)from rfl];dsimp only;rw[ug (f:=2001) (b:=b0 s) h];rfl
 ·rw[ct];rw[show [s].getLast? =some s from rfl];dsimp only;rw[h]
theorem Ew{ds:List FR}{ld:eO}{s T:Nat}{t:Int}(h:Blk ds ld s (T:Int))(ht:ld[T]? =some (some t)):L3 ds ld s t:=by
 obtain⟨ps,hp,ho,hl⟩:=h.pcs ht;unfold Wo at ho;rw[Bool.and_eq_true]at ho;obtain⟨ho,hc⟩:=ho;have e0:ph s T ps.length 0=s:=by unfold ph;rw[if_pos hl];rfl
 constructor
 ·cases h:uN ps (Et ps.length) 60 ⟨0,false,[]⟩ [b0 0]with
  | none=>rw[h]at ho;cases ho
  | some w=>
   rw[h]at ho;dsimp only at ho;rw[Bool.and_eq_true]at ho;have g:=zZ hp 60 _ _ w (fun k hk=>absurd hk not_mem_nil) (fun c hc=>by rw[mem_singleton.mp hc];exact zero_le _) h;have e1:up s T ps.length (b0 0)=b0 s:=by unfold up;rw[show(b0 0).pl=0 from rfl,e0];rfl
   rw[map_singleton,e1]at g;refine⟨NV t w,⟨60,by decide,g⟩,?_,fun k hk=>?_⟩
   ·show w.lo=false;simpa using ho.1
   ·obtain⟨k',hk',rfl⟩:=mem_map.mp hk;have:=all_eq_true.mp ho.2 k' hk';rw[Bool.and_eq_true]at this;have e:=of_decide_eq_true this.2;show(t,k'.2)=_;rw[e];rfl
 ·have g:=yd hp 60 [0] (fun _=>false) (fun c hc=>by rw[mem_singleton.mp hc];exact zero_le _) (of_decide_eq_true hc);rw[map_singleton,e0]at g;exact g
theorem ql{ds:List FR}{ld:eO}{r:WS}:∀{f:Nat} {s:WS} {ws:List Bd} (k:Nat),uN ds ld f s ws=some r->uN ds ld (f+k) s ws=some r
 | 0,s,ws,k,h=>by rw[uN]at h;cases h
 | f+1,s,ws,k,h=>by
  rw[show f+1+k=(f+k)+1 by omega,uN];rw[uN]at h;cases hl:ws.getLast? with
  | none=>rw[hl]at h;exact h
  | some b=>
   rw[hl]at h;dsimp only at h ⊢;cases hf:tV ds ld 2002 s b []with
   | none=>rw[hf]at h;cases h
   | some p=>
    rw[hf]at h;dsimp only at h ⊢;exact ql k h
theorem hZ.det{ds:List FR}{ld:eO}{s:Nat}{a b:WS}(h:hZ ds ld s a)(g:hZ ds ld s b):a=b:=by obtain⟨f,_,h⟩:=h;obtain⟨f',_,g⟩:=g;have h:=ql f' h;have g:=ql f g;rw[Nat.add_comm,h]at g;exact Option.some.inj g
theorem GF.trn{n m:Int}{e:FR}(h:GF n e){ts:List Int}{f:Int}(hl:ts.length=e.ts.length)(ht:∀t∈ts,0<=t/\t<m):GF m (dj ts f e):=by
 unfold dj;rcases h.three with ⟨u,t,c,hu,rfl,h0,h1⟩ | ⟨u,b,t,c,hu,rfl,hb,h0,h1⟩ | ⟨b,es,rfl,hb,hl2,_⟩ | ⟨e0,hf,hn,g⟩
 ·obtain⟨x,rfl⟩:=length_eq_one_iff.mp hl;rw[if_pos (Ee hu)];exact .jmp hu (ht x mem_cons_self)
 ·obtain⟨x,rfl⟩:=length_eq_one_iff.mp hl;rw[if_neg ((by decide+kernel:∀u∈zb,¬u∈eT) u (zQ hu)),if_pos (zQ hu)];exact .B5 hu hb (ht x mem_cons_self)
 ·rw[if_neg (by show ¬("table": Str)∈eT;decide+kernel),if_neg (by show ¬("table": Str)∈zb;decide+kernel),if_pos rfl];exact .tab hb (by rw[hl];exact hl2) ht
 ·obtain⟨j1,j2⟩:=VU hf;rw[if_neg j1,if_neg j2,if_neg hn];exact g m
theorem ye{n:Int}{e:FR}(h:GF n e){ts:List Int}{f:Int}(hl:ts.length=e.ts.length):jS (dj ts f e) e=true:=by
 have hp:cZ (dj ts f e) su=cZ e su:=by
  unfold dj;rcases h.three with ⟨u,t,c,hu,rfl,h0,h1⟩ | ⟨u,b,t,c,hu,rfl,hb,h0,h1⟩ | ⟨b,es,rfl,hb,hl2,_⟩ | ⟨e0,hf,hn,g⟩
  ·rw[if_pos (Ee hu)];have e:=(by decide+kernel:∀u∈zL4,bf u=zL8) u hu;unfold cZ pI;dsimp only;rw[e];rfl
  ·rw[if_neg ((by decide+kernel:∀u∈zb,¬u∈eT) u (zQ hu)),if_pos (zQ hu)];have e:=(by decide+kernel:∀u∈zL0,bf u=zL10) u hu;unfold cZ pI;dsimp only;rw[e];rfl
  ·rw[if_neg (by show ¬("table": Str)∈eT;decide+kernel),if_neg (by show ¬("table": Str)∈zb;decide+kernel),if_pos rfl];rfl
  ·obtain⟨j1,j2⟩:=VU hf;rw[if_neg j1,if_neg j2,if_neg hn]
 unfold jS;rw[decide_eq_true (Jk ts f e),decide_eq_true (show(dj ts f e).ts.length=e.ts.length by rw[kz h.ok hl,hl]),decide_eq_true hp];rfl
theorem HE{st:List Int}{d:FR}(h:d.Ok)(h0:∀t∈d.ts,0<=t):jx st d=d:=by unfold jx;rw[show d.ts.map (wy st)=d.ts from(map_congr_left fun t ht=>(if_neg (by have:=h0 t ht;omega):wy st t=t)).trans (List.map_id' _),ky h]
section
variable {aI ds:List FR}{ld:eO}
def Lh(aI ds:List FR)(ld:eO)(x t:Int):Prop:=0<=x/\x<ds.length/\L3 (ds.map (jx (stI ld aI.length))) ld x.toNat t
theorem vR(h:jU aI ds ld){t:Nat}(ht:t<aI.length):wy (stI ld aI.length) (-1- (t:Int))=(ef ld t:Int)/\ld[ef ld t]? =some (some (t:Int))/\ef ld t<ds.length:=by have hs:=(ia h.Jo ht).1;refine⟨?_,hs,by rw[<-h.mid.len];exact(al.mp hs).1⟩;unfold wy stI;rw[if_pos (by omega),show(-1- (-1- (t:Int))).toNat=t by omega,List.getD_eq_getElem?_getD,ag,List.getElem?_range ht];rfl
theorem Ex(h:jU aI ds ld){s t:Nat}(ht:t<aI.length){w b a f:Int}(h1:0<=b/\b<=7)(h2:500000<=a)(hp:Put ds ld s (iG w b a s++ [⟨"jump",[-1- (t:Int),f],[-1- (t:Int)]⟩])):Put (ds.map (jx (stI ld aI.length))) ld s (iG w b a s++ [⟨"jump",[(ef ld t:Int),f],[(ef ld t:Int)]⟩]):=by
 intro j x hx;by_cases c:j< (iG w b a s).length
 ·rw[ax c]at hx;obtain⟨e1,e2⟩:=hp j x (by rw[ax c];exact hx);refine⟨?_,e2⟩;have hg:=(yb w h1 h2 x (am hx)).1;rw[ag,e1];show some (jx _ x)=_;rw[HE hg.ok fun t ht=>(hg.ts.2 t ht).1]
 ·rw[bc (by omega)]at hx;have hj:j=(iG w b a s).length:=by have:=(al.mp hx).1;simp at this;omega
  subst hj;rw[sub_self]at hx;cases hx;obtain⟨e1,e2⟩:=hp (iG w b a s).length ⟨"jump",[-1- (t:Int),f],[-1- (t:Int)]⟩ (by rw[bc (le_refl _),sub_self];rfl);refine⟨?_,e2⟩;rw[ag,e1];show some (dj [wy _ (-1- (t:Int))] _ _)=_;rw[(vR h ht).1];rfl
theorem L4(h:jU aI ds ld){s t:Nat}(ht:t<aI.length)(hb:Blk ds ld s (-1- (t:Int))):Blk (ds.map (jx (stI ld aI.length))) ld s (ef ld t:Int):=by obtain⟨ps,⟨w,b,a,f,h1,h2,rfl⟩,hp⟩:=hb;exact⟨_,⟨w,b,a,f,h1,h2,rfl⟩,Ex h ht h1 h2.1 hp⟩
theorem L5{s:Nat}{T:Int}(h:Blk ds ld s T):s<ds.length:=by obtain⟨ps,⟨w,b,a,f,h1,h2,rfl⟩,hp⟩:=h;obtain⟨d,hd⟩:∃d,(iG w b a s++ [FR.mk "jump" [T,f] [T]])[0]? =some d:=⟨_,ac (by rw[length_append];simp)⟩;have:=(al.mp (hp 0 d hd).1).1;omega
theorem yf(h:jU aI ds ld){s t:Nat}(ht:t<aI.length)(hb:Blk ds ld s (-1- (t:Int))):Lh aI ds ld s t:=by refine⟨by omega,by have:=L5 hb;omega,?_⟩;rw[lv];exact Ew (L4 h ht hb) (vR h ht).2.1
theorem Rh(h:jU aI ds ld){t:Nat}(ht:t<aI.length):Lh aI ds ld (ef ld t:Int) t:=by obtain⟨_,a,b⟩:=vR h ht;exact⟨by omega,by omega,by rw[lv];exact vQ a⟩
theorem Ri(h:jU aI ds ld){x:Int}{t:Nat}(ht:t<aI.length)(hu:LU ds ld x t):Lh aI ds ld (wy (stI ld aI.length) x) t:=by
 rcases hu with rfl | ⟨h0,hb⟩
 ·rw[(vR h ht).1];exact Rh h ht
 ·rw[show wy (stI ld aI.length) x=x from if_neg (by omega)];have:=yf h ht hb
  rwa [Int.toNat_of_nonneg h0]at this
theorem oM(h:jU aI ds ld)(hG:∀e∈aI,GF (aI.length:Nat) e)(hE:jb aI){j:Nat}{r:Nat}{e:FR}(hj:ld[j]? =some (some (r:Int)))(he:aI[r]? =some e):∃ts f,(ds.map (jx (stI ld aI.length)))[j]? =some (dj ts f e)/\ts.length=e.ts.length/\(∀(i:Nat) x t,ts[i]? =some x->e.ts[i]? =some t->Lh aI ds ld x t)/\(¬e.u∈cv->Lh aI ds ld ((j:Int)+1) ((r:Int)+1)):=by
 obtain⟨_,e',he',⟨ts,f,h1,_,h2⟩,h3⟩:=h.mid.old j _ hj;rw[lv,he]at he';cases he';have hg:=hG e (am he);obtain⟨hl,hu⟩:=h2 (by rw[<-h.mid.len];exact(al.mp hj).1);refine⟨ts.map (wy (stI ld aI.length)),d7 (dj ts f e),?_,by rw[length_map,hl],fun i x t hx ht=>?_,fun hn=>?_⟩
 ·rw[ag,h1];show some (dj _ _ (dj ts f e))=_;rw[oK,kz hg.ok hl]
 ·rw[ag]at hx;obtain⟨x0,hx0,rfl⟩:=map_eq_some_iff.mp hx;have hm:=hg.ts.2 t (am ht);obtain⟨tn,rfl⟩:=Int.eq_ofNat_of_zero_le hm.1;exact Ri h (by omega) (hu i x0 _ hx0 ht)
 ·have:=yf (s:=j+1) (t:=r+1) h (hE.on he hn) (by
   have:=h3 hn
   rwa [show-2- (r:Int)=-1- ((r+1:Nat):Int) by omega]at this)
  rwa [show((j+1:Nat):Int)=(j:Int)+1 by omega,show((r+1:Nat):Int)=(r:Int)+1 by omega]at this
theorem Ac(h:jU aI ds ld){j:Nat}{d:FR}(hj:ld[j]? =some none)(hd:(ds.map (jx (stI ld aI.length)))[j]? =some d):PG (ds.length:Nat) d:=by
 obtain⟨s,T,ps,⟨w,b,a,f,h1,h2,rfl⟩,hp,t1,t2,l1,l2⟩:=h.mid.non j hj;obtain⟨t,rfl⟩:∃t:Nat,T=-1- (t:Int):=⟨(-1-T).toNat,by omega⟩;have hp':=Ex h (show t<aI.length by omega) h1 h2.1 hp;have hl:∀T:Int,(iG w b a s++ [FR.mk "jump" [T,f] [T]]).length=(iG w b a s).length+1:=fun T=>by rw[length_append];rfl
 rw[hl]at l2;have hi:j-s< (iG w b a s++ [FR.mk "jump" [(ef ld t:Int),f] [(ef ld t:Int)]]).length:=by rw[hl];omega
 have e1:=(hp' (j-s) _ (ac hi)).1;rw[Nat.add_sub_cancel' l1,hd]at e1;have hm:=bi hi;rw[<-Option.some.inj e1]at hm;have hb:=(al.mp (hp (iG w b a s).length _ (ac (by rw[hl];omega))).1).1;rcases mem_append.mp hm with z | z
 ·obtain⟨g1,g2⟩:=yb w h1 h2.1 d z;exact⟨g1.mono (by omega),g2⟩
 ·rw[mem_singleton.mp z];have:=(vR h (show t<aI.length by omega)).2.2;exact ya (by omega)
theorem L6(h:jU aI ds ld)(hG:∀e∈aI,GF (aI.length:Nat) e)(hE:jb aI):∀d∈ds.map (jx (stI ld aI.length)),GF (ds.length:Nat) d:=fun d hd=>by
 obtain⟨j,hj⟩:=List.getElem?_of_mem hd;have hjl:=(al.mp hj).1;rw[length_map,<-h.mid.len]at hjl;have hl:ld[j]? =some ld[j]:=ac hjl;cases ho:ld[j]with
 | none=>rw[ho]at hl;exact(Ac h hl hj).1
 | some r=>
  rw[ho]at hl;obtain⟨rn,rfl,hrn⟩:=p7 h.Jo hl;have he:aI[rn]? =some aI[rn]:=ac hrn;obtain⟨ts,f,h1,h2,h3,_⟩:=oM h hG hE hl he;rw[hj]at h1;cases h1;refine(hG _ (bi hrn)).trn h2 fun x hx=>?_;obtain⟨i,hi⟩:=List.getElem?_of_mem hx;have hi2:i<aI[rn].ts.length:=by rw[<-h2];exact(al.mp hi).1
  have:=h3 i x _ hi (ac hi2);exact⟨this.1,this.2.1⟩
theorem HF(h:jU aI ds ld)(hG:∀e∈aI,GF (aI.length:Nat) e/\iP e)(hE:jb aI):Sf aI (ds.map (jx (stI ld aI.length))) ld (aI.map d7):=by
 have hG':∀e∈aI,GF (aI.length:Nat) e:=fun e he=>(hG e he).1;refine⟨⟨by rw[length_map];exact h.mid.len,h.Jo.2⟩,rfl,fun j d l hd hl=>?_⟩;cases l with
 | none=>
  refine(Ac h hl hd).2 _ fun k hk=>decide_eq_false ?_;rintro⟨e,he,hm⟩;have:=(hG e he).2 k hm;omega
 | some r=>
  intro e he;obtain⟨rn,rfl,hrn⟩:=p7 h.Jo hl;rw[lv]at he;obtain⟨ts,f,h1,h2,_⟩:=oM h hG' hE hl he;rw[hd]at h1;cases h1;exact ye (hG' e (am he)) h2
theorem vS(h:jU aI ds ld)(hG:∀e∈aI,GF (aI.length:Nat) e)(hE:jb aI)(h0:1<=aI.length):∀k,k<=aI.length->∀x∈eU aI (ds.map (jx (stI ld aI.length))) (ef ld) k,Lh aI ds ld x.1 x.2/\0<=x.2/\x.2<aI.length
 | 0,_,x,hx=>by
  rw[mem_singleton.mp hx];refine⟨?_,Int.le_refl _,by show(0:Int)<_;omega⟩;rcases h.beg with z | z
  ·refine⟨Int.le_refl _,?_,vQ z⟩;have:=(al.mp z).1;have:=h.mid.len;show(0:Int)<_;omega
  ·exact yf (s:=0) (t:=0) h h0 z
 | k+1,hk,x,hx=>by
  have he:aI[k]? =some (aI[k]'(by omega)):=ac _;generalize (aI[k]'(by omega))=e at he;have e1:eU aI (ds.map (jx (stI ld aI.length))) (ef ld) (k+1)=eU aI (ds.map (jx (stI ld aI.length))) (ef ld) k++xT (ds.map (jx (stI ld aI.length))) (ef ld) k e:=by show _++(match aI[k]? with | some d=>_ | none=>_)=_;rw[he]
  rw[e1]at hx;rcases mem_append.mp hx with z | z
  ·exact vS h hG hE h0 k (by omega) x z
  ·obtain⟨ts,f,h1,h2,h3,h4⟩:=oM h hG hE (ia h.Jo (show k<aI.length by omega)).1 he;have hg:=hG e (am he);unfold xT at z;rcases mem_append.mp z with y | y
   ·split at y
    ·cases y
    ·rename_i hn;rw[mem_singleton.mp y];have:=hE.on he hn;exact⟨h4 hn,by show(0:Int)<=_+1;omega,by show(k:Int)+1<_;omega⟩
   ·rw[h1]at y;have y:x∈(dj ts f e).ts.zip e.ts:=y;rw[kz hg.ok h2]at y;obtain⟨i,hi⟩:=List.getElem?_of_mem y;rw[List.getElem?_zip_eq_some]at hi;have:=hg.ts.2 x.2 (am hi.2);exact⟨h3 i _ _ hi.1 hi.2,this.1,this.2⟩
theorem held0:∀b∈dR,hAt (b0 0).held b=some b:=by decide
theorem Ey(h:jU aI ds ld)(hG:∀e∈aI,GF (aI.length:Nat) e/\iP e)(hE:jb aI)(h0:1<=aI.length)(cl:List (List Int)):∃wk:Nat->WS,(∀x∈eU aI (ds.map (jx (stI ld aI.length))) (ef ld) aI.length,0<=x.1/\0<=x.2/\x.2<aI.length/\hZ (ds.map (jx (stI ld aI.length))) ld x.1.toNat (wk x.1.toNat))/\Good aI (ds.map (jx (stI ld aI.length))) ld (aI.map d7) cl wk:=by
 haveI:Nonempty WS:=⟨⟨0,false,[]⟩⟩
 have hw:=vS h (fun e he=>(hG e he).1) hE h0 aI.length (le_refl _);refine⟨fun s=>Classical.epsilon fun w=>hZ (ds.map (jx (stI ld aI.length))) ld s w,fun x hx=>?_,HF h hG hE,fun x hx=>?_⟩
 ·obtain⟨⟨a,_,⟨w,b,_⟩,_⟩,c,d⟩:=hw x hx;exact⟨a,c,d,Classical.epsilon_spec (p:=fun w=>hZ (ds.map (jx (stI ld aI.length))) ld x.1.toNat w) ⟨w,b⟩⟩
 ·obtain⟨⟨a,_,⟨w,b,lo,es⟩,_⟩,c,d⟩:=hw x hx;have e:=(Classical.epsilon_spec (p:=fun w=>hZ (ds.map (jx (stI ld aI.length))) ld x.1.toNat w) ⟨w,b⟩).det b;show ja (Classical.epsilon fun w=>hZ (ds.map (jx (stI ld aI.length))) ld x.1.toNat w) cl x.2=true;rw[e];unfold ja;rw[lo,Bool.and_eq_true];refine⟨rfl,all_eq_true.mpr fun k hk=>?_⟩;rw[es k hk];unfold vJ;rw[decide_eq_true rfl,Bool.true_and];exact all_eq_true.mpr fun b hb=>by rw[decide_eq_true (held0 b hb)];rfl
theorem HG(h:jU aI ds ld)(hG:∀e∈aI,GF (aI.length:Nat) e)(hE:jb aI)(r:Nat)(e:FR)(f:Int)(he:aI[r]? =some e)(hf:(aI.map d7)[r]? =some f):∃(n:Nat) (d:FR) (ts:List Int),StandsAt ld r n/\(ds.map (jx (stI ld aI.length)))[n]? =some d/\ZI (ds.map (jx (stI ld aI.length))) ld d.ts ts/\e=dj ts f d:=by
 have hs:=ia h.Jo (al.mp he).1;obtain⟨ts,g,h1,h2,h3,_⟩:=oM h hG hE hs.1 he;have hg:=hG e (am he);rw[ag,he]at hf;cases hf;refine⟨_,_,e.ts,hs,h1,?_,?_⟩
 ·rw[kz hg.ok h2];exact⟨h2.symm,fun i x t a b=>(h3 i x t a b).2.2.2⟩
 ·rw[oK,ky hg.ok]
def Wp(cs s:Scope):Scope:={cs with names:=cs.names.map fun(n,k)=>if (k==NameKind.free&&s.kind== .function&&s.names.lookup n==some .cell)then (n,NameKind.cell)else (n,k)}
inductive NX(X:Cx)(pos:Pos):List (Option Expr)->List Expr->List (TE×TE)->Prop where
 | nil:NX X pos [] [] []
 | cons {k v:Expr} {ks:List (Option Expr)} {vs:List Expr} {tk tv:TE} {uK:List (TE×TE)} (hk:PE X k tk) (hv:PE X v tv) (hr:NX X pos ks vs uK):NX X pos (some k::ks) (v::vs) ((tk,tv)::uK)
theorem NX.pps{X:Cx}{pos:Pos}{ks:List (Option Expr)}{vs:List Expr}{uK:List (TE×TE)}(h:NX X pos ks vs uK):OI X pos ks vs uK:=by
 induction h with
 | nil=>exact FX
 | cons hk hv _ ih=>exact CO hk hv ih
theorem Ez{X:Cx}{pos:Pos}{keys:List (Option Expr)}{values:List Expr}{uK:List (TE×TE)}(h:NX X pos keys values uK)(hall:keys.all (·.isSome)=true)(hl:keys.length=values.length)(h0:keys≠ [])(h15:keys.length<=15):DO X (.Dict keys values pos) (Iz uK):=by unfold DO;exact FY h.pps hall hl h0 h15
theorem HI{ds:List FR}(hG:∀d∈ds,GF (ds.length:Nat) d)(hE:jb ds):vB ds:=fun r d hd=>by
 have hg:=hG d (am hd);refine⟨hg.ts.1,fun s hs=>?_⟩;unfold II at hs;split at hs
 ·exact hg.ts.2 s hs
 ·rename_i h;rcases mem_append.mp hs with z | z
  ·exact hg.ts.2 s z
  ·have:=hE.on hd (fun y=>h (.inr y));rw[mem_singleton.mp z];omega
theorem Bs{ds:List FR}:firstBad ds (replicate ds.length [])=none:=DK fun j hj=>by unfold qZ;rw[ac hj,List.getElem?_replicate,if_pos hj];rfl
theorem rep1(n:Nat)(v:V):(replicate n [v]).flatten=replicate n v:=by
 induction n with
 | zero=>rfl
 | succ n ih=>rw[replicate_succ,replicate_succ,List.flatten_cons,ih];rfl
theorem kI(K:Frag)(H:Hp)(ms:List Int):∀(i:Nat) x d,(ms.map V.int)[i]? =some x->(ms.map Da.int)[i]? =some d->dY K H x d:=fun i x d h1 h2=>by rw[ag]at h1 h2;obtain⟨j,hj,rfl⟩:=map_eq_some_iff.mp h1;rw[hj]at h2;cases h2;exact .int _
def vT(d:FR):Da:=if d.u ="table"then .tup [.str d.u,.int (d.is.headD 0),.tup (d.ts.map Da.int)]else .tup (.str d.u::d.is.map Da.int)
theorem HJ(K:Frag){H:Hp}{q:Addr}{d:FR}(h:cw H q d):dY K H (.ref q) (vT d):=by
 unfold vT;rcases h.2 with ⟨a,b,p,e,h1,h2⟩ | ⟨a,h1⟩
 ·rw[if_pos a,e];refine .tup (bp.of h1) rfl fun i x d' g1 g2=>?_
  match i,g1,g2 with
  | 0,g1,g2=>cases g1;cases g2;exact .str _
  | 1,g1,g2=>cases g1;cases g2;exact .int _
  | 2,g1,g2=>cases g1;cases g2;exact .tup (bp.of h2) (by simp) (kI K H _)
 ·rw[if_neg a];refine .tup (bp.of h1) (by simp) fun i x d' g1 g2=>?_;cases i with
  | zero=>simp at g1 g2;subst g1;subst g2;exact .str _
  | succ i=>exact kI K H d.is i x d' (by simpa using g1) (by simpa using g2)
theorem EA(ms:List Int):(Da.tup (ms.map Da.int)).Nb 1:=.tup fun d hd=>by obtain⟨j,_,rfl⟩:=mem_map.mp hd;exact .int
theorem Rj(d:FR):(vT d).Nb 2:=by
 unfold vT;split
 ·refine .tup fun x hx=>?_;rcases mem_cons.mp hx with rfl | hx
  ·exact .str
  rcases mem_cons.mp hx with rfl | hx
  ·exact .int
  rw[mem_singleton.mp hx];exact EA _
 ·refine .tup fun x hx=>?_;rcases mem_cons.mp hx with rfl | hx
  ·exact .str
  obtain⟨j,_,rfl⟩:=mem_map.mp hx;exact .int
theorem EB(K:Frag){H:Hp}{l:Addr}{qs:List Addr}{ds:List FR}(hl:H l=some (.lst (qs.map V.ref)))(hn:qs.length=ds.length)(h:∀(i:Nat) q d,qs[i]? =some q->ds[i]? =some d->cw H q d):dY K H (.ref l) (.lst (ds.map vT)):=by refine .lst (aR.of hl) (by simp[hn]) fun i x e g1 g2=>?_;rw[ag]at g1 g2;obtain⟨q,hq,rfl⟩:=map_eq_some_iff.mp g1;obtain⟨d,hd,rfl⟩:=map_eq_some_iff.mp g2;exact HJ K (h i q d hq hd)
theorem yg(K:Frag){H:Hp}{l:Addr}{cs:List V}{cl:List (List Int)}(hl:H l=some (.lst cs))(hn:cs.length=cl.length)(h:∀(i:Nat) c ms,cs[i]? =some c->cl[i]? =some ms->jP H c ms):dY K H (.ref l) (.lst (cl.map fun m=>.tup (m.map Da.int))):=by refine .lst (aR.of hl) (by simp[hn]) fun i x e g1 g2=>?_;rw[ag]at g2;obtain⟨ms,hm,rfl⟩:=map_eq_some_iff.mp g2;obtain⟨q,rfl,hq,_⟩:=h i x ms g1 hm;exact .tup (bp.of hq) (by simp) (kI K H ms)
theorem uh(ds:List FR):(Da.lst (ds.map vT)).Nb 3:=.lst fun x hx=>by obtain⟨d,_,rfl⟩:=mem_map.mp hx;exact Rj d
theorem dr.da(K:Frag){H:Hp}{l:Addr}{cl:List (List Int)}(h:dr H l cl):dY K H (.ref l) (.lst (cl.map fun m=>.tup (m.map Da.int))):=by obtain⟨cs,a,b,c⟩:=h;exact yg K a b c
theorem cm.da(K:Frag){H:Hp}{l:Addr}{ds:List FR}(h:cm H l ds):dY K H (.ref l) (.lst (ds.map vT)):=by obtain⟨qs,a,b,c⟩:=h;exact EB K a b c
def qm(ll lf lc:Addr):List (Key×V):=[(Sum.inr "leads",.ref ll),(Sum.inr "forms",.ref lf),(Sum.inr "free",.ref lc)]
structure PS(lo ln ll lf lc pp:Addr)(aI c5:List FR)(xs:List V)(ld:eO)(t0:Addr)(kn:Nat)(G:Hp):Prop where
 ol:cm G lo aI
 nw:G ln=some (.lst xs)
 rw:bY G xs c5
 le:G ll=some (.lst (ld.map oV))
 fo:G lf=some (.lst ((aI.map d7).map V.int))
 fr:G lc=some (.lst (replicate aI.length (.ref t0)))
 t0:G t0=some (.tup [])
 pp:∃kvs,G pp=some (.dK kvs)/\kvs.length=kn/\cM kvs (Sum.inr "leads": Key)=some (.ref ll)/\cM kvs (Sum.inr "forms": Key)=some (.ref lf)/\cM kvs (Sum.inr "free": Key)=some (.ref lc)
theorem PS.same{lo ln ll lf lc pp:Addr}{aI c5:List FR}{xs:List V}{ld:eO}{t0:Addr}{kn:Nat}{G G1:Hp}(h:PS lo ln ll lf lc pp aI c5 xs ld t0 kn G)(s:Same G G1):PS lo ln ll lf lc pp aI c5 xs ld t0 kn G1:=⟨h.ol.same s,s _ _ h.nw,h.rw.tups (.of s),s _ _ h.le,s _ _ h.fo,s _ _ h.fr,s _ _ h.t0,h.pp.imp fun kvs z=>⟨s _ _ z.1,z.2⟩⟩
theorem PS.pa{lo ln ll lf lc pp:Addr}{aI c5:List FR}{xs:List V}{ld:eO}{t0:Addr}{kn:Nat}{G:Hp}(h:PS lo ln ll lf lc pp aI c5 xs ld t0 kn G):p6 G pp ll lf lc:=⟨h.pp.imp fun kvs z=>⟨z.1,z.2.2⟩⟩
theorem EC{G:Hp}{lc t0:Addr}{n:Nat}(h:G lc=some (.lst (replicate n (.ref t0))))(ht:G t0=some (.tup [])):dr G lc (replicate n []):=⟨_,h,by rw[length_replicate,length_replicate],fun j x mm h1 h2=>by
 rw[List.getElem?_replicate]at h1 h2;split at h1
 ·rename_i hj;rw[if_pos hj]at h2;cases h1;cases h2;exact⟨t0,rfl,ht,fun b hb=>absurd hb not_mem_nil,List.Pairwise.nil,List.nodup_nil,by decide⟩
 ·cases h1⟩
def oD:Option Int->Da
 | none=>.non
 | some i=>.int i
theorem ED(K:Frag){G:Hp}{l:Addr}{ld:eO}(h:G l=some (.lst (ld.map oV))):dY K G (.ref l) (.lst (ld.map oD)):=.lst (aR.of h) (by rw[length_map,length_map]) fun i x d h1 h2=>by
 rw[ag]at h1 h2;obtain⟨a,ha,rfl⟩:=map_eq_some_iff.mp h1;rw[ha]at h2;cases h2;cases a with
 | none=>exact .non
 | some i=>exact .int i
theorem Ad(K:Frag){G:Hp}{l p q r s:Addr}{a b c d:Da}(h:G l=some (.lst [.ref p,.ref q,.ref r,.ref s]))(ha:dY K G (.ref p) a)(hb:dY K G (.ref q) b)(hc:dY K G (.ref r) c)(hd:dY K G (.ref s) d):dY K G (.ref l) (.lst [a,b,c,d]):=.lst (aR.of h) rfl fun i x e h1 h2=>by
 match i,h1,h2 with
 | 0,h1,h2=>cases h1;cases h2;exact ha
 | 1,h1,h2=>cases h1;cases h2;exact hb
 | 2,h1,h2=>cases h1;cases h2;exact hc
 | 3,h1,h2=>cases h1;cases h2;exact hd
 | i+4,h1,_=>cases h1
theorem Ae(ds:List FR)(ld:eO)(fs:List Int)(cl:List (List Int)):(Da.lst [.lst (ds.map vT),.lst (ld.map oD),.lst (fs.map Da.int),.lst (cl.map fun m=>.tup (m.map Da.int))]).Nb 4:=.lst fun d hd=>by
 simp only[mem_cons,not_mem_nil,or_false]at hd;rcases hd with rfl | rfl | rfl | rfl
 ·exact uh ds
 ·refine .lst fun d hd=>?_;obtain⟨a,_,rfl⟩:=mem_map.mp hd;cases a with
  | none=>exact .non
  | some i=>exact .int
 ·refine .lst fun d hd=>?_;obtain⟨a,_,rfl⟩:=mem_map.mp hd;exact .int
 ·refine .lst fun d hd=>?_;obtain⟨m,_,rfl⟩:=mem_map.mp hd;refine .tup fun d hd=>?_;obtain⟨a,_,rfl⟩:=mem_map.mp hd;exact .int
theorem qo{K:Frag}:kitOne K (.type "str") (.type "bool")=some false:=tI (by decide) (by decide+kernel) (by decide+kernel)
theorem ui{K:Frag}:kitOne K (.type "tuple") (.type "bool")=some false:=tI (by decide) (by decide+kernel) (by decide+kernel)
theorem EF{K:Frag}{H:Hp}{q:Addr}{d:FR}(h:cw H q d):∃zs,H q=some (.tup zs)/\∀z∈zs,∃t,(∀G,Same H G->gM K G z t)/\kitOne K t (.type "bool")=some false:=by
 rcases h.2 with ⟨_,b,p,e3,e4,e5⟩ | ⟨_,e⟩
 ·refine⟨_,e4,fun z hz=>?_⟩;rcases mem_cons.mp hz with rfl | hz
  ·exact⟨_,fun _ _=>.str _,qo⟩
  rcases mem_cons.mp hz with rfl | hz
  ·exact⟨_,fun _ _=>.int _,jO⟩
  rw[mem_singleton.mp hz];exact⟨_,fun _ s=>.tup (s _ _ e5),ui⟩
 ·refine⟨_,e,fun z hz=>?_⟩;rcases mem_cons.mp hz with rfl | hz
  ·exact⟨_,fun _ _=>.str _,qo⟩
  obtain⟨i,_,rfl⟩:=mem_map.mp hz;exact⟨_,fun _ _=>.int _,jO⟩
variable {P:Program}{w:World}{K:Frag}{mg:Str->Option Value}{base:Heap}
inductive Af(vs:List V)(H:Hp)(Q:VK)(E_:XK):Prop
 | mk (a:Addr) (ns:List Int) (_:vs=[.ref a]) (_:aR K H a (ns.map V.int)) (_:ns.length<=63) (_:∀H',Q (.bl true) H')
theorem kJ:aM ["_law_script","_law_old","_law_new_here","_law_leads","_law_paper","_law_way","_law_kept","_law_turn","_law_found"] ["_law_script"] (ao eS):=by walk_at "sc1"
def HK:Scope:={kind:=.function,names:=[(".0",.local),("_law_row_here",.local),("_law_far",.globalImplicit)],isGenerator:=false,isCoroutine:=false,more:=[]}
theorem Ag:cC (ao eS) HK ["_law_script","_law_old","_law_new_here","_law_leads","_law_paper","_law_way","_law_kept","_law_turn","_law_found"] ["_law_row_here"] [none]:=by walk_at "sc2"
def HL:Scope:={kind:=.function,names:=[(".0",.local),("_law_row_here",.local),("isinstance",.globalImplicit),("tuple",.globalImplicit)],isGenerator:=false,isCoroutine:=false,more:=[]}
theorem Ah:cC (ao eS) HL ["_law_script","_law_old","_law_new_here","_law_leads","_law_paper","_law_way","_law_kept","_law_turn","_law_found"] ["_law_row_here"] [none]:=by walk_at "sc2"
def Ai:Scope:={kind:=.function,names:=[(".0",.local),("_law_row_here",.local)],isGenerator:=false,isCoroutine:=false,more:=[]}
theorem Aj:cC (ao eS) Ai ["_law_script","_law_old","_law_new_here","_law_leads","_law_paper","_law_way","_law_kept","_law_turn","_law_found"] ["_law_row_here"] [none]:=by walk_at "sc2"
def HM:Scope:={kind:=.function,names:=[(".0",.local),("_law_part",.local),("isinstance",.globalImplicit),("bool",.globalImplicit)],isGenerator:=false,isCoroutine:=false,more:=[]}
theorem Ak:cC (Wp Ai (ao eS)) HM ["_law_row_here"] ["_law_part"] [none]:=by walk_at "sc2"
theorem L7{f fR fN fA fL fO fC:Addr}{fd zF pT Pk zI QM IV:el}{WC jc:Addr}(F:cy K "law" "law" eS f fd)(T:Txt K w.params mg)(GR:aN P w K mg base bu 3 fR zF ["_law_script"] (QD (K:=K)))(kR:KI K fR)(bR:Binds K zF ["_law_script"] [])(mR:mg "_law_program"=some (.ref fR))(GN:aN P w K mg base bu 4 fN pT ["_law_old","_law_cell"] Q5)(kN:KI K fN)(bN:Binds K pT ["_law_old","_law_cell"] [])(mN:mg "_law_new"=some (.ref fN))(GA:aN P w K mg base bu 1 fA Pk ["_law_script","_law_k"] (Ea (K:=K)))(kA:KI K fA)(bA:Binds K Pk ["_law_script","_law_k"] [])(mA:mg "_law_cell_at"=some (.ref fA))(GL:aN P w K mg base bu 1 fL zI ["_law_row_here"] QA)(kL:KI K fL)(bL:Binds K zI ["_law_row_here"] [])(mL:mg "_law_far"=some (.ref fL))(GO:aN P w K mg base bu 5 fO QM ["new","paper"] QL)(kO:KI K fO)(bO:Binds K QM ["new","paper"] [])(mO:mg "taken_out"=some (.ref fO))(GC:aN P w K mg base (Nu P w) 8 fC IV ["old","new","paper"] (Ln WC jc))(kC:KI K fC)(bC:Binds K IV ["old","new","paper"] [])(mC:mg "check_paper"=some (.ref fC)):aN P w K mg base bu 9 f fd ["_law_script"] (Af (K:=K)):=by
 refine F.ok kJ (by walk_at "ln") (fun J4 A outer s H vs Q E hr h=>?_)
 ·obtain⟨sc,ns,rfl,hS,hns,kq⟩:=h;have hu:=iM hr;have Z7:=kU (Nat.add_le_add_left (by decide:6<=64) _) hr.units;have hu0:=hr.oU;have hr1:=hr.mono (show 1<=_ by decide);have U3:=hr.mono (show 3<=_ by decide);have hr4:=hr.mono (show 4<=_ by decide);have hr5:=hr.mono (show 5<=_ by decide)
  refine ck (ak (aq (aT (i:=1) kJ.nd rfl (Or.inl rfl) (aA GR U3 (by rfl) mR kR bR .nil aQ (ae (pv 0) ah))))
   (ak (aq (e9 (aA GN hr4 (by rfl) mN kN bN .nil aQ (ae (pv 1) (ae (aA GA hr1 (by rfl) mA kA bA .nil aQ (ae (pv 0) (ae aj ah))) ah))) (wA (n:=2) rfl (gJ (bg (i:=2) kJ.nd rfl (Or.inl rfl)) (gJ (bg (i:=3) kJ.nd rfl (Or.inl rfl)) sC)))))
   (ak (vD (Hh (i:=4) kJ.nd rfl (Or.inl rfl) (Ez (.cons ay (pv 3) (.cons ay (cW (X:=(gi bu P w K mg base ["_law_script","_law_old","_law_new_here","_law_leads","_law_paper","_law_way","_law_kept","_law_turn","_law_found"] "law" (ao eS) f J4 A outer s H E).wo) (N':=["_law_row_here"]) (fr:=[none]) Ag rfl (cJ (pv 1)) (fun C s0 H0 fp=>(bg (i:=0) Ag.nd rfl (Or.inl rfl))) (fun C s0 H0 fp=>df) (fun C s0 H0 fp=>(aA GL hr1 (by rfl) mL kL bL .nil aQ (ae (pv 0) ah)))) (.cons ay (aS oY (aY (ae (aV ah) ah)) (aG aK (by rfl) T.len bV (ae (pv 1) ah))) .nil))) rfl rfl (cons_ne_nil _ _) (zle))))
   (ak (aq (aT (i:=5) kJ.nd rfl (Or.inl rfl) (aS fc (aA GA hr1 (by rfl) mA kA bA .nil aQ (ae (pv 0) (ae aj ah))) aj)))
   (pF (bj (aE jz (pv 5) aj (aP _)) (au (aq (iq hu (pv 4) ay (aY ah) rfl))) (aU aF))
   (ak (aq (aT (i:=6) kJ.nd rfl (Or.inl rfl) (zK (.cons (bq cD (by rfl) T.list dq (ae (pv 2) ah)) (.cons (bq cD (by rfl) T.list dq (ae (pv 3) ah)) (.cons (bq cD (by rfl) T.list dq (ae (c9 hu (pv 4) ay (fun _ _=>rfl)) ah)) (.cons (bq cD (by rfl) T.list dq (ae (c9 hu (pv 4) ay (fun _ _=>rfl)) ah)) .nil)))))))
   (pF (bj (sA (aE dJ (aS fc (pv 5) aj) aj (aP _)) (oy (aE ik (aA GC hr (by rfl) mC kC bC .nil IU (ae (pv 1) (ae (pv 2) (ae (pv 4) ah)))) dM (aP _)))).pt (au (aq (aC dI))) (aU aF))
   (ak (aq (dA PassesOwn.never rfl (ei rfl T.range (ae aj ah)) (bg (i:=7) kJ.nd rfl (Or.inl rfl)) (aL (aT (i:=8) kJ.nd rfl (Or.inl rfl) (aA GO hr5 (by rfl) mO kO bO .nil aQ (ae (pv 2) (ae (pv 4) ah))))
   (aL (cS (iK (dm (cq (aG cG (by rfl) T.Fn gA (ae (pv 8) (ae (eB (v:=.ty "list") (by rfl) T.list dq rfl) ah))))) (iK (aE (Ke Z7) (pv 8) (pv 1) (aP _)) (eZ (aE (sW hu0) (cW (X:=(gi bu P w K mg base ["_law_script","_law_old","_law_new_here","_law_leads","_law_paper","_law_way","_law_kept","_law_turn","_law_found"] "law" (ao eS) f J4 A outer s H E).wo) (N':=["_law_row_here"]) (fr:=[none]) Ah rfl (cJ (pv 8)) (fun C s0 H0 fp=>(bg (i:=0) Ah.nd rfl (Or.inl rfl))) (fun C s0 H0 fp=>(j7 (dm (cq (aG (r:=gk K) cG (by rfl) T.Fn gA (ae (pv 0) (ae (eB (v:=.ty "tuple") (by rfl) T.tuple gY rfl) ah))))))) (fun C s0 H0 fp=>(pv 0))) (aY ah) (aP _))))).pt (aJ (aC dI)) aF)
   (aL (cS (aE (sW hu0) (cW (X:=(gi bu P w K mg base ["_law_script","_law_old","_law_new_here","_law_leads","_law_paper","_law_way","_law_kept","_law_turn","_law_found"] "law" (ao eS) f J4 A outer s H E).wo) (N':=["_law_row_here"]) (fr:=[none]) Aj rfl (cJ (pv 8)) (fun C s0 H0 fp=>(bg (i:=0) Aj.nd rfl (Or.inl rfl))) (fun C s0 H0 fp=>(j7 (aE (r:=OJ K) (sW hu0) (cW (wi:=Oc K (Aq 0)) (N':=["_law_part"]) (fr:=[none]) Ak rfl (k8 (pv 0)) (fun C s0 H0 fp=>(bg (i:=0) Ak.nd rfl (Or.inl rfl))) (fun C s0 H0 fp=>(j7 (cq (aG (r:=gk K) cG (by rfl) T.Fn gA (ae (pv 0) (ae (eB (v:=.ty "bool") (by rfl) T.bool zA rfl) ah)))))) (fun C s0 H0 fp=>(pv 0))) (aY ah) (aP _)))) (fun C s0 H0 fp=>(pv 0))) (aY ah) (aP _)) (aJ (aC dI)) aF)
   (aJ (dy (wU ge PySem.F.slot_list_clear PySem.F.type_list_clear CM (pv 8)))))))))
   (ak (bj (iK (aE ik (aA GC hr (by rfl) mC kC bC .nil IU (ae (pv 1) (ae (pv 2) (ae (pv 4) ah)))) dM (aP _)) (eZ (aE rN (aG AJ (by rfl) T.len bV (ae (pv 4) ah)) (aS cL aj (bq rQ (by rfl) T.int xH (ae (cT jz (pv 5) aj (aP _)) ah))) (aP _)))).pt (au (aq (aC dI))) (aU aF))
   (au (aq (aC (cT (Ka Z7) (zK (.cons (pv 2) (.cons (c9 hu (pv 4) ay (fun _ _=>rfl)) (.cons (c9 hu (pv 4) ay (fun _ _=>rfl)) (.cons (c9 hu (pv 4) ay (fun _ _=>rfl)) .nil))))) (pv 6) (aP _)))))))))))))) ?_
  refine⟨_,rfl,sc,ns,rfl,hS,hns,fun lo xo aI G1 s1 _ hlo hL Z8 hE h1 h9=>?_⟩;have hG:∀e∈aI,GF (aI.length:Nat) e:=fun e he=>(Z8 e he).1;have sS:∀{G:Hp},Same H G->aR K G sc (ns.map V.int):=fun s=>hS.imp (fun z=>z.imp (s _ _) (fun y=>y.imp fun _ x=>s _ _ x)) id;refine⟨_,rfl,_,rfl,sc,ns,0,rfl,sS s1,Int.le_refl _,fun c0=>⟨lo,c0,aI,rfl,hL.rows hlo,hG,hE,h1,h9,fun q ln ll xs Tj ld G2 s2 g2 NM hxs hll FD=>?_⟩⟩;refine⟨q,_,rfl,bp.of g2,rfl,_,_,rfl,_,_,rfl,rfl,?_⟩;have EG:=s2 _ _ hlo;have hL2:=hL.tups (.of s2);have S2:=s1.trans s2;clear hL hlo s1 s2 g2;have Rk:=hL2.len;refine fun pp Z9=>bZ Z9 fun G3 s3 g3=>?_;refine⟨_,rfl,?_⟩;refine⟨_,rfl,lo,rfl,⟨_,aR.of (s3 _ _ EG)⟩,fun lf B9=>cO (K:=K) (xs:=xo) (fun i σ zs G=>∃v:Option V,σ=[v]/\zs=((aI.take i).map d7).map V.int/\Same G3 G/\G lf=some (.lst zs)) ?_ ?_ ?_ ?_⟩
  ·exact⟨none,rfl,rfl,aw B9,ai⟩
  ·rintro i σ zs G _ ⟨v,rfl,_,s4,_⟩;exact aR.of ((s3.trans s4) _ _ EG)
  ·rintro i x σ zs G hxi ⟨v,rfl,rfl,s4,hl⟩;obtain⟨q,d,rfl,hd,hrow⟩:=hL2.row hxi;have hil:=(al.mp hd).1;refine⟨_,rfl,q,d,_,rfl,hrow.same (s3.trans s4),hG d (am hd),fun G' s5=>⟨s5 _ _ hl,bh (by rw[length_map,length_map,length_take];omega),_,rfl,?_,aZ (s4.trans s5) B9,ai⟩⟩;rw[take_add_one,hd,toList_some,map_append,map_append];rfl
  rintro σ zs' G4 ⟨v,rfl,rfl,s4,Wq⟩;rw[Rk,take_of_length_le (le_refl _)]at Wq;refine⟨zle,fun t0 nt=>bZ nt fun G5 s5 g5=>⟨zle,fun la na=>bZ na fun G6 s6 g6=>?_⟩⟩;refine⟨_,rfl,lo,_,rfl,.inl (aR.of ((s3.trans (s4.trans (s5.trans s6))) _ _ EG)),la,_,_,rfl,rfl,g6,by omega,by omega,cH (by simp;omega),fun lc nc=>?_⟩;rw[lv,Rk,rep1];refine bZ nc fun G7 s7 g7=>?_;have Rm:=s4.trans (s5.trans (s6.trans s7));refine⟨Rm _ _ g3,qm ll lf lc,rfl,(by show 3<=15;decide),?_⟩;rw[show lE [] (qm ll lf lc)=qm ll lf lc from rfl];have S7:Same G2 (upd G7 pp (.dK (qm ll lf lc))):=aZ (s3.trans Rm) Z9;have T7:dX G7 (upd G7 pp (.dK (qm ll lf lc))):=.upd (Rm _ _ g3) (fun _ z=>nomatch z);have P8:PS lo ln ll lf lc pp aI (Tj.map (jx (stI ld aI.length))) xs ld t0 3 (upd G7 pp (.dK (qm ll lf lc))):=by
   have kp:∀{b:Addr} {zs:List V},G7 b=some (.lst zs)->upd G7 pp (.dK (qm ll lf lc)) b=some (.lst zs):=fun {b zs} e=>by rw[az (fun z=>by rw[z,Rm _ _ g3]at e;cases e)];exact e
   exact⟨(hL2.tups (.of S7)).rows (S7 _ _ EG),S7 _ _ NM,hxs.tups (.of S7),S7 _ _ hll,kp ((s5.trans (s6.trans s7)) _ _ Wq),kp g7,T7 _ _ ((s6.trans s7) _ _ g5),_,ai,rfl,rfl,rfl,rfl⟩
  have S8:=S2.trans S7;have hp8:upd G7 pp (.dK (qm ll lf lc)) pp=_:=ai;generalize upd G7 pp (.dK (qm ll lf lc))=G8 at S8 P8 hp8 ⊢;clear S7 T7 g3 g5 g6 g7 s3 Rm s4 s5 s6 s7 Wq hL2 EG NM hxs hll;refine⟨_,rfl,sc,ns,1,rfl,sS S8,by decide,fun c1=>⟨_,_,rfl,rfl,UJ,?_⟩⟩;show iL _ (.int (c1 % 4)) _ _ _;generalize c1 % 4=wv;refine⟨fun σ G=>σ=[some (.ref sc),some (.ref lo),some (.ref ln),some (.ref ll),some (.ref pp),some (.int wv),none,none,none]/\PS lo ln ll lf lc pp aI (Tj.map (jx (stI ld aI.length))) xs ld t0 (if wv<2 then 4 else 3) G,?_,?_⟩
  ·refine⟨_,rfl,_,_,rfl,rfl,_,rfl,cK (fun e=>?_) (fun e=>?_)⟩
   ·rw[if_pos (of_decide_eq_true e)];refine⟨zle,fun l0 n0=>bZ n0 fun G9 s9 g9=>⟨_,rfl,pp,_,rfl,lA.k (k:=(Sum.inr "counts": Key)) (s9 _ _ hp8) (bh (by show 3<=1000000;decide)),rfl,?_⟩⟩;have P9:=P8.same s9;have T9:dX G9 (upd G9 pp (.dK (putK (qm ll lf lc) (Sum.inr "counts") (.ref l0)))):=.upd (s9 _ _ hp8) (fun _ z=>nomatch z);have kp:∀{b:Addr} {zs:List V},G9 b=some (.lst zs)->upd G9 pp (.dK (putK (qm ll lf lc) (Sum.inr "counts") (.ref l0))) b=some (.lst zs):=fun {b zs} e=>by rw[az (fun z=>by rw[z,s9 _ _ hp8]at e;cases e)];exact e
    obtain⟨qs,o1,o2,o3⟩:=P9.ol;exact⟨⟨qs,kp o1,o2,fun i q d e f=>(o3 i q d e f).tups T9⟩,kp P9.nw,P9.rw.tups T9,kp P9.le,kp P9.fo,kp P9.fr,T9 _ _ P9.t0,_,ai,rfl,rfl,rfl,rfl⟩
   ·rw[if_neg (fun z=>e (decide_eq_true z))];exact⟨rfl,P8⟩
  rintro σ G9 ⟨rfl,P9⟩;clear P8 S8;refine⟨_,rfl,ln,_,rfl,.inl (aR.of P9.nw),fun k1 n1=>bZ n1 fun NS qN HB=>?_⟩;have Wr:=P9.same qN;refine⟨_,rfl,ll,_,rfl,.inl (aR.of Wr.le),fun k2 n2=>bZ n2 fun SV pj Jl=>?_⟩;have Tn:=Wr.same pj;obtain⟨kvs,hp,hkn,hv1,hv2,IW⟩:=Tn.pp;refine⟨_,rfl,pp,_,rfl,by rw[<-hv2];exact dP.k (k:=(Sum.inr "forms": Key)) hp,lf,_,rfl,.inl (aR.of Tn.fo),fun k3 n3=>bZ n3 fun QX s12 Fy=>?_⟩;have Ws:=Tn.same s12;refine⟨_,rfl,pp,_,rfl,by rw[<-IW];exact dP.k (k:=(Sum.inr "free": Key)) (s12 _ _ hp),lc,_,rfl,.inl (aR.of Ws.fr),fun k4 n4=>bZ n4 fun V3 km QY=>⟨zle,fun lk nk=>bZ nk fun NT uM QZ=>?_⟩⟩;have Tp:=Ws.same (km.trans uM);have HN:=(s12.trans (km.trans uM)) _ _ hp;have Wt:=(pj.trans (s12.trans (km.trans uM))) _ _ HB;have Wu:=(s12.trans (km.trans uM)) _ _ Jl;have Wv:=(km.trans uM) _ _ Fy;have Ww:=uM _ _ QY;clear P9 Wr Tn Ws qN pj s12 km uM HB Jl Fy QY hp n1 n2 n3 n4 nk;obtain⟨wk,hwk,hgood⟩:=Ey FD Z8 hE h1 (replicate aI.length []);have Wx:=L6 FD hG hE;have hout:=HG FD hG hE;have PF:=HI hG hE
  have hfl:(ld.filterMap id).length<64/\ld.length<=1000:=⟨by
   rw[FD.Jo.2.length_eq];unfold iO;rw[length_map,length_range]
   omega,by rw[FD.mid.len];have:=FD.len;omega⟩
  have hdl:(Tj.map (jx (stI ld aI.length))).length<=1000:=by rw[length_map];have:=FD.len;omega
  generalize Tj.map (jx (stI ld aI.length))=c5 at Tp hwk hgood Wx hout hdl;have chk:∀{G:Hp} {Q:VK} {E:XK},Same NT G->(∀G',Same NT G'->Q .non G')->Ln WC jc [.ref lo,.ref ln,.ref pp] G Q E:=fun {G Q E} s kk=>
   have P:=Tp.same s
   ⟨lo,ln,pp,ll,lf,lc,aI,c5,ld,aI.map d7,replicate aI.length [],_,_,wk,rfl,P.ol,P.rw.rows P.nw,P.pa,P.le,hfl,P.fo,by rw[length_map];omega,EC P.fr P.t0,length_replicate,by omega,hdl,hG,Wx,PF,Bs,fun _=>hwk,fun _ G' s'=>kk G' (s.trans s'),fun z=>absurd hgood z⟩
  refine⟨fun σ G=>σ=[some (.ref sc),some (.ref lo),some (.ref ln),some (.ref ll),some (.ref pp),some (.int wv),some (.ref lk),none,none]/\Same NT G,?_,?_⟩
  ·refine⟨_,rfl,_,_,rfl,rfl,UH,rfl,_,rfl,cK (fun e=>⟨_,rfl,_,rfl,_,rfl,chk (.refl _) fun G' s'=>⟨rfl,_,rfl,bU (by decide) ⟨rfl,s'⟩⟩⟩) (fun e=>⟨rfl,.refl _⟩)⟩
  rintro σ ZW ⟨rfl,B8⟩;refine⟨_,rfl,by decide,by decide,gL (lo:=0) (n:=((2:Int)).toNat) (fun i σ G=>∃v7 v8:Option V,σ=[some (.ref sc),some (.ref lo),some (.ref ln),some (.ref ll),some (.ref pp),some (.int wv),some (.ref lk),v7,v8]/\Same NT G) ?_ ?_ ?_⟩
  ·exact⟨none,none,rfl,B8⟩
  ·rintro i σ G hi ⟨v7,v8,rfl,HC⟩;have P:=Tp.same HC;show iL _ _ _ _ _;refine⟨_,rfl,_,rfl,ln,pp,ll,lf,lc,c5,aI,ld,aI.map d7,_,rfl,P.rw.rows P.nw,P.pa,P.le,hfl.2,P.fo,by rw[length_map];omega,Wx,by rw[length_map],hout,fun lx ys Wg zW nx hx hys=>?_⟩;have Wy:=P.same zW;have hyl:=hys.len;refine⟨_,rfl,_,_,_,_,rfl,.lst hx,fY,_,rfl,bU (by decide) ?_⟩;refine⟨_,rfl,_,rfl,3,lx,lo,_,_,rfl,rfl,(hys.rows hx).da K,Wy.ol.da K,uh _,uh _,by decide,_,rfl,bU (by rw[decide_eq_true rfl];decide) ?_⟩;refine⟨_,rfl,lx,rfl,⟨_,aR.of hx⟩,fun D nD=>cO (K:=K) (xs:=ys) (fun i σ zs G=>∃v:Option V,σ=[v]/\zs=[]/\Same Wg G/\G D=some (.lst zs)) ?_ ?_ ?_ ?_⟩
   ·exact⟨none,rfl,rfl,aw nD,ai⟩
   ·rintro i σ zs G _ ⟨v,rfl,rfl,Bq,_⟩;exact aR.of (Bq _ _ hx)
   ·rintro i x σ zs G hxi ⟨v,rfl,rfl,Bq,hD⟩;obtain⟨q,d,rfl,hd,hrow⟩:=hys.row hxi;obtain⟨us,hu1,_⟩:=EF (K:=K) (hrow.same Bq);exact⟨_,rfl,_,_,_,_,rfl,.tup hu1,jE,_,rfl,bU (by decide) ⟨_,rfl,rfl,Bq,hD⟩⟩
   rintro σ zs Z5 ⟨v,rfl,rfl,Bq,hD⟩;refine⟨zle,fun l0 n0=>bZ n0 fun Z6 Rb Td=>⟨D,l0,[],[],rfl,rfl,aR.of (Rb _ _ hD),aR.of Td,fun i a b z=>(by cases z),_,rfl,bU (by decide) ?_⟩⟩;have Al:=Bq.trans Rb;clear hD nD Td n0 Bq Rb;refine⟨_,rfl,lx,rfl,⟨_,aR.of (Al _ _ hx)⟩,fun D nD=>cO (K:=K) (xs:=ys) (fun i σ zs G=>∃v:Option V,σ=[v]/\zs=[]/\Same Z6 G/\G D=some (.lst zs)) ?_ ?_ ?_ ?_⟩
   ·exact⟨none,rfl,rfl,aw nD,ai⟩
   ·rintro i σ zs G _ ⟨v,rfl,rfl,Jr,_⟩;exact aR.of ((Al.trans Jr) _ _ hx)
   ·rintro i x σ zs G hxi ⟨v,rfl,rfl,Jr,hD⟩;obtain⟨q,d,rfl,hd,hrow⟩:=hys.row hxi;obtain⟨us,hu1,hu2⟩:=EF (K:=K) (hrow.same (Al.trans Jr));refine⟨_,rfl,q,rfl,⟨_,bp.of hu1⟩,fun D2 Fp=>gW (K:=K) (xs:=us) (fun j τ zs G'=>∃v:Option V,τ=[v]/\zs=[]/\Same G G'/\G' D2=some (.lst zs)) ?_ ?_ ?_ ?_⟩
    ·exact⟨none,rfl,rfl,aw Fp,ai⟩
    ·rintro j τ zs G' _ ⟨v,rfl,rfl,FE,_⟩;exact bp.of (FE _ _ hu1)
    ·rintro j x τ zs G' hxj ⟨v,rfl,rfl,FE,hD2⟩;obtain⟨t,ht1,zi⟩:=hu2 x (am hxj);exact⟨_,rfl,_,_,_,_,rfl,ht1 _ FE,zi,_,rfl,bU (by decide) ⟨_,rfl,rfl,FE,hD2⟩⟩
    rintro τ zs G21 ⟨v,rfl,rfl,FE,hD2⟩;refine⟨zle,fun l1 n1=>bZ n1 fun G22 Wz g22=>⟨D2,l1,[],[],rfl,rfl,aR.of (Wz _ _ hD2),aR.of g22,fun i a b z=>(by cases z),_,rfl,bU (by decide) ⟨_,rfl,rfl,Jr.trans (FE.trans Wz),(FE.trans Wz) _ _ hD⟩⟩⟩
   rintro σ zs G20 ⟨v,rfl,rfl,Jr,hD⟩;refine⟨zle,fun l0 n0=>bZ n0 fun G21 FE g21=>⟨D,l0,[],[],rfl,rfl,aR.of (FE _ _ hD),aR.of g21,fun i a b z=>(by cases z),_,rfl,bU (by decide) ?_⟩⟩;have EH:=Al.trans (Jr.trans FE);refine⟨_,rfl,.inl ⟨rfl,_,aR.of (EH _ _ hx)⟩,lx,_,rfl,rfl,EH _ _ hx,?_⟩;exact⟨_,_,rfl,HC.trans (aZ (zW.trans EH) nx)⟩
  rintro σ V7 ⟨v7,v8,rfl,HC⟩;refine⟨_,rfl,_,rfl,_,rfl,chk HC fun Wg zW=>⟨rfl,_,rfl,bU (by decide) ?_⟩⟩;have Wy:=Tp.same zW;refine⟨_,rfl,pp,_,rfl,zW _ _ HN,_,rfl,_,_,rfl,rfl,.inr ⟨_,rfl,_,_,rfl,rfl,rfl,_,rfl,bU ?_ ?_⟩⟩
  ·rw[hkn];by_cases c:wv<2
   ·rw[if_pos c,decide_eq_true c];decide
   ·rw[if_neg c,decide_eq_false c];decide
  refine⟨_,rfl,_,rfl,pp,_,rfl,by rw[<-hv1];exact dP.k (k:=(Sum.inr "leads": Key)) (zW _ _ HN),_,rfl,pp,_,rfl,by rw[<-hv2];exact dP.k (k:=(Sum.inr "forms": Key)) (zW _ _ HN),_,rfl,pp,_,rfl,by rw[<-IW];exact dP.k (k:=(Sum.inr "free": Key)) (zW _ _ HN),zle,fun le ne=>bZ ne fun Z5 Bq Wh=>?_⟩;have Jt:=Wy.same Bq;have Rn:=zW.trans Bq;refine⟨_,rfl,4,le,lk,_,_,rfl,rfl,Ad K Wh ((Jt.rw.rows Jt.nw).da K) (ED K Jt.le) (.lst (aR.of Jt.fo) (by simp) (kI K _ _)) ((EC Jt.fr Jt.t0).da K),Ad K (Rn _ _ QZ) ((Jt.rw.rows (Rn _ _ Wt)).da K) (ED K (Rn _ _ Wu)) (.lst (aR.of (Rn _ _ Wv)) (by simp) (kI K _ _)) ((EC (Rn _ _ Ww) Jt.t0).da K),Ae _ _ _ _,Ae _ _ _ _,by decide,?_⟩;rw[decide_eq_true rfl];exact kq _
end
set_option maxHeartbeats 8000000
theorem EI{α:Type}{p:α->Prop}:∀x∈([]:List α),p x:=fun x h=>absurd h (by simp)
theorem cA{α:Type}{p:α->Prop}{a:α}{l:List α}(h:p a)(t:∀x∈l,p x):∀x∈a::l,p x:=fun x hx=>by
 rcases mem_cons.mp hx with rfl | hx
 ·exact h
 ·exact t x hx
theorem yh{K:Frag}{x q:Str}{st:Stmt}{f:Addr}{fd:el}{a:Str}(F:cy K x q st f fd)(h:∀(kV doc pm:Value) (an:Option Addr) (J4 ct u:Value),bindArgs (fnOf x q (cV st) (cE st) (ao st) .none kV doc pm an J4 ct) ⟨[u],[]⟩=pure [(a,u)]):Binds K fd [a] []:=F.binds fun kV doc pm an J4 ct us hl=>match us,hl with | [u],_=>h kV doc pm an J4 ct u
theorem qH{K:Frag}{x q:Str}{st:Stmt}{f:Addr}{fd:el}{a b:Str}(F:cy K x q st f fd)(h:∀(kV doc pm:Value) (an:Option Addr) (J4 ct u v:Value),bindArgs (fnOf x q (cV st) (cE st) (ao st) .none kV doc pm an J4 ct) ⟨[u,v],[]⟩=pure [(a,u),(b,v)]):Binds K fd [a,b] []:=F.binds fun kV doc pm an J4 ct us hl=>match us,hl with | [u,v],_=>h kV doc pm an J4 ct u v
theorem HP{K:Frag}{x q:Str}{st:Stmt}{f:Addr}{fd:el}{a b c:Str}(F:cy K x q st f fd)(h:∀(kV doc pm:Value) (an:Option Addr) (J4 ct u v y:Value),bindArgs (fnOf x q (cV st) (cE st) (ao st) .none kV doc pm an J4 ct) ⟨[u,v,y],[]⟩=pure [(a,u),(b,v),(c,y)]):Binds K fd [a,b,c] []:=F.binds fun kV doc pm an J4 ct us hl=>match us,hl with | [u,v,y],_=>h kV doc pm an J4 ct u v y
theorem WB{K:Frag}{x q:Str}{st:Stmt}{f:Addr}{fd:el}{a b c d:Str}(F:cy K x q st f fd)(h:∀(kV doc pm:Value) (an:Option Addr) (J4 ct u v y z:Value),bindArgs (fnOf x q (cV st) (cE st) (ao st) .none kV doc pm an J4 ct) ⟨[u,v,y,z],[]⟩=pure [(a,u),(b,v),(c,y),(d,z)]):Binds K fd [a,b,c,d] []:=F.binds fun kV doc pm an J4 ct us hl=>match us,hl with | [u,v,y,z],_=>h kV doc pm an J4 ct u v y z
theorem bd5{K:Frag}{x q:Str}{st:Stmt}{f:Addr}{fd:el}{a b c d e:Str}(F:cy K x q st f fd)(h:∀(kV doc pm:Value) (an:Option Addr) (J4 ct u v y z t:Value),bindArgs (fnOf x q (cV st) (cE st) (ao st) .none kV doc pm an J4 ct) ⟨[u,v,y,z,t],[]⟩=pure [(a,u),(b,v),(c,y),(d,z),(e,t)]):Binds K fd [a,b,c,d,e] []:=F.binds fun kV doc pm an J4 ct us hl=>match us,hl with | [u,v,y,z,t],_=>h kV doc pm an J4 ct u v y z t
theorem all_mk{l:OpenLaw}{w:World}{K:Frag}{h:Heap}{mg:Str->Option Value}{fa f0 f1 f2 f3 f4 f5 f6 f7 f8 f9 f10 f11 f12 f13 f14 f15 f16 f17 f18 f19 f20 f21 f22 f23 f24 f25 f26 f27 f28 f29 f30 f31 f32 f33 f34 f35 f36 f37 f38 f39 f40 f41 f42 f43 WD:Addr}(X:K.In h)(G:h.Ns eh mg)(hfa:mg "law"=some (.ref fa))
  {WG Ro:Option Addr} {WH:Array (Option Value)} {WK Rp Rq Rr L8 Rt:Value} {fd0 fd1 fd2 fd3 fd4 fd5 fd6 fd7 fd8 fd9 WL WM WN WO WQ WU WV WW WX WY WZ W0 W1 W2 W3 W4 W5 W6 W7 W8 W9 Xa Xb Xc Xd Xe Xf Xg Xh Xi Xj Xk Xl Xm:el}
  (a0:nsIn K eh "goes_on"=some (some (.ref f0))) (F0:cy K "goes_on" "goes_on" A5 f0 fd0)
  (a1:nsIn K eh "targets_of"=some (some (.ref f1))) (F1:cy K "targets_of" "targets_of" tF f1 fd1)
  (a2:nsIn K eh "with_targets"=some (some (.ref f2))) (F2:cy K "with_targets" "with_targets" fJ f2 fd2)
  (a3:nsIn K eh "ways_of"=some (some (.ref f3))) (F3:cy K "ways_of" "ways_of" A6 f3 fd3)
  (a4:nsIn K eh "is_whole"=some (some (.ref f4))) (F4:cy K "is_whole" "is_whole" xC f4 fd4)
  (a5:nsIn K eh "is_number_of"=some (some (.ref f5))) (F5:cy K "is_number_of" "is_number_of" pP f5 fd5)
  (a6:nsIn K eh "has_far"=some (some (.ref f6))) (F6:cy K "has_far" "has_far" lL f6 fd6)
  (a7:nsIn K eh "far_of"=some (some (.ref f7))) (F7:cy K "far_of" "far_of" pQ f7 fd7)
  (a8:nsIn K eh "with_far"=some (some (.ref f8))) (F8:cy K "with_far" "with_far" jL f8 fd8)
  (a9:nsIn K eh "parts_of"=some (some (.ref f9))) (F9:cy K "parts_of" "parts_of" ix f9 fd9)
  (aa:nsIn K eh "asides_named"=some (some (.ref f10))) (ab:cy K "asides_named" "asides_named" ft f10 WL)
  (ac:nsIn K eh "places_of"=some (some (.ref f11))) (ad:cy K "places_of" "places_of" iZ f11 WM)
  (ae:nsIn K eh "next_rows"=some (some (.ref f12))) (af:cy K "next_rows" "next_rows" i0 f12 WN)
  (ag:nsIn K eh "comes_to"=some (some (.ref f13))) (ah:cy K "comes_to" "comes_to" jM f13 WO)
  (ai:nsIn K eh "old_target"=some (some (.ref f14))) (aj:cy K "old_target" "old_target" iz f14 WQ)
  (ak:nsIn K eh "taken_out"=some (some (.ref f15))) (al:cy K "taken_out" "taken_out" fX f15 WU)
  (am:nsIn K eh "reads_of"=some (some (.ref f16))) (an:cy K "reads_of" "reads_of" xD f16 WV)
  (ap:nsIn K eh "writes_of"=some (some (.ref f17))) (aq:cy K "writes_of" "writes_of" vv f17 WW)
  (ar:nsIn K eh "needs_at_once"=some (some (.ref f18))) (au:cy K "needs_at_once" "needs_at_once" ni f18 WX)
  (av:nsIn K eh "ways_ahead"=some (some (.ref f19))) (aw:cy K "ways_ahead" "ways_ahead" tG f19 WY)
  (ax:nsIn K eh "is_claim"=some (some (.ref f20))) (ay:cy K "is_claim" "is_claim" xE f20 WZ)
  (az:nsIn K eh "is_right"=some (some (.ref f21))) (aA:cy K "is_right" "is_right" xF f21 W0)
  (aC:nsIn K eh "check_free"=some (some (.ref f22))) (aE:cy K "check_free" "check_free" tH f22 W1)
  (aF:nsIn K eh "walk_from"=some (some (.ref f23))) (aG:cy K "walk_from" "walk_from" i5 f23 W2)
  (aH:nsIn K eh "are_leads"=some (some (.ref f24))) (aI:cy K "are_leads" "are_leads" dD f24 W3)
  (aJ:nsIn K eh "can_stand_for"=some (some (.ref f25))) (aK:cy K "can_stand_for" "can_stand_for" eQ f25 W4)
  (aL:nsIn K eh "are_forms"=some (some (.ref f26))) (aM:cy K "are_forms" "are_forms" dE f26 W5)
  (aO:nsIn K eh "are_free"=some (some (.ref f27))) (aP:cy K "are_free" "are_free" jK f27 W6)
  (aQ:nsIn K eh "may_be_put_in"=some (some (.ref f28))) (aR:cy K "may_be_put_in" "may_be_put_in" eR f28 W7)
  (aS:nsIn K eh "stands_well"=some (some (.ref f29))) (aT:cy K "stands_well" "stands_well" gm f29 W8)
  (aU:nsIn K eh "ways_to_walk"=some (some (.ref f30))) (aV:cy K "ways_to_walk" "ways_to_walk" fz f30 W9)
  (aX:nsIn K eh "leads_well"=some (some (.ref f31))) (aY:cy K "leads_well" "leads_well" d6 f31 Xa)
  (aZ:nsIn K eh "check_paper"=some (some (.ref f32))) (ba:cy K "check_paper" "check_paper" dS f32 Xb)
  (bb:nsIn K eh "_law_cell_at"=some (some (.ref f33))) (bc:cy K "_law_cell_at" "_law_cell_at" gu f33 Xc)
  (bd:nsIn K eh "_law_digit"=some (some (.ref f34))) (be:cy K "_law_digit" "_law_digit" i6 f34 Xd)
  (bf:nsIn K eh "_law_row"=some (some (.ref f35))) (bg:cy K "_law_row" "_law_row" jr f35 Xe)
  (bh:nsIn K eh "_law_program"=some (some (.ref f36))) (bi:cy K "_law_program" "_law_program" eG f36 Xf)
  (bj:nsIn K eh "_law_put_in"=some (some (.ref f37))) (bk:cy K "_law_put_in" "_law_put_in" iy f37 Xg)
  (bl:nsIn K eh "_law_turned"=some (some (.ref f38))) (bm:cy K "_law_turned" "_law_turned" iA f38 Xh)
  (bn:nsIn K eh "_law_targets"=some (some (.ref f39))) (bo:cy K "_law_targets" "_law_targets" gw f39 Xi)
  (bp:nsIn K eh "_law_led"=some (some (.ref f40))) (bq:cy K "_law_led" "_law_led" lM f40 Xj)
  (br:nsIn K eh "_law_where"=some (some (.ref f41))) (bs:cy K "_law_where" "_law_where" i7 f41 Xk)
  (bt:nsIn K eh "_law_new"=some (some (.ref f42))) (bv:cy K "_law_new" "_law_new" gX f42 Xl)
  (bw:nsIn K eh "_law_far"=some (some (.ref f43))) (bx:cy K "_law_far" "_law_far" lN f43 Xm)
  (bz:nsIn K eh "law"=some (some (.ref WD))) (bA:K.lookup WD=some ⟨WK,WG,.func (fnOf "law" "law" (cV eS) (cE eS) (ao eS) .none Rp Rq Rr Ro L8 Rt),WH⟩) (bB:codeIn K L8 "law"=true) (bC:keepIn K (.ref WD)=true)
  {Xn:Addr} {Xo:Option Addr} {Xp:Array (Option Value)} {eX:Nat} {Xq Xr Xt Xu Xv Xw Xx:Tok} (bD:nsIn K eh "WRITING"=some (some (.ref Xn)))
  (bE:K.lookup Xn=some ⟨.type "tuple",Xo,.seq #[.str "set" Xq,.str "more" Xr,.str "copy" Xt,.str "add" Xu,.str "less" Xv,.str "load" Xw,.str "take" Xx] eX,Xp⟩)
  {Xy:Addr} {Xz:Option Addr} {XA:Array (Option Value)} {eY:Nat} {XB XC XD:Tok} (bF:nsIn K eh "ENDS"=some (some (.ref Xy)))
  (bG:K.lookup Xy=some ⟨.type "tuple",Xz,.seq #[.str "stop" XB,.str "back" XC,.str "halt" XD] eY,XA⟩)
  {XF:Addr} {XG:Option Addr} {XH:Array (Option Value)} {eZ:Nat} {XI XJ XM XO:Tok} (bH:nsIn K eh "NOT_GOING_ON"=some (some (.ref XF)))
  (bI:K.lookup XF=some ⟨.type "tuple",XG,.seq #[.str "stop" XI,.str "back" XJ,.str "halt" XM,.str "jump" XO] eZ,XH⟩)
  (bJ:nsIn K eh "set"=some none)
  (bK:nsIn K eh "sorted"=some none)
  (bL:nsIn K eh "list"=some none)
  (bM:nsIn K eh "int"=some none)
  (bN:nsIn K eh "bool"=some none)
  (bO:nsIn K eh "tuple"=some none)
  (bP:nsIn K eh "isinstance"=some none)
  (bQ:nsIn K eh "min"=some none)
  (bR:nsIn K eh "range"=some none)
  (bS:nsIn K eh "len"=some none)
  (bT:nsIn K eh "all"=some none)
  (bU:nsIn K eh "enumerate"=some none)
  (bV:nsIn K eh "max"=some none)
  (bW:nsIn K eh "dict"=some none)
  (bY:nsIn K eh "zip"=some none)
  (bZ:nsIn K eh "abs"=some none)
  (ca:nsIn K eh "str"=some none)
  {pB:Addr} {qp:Array DictEntry} {nB:Nat} (aB:nsIn K eh "READ_AT"=some (some (.ref pB))) (lB:K.lookup pB=some ⟨.type "dict",none,.dict qp nB,#[]⟩) (kB:KeysLit w.params qp.toList) (oB:(pB==sysModules)=false)
  {XQ:Addr} {XR:Option Addr} {XS:Array (Option Value)} {fb:Nat} {Ru:Tok} (cb:nsIn K pB "more"=some (some (.ref XQ))) (cc:K.lookup XQ=some ⟨.type "tuple",XR,.seq #[.int (1) Ru] fb,XS⟩)
  {XT:Addr} {XU:Option Addr} {XW:Array (Option Value)} {fc:Nat} {Rv:Tok} (cd:nsIn K pB "copy"=some (some (.ref XT))) (ce:K.lookup XT=some ⟨.type "tuple",XU,.seq #[.int (2) Rv] fc,XW⟩)
  {XY:Addr} {XZ:Option Addr} {X0:Array (Option Value)} {fe:Nat} {Rw Rx:Tok} (cf:nsIn K pB "add"=some (some (.ref XY))) (cg:K.lookup XY=some ⟨.type "tuple",XZ,.seq #[.int (1) Rw,.int (2) Rx] fe,X0⟩)
  {X1:Addr} {X2:Option Addr} {X3:Array (Option Value)} {ff:Nat} {Ry Rz:Tok} (ch:nsIn K pB "less"=some (some (.ref X1))) (ci:K.lookup X1=some ⟨.type "tuple",X2,.seq #[.int (1) Ry,.int (2) Rz] ff,X3⟩)
  {X4:Addr} {X5:Option Addr} {X6:Array (Option Value)} {fg:Nat} {RA:Tok} (cj:nsIn K pB "load"=some (some (.ref X4))) (ck:K.lookup X4=some ⟨.type "tuple",X5,.seq #[.int (2) RA] fg,X6⟩)
  {X7:Addr} {X8:Option Addr} {X9:Array (Option Value)} {fh:Nat} {RB RD:Tok} (cl:nsIn K pB "keep"=some (some (.ref X7))) (cm:K.lookup X7=some ⟨.type "tuple",X8,.seq #[.int (1) RB,.int (2) RD] fh,X9⟩)
  {Ya:Addr} {Yb:Option Addr} {Yc:Array (Option Value)} {fi:Nat} {RE:Tok} (cn:nsIn K pB "tell"=some (some (.ref Ya))) (co:K.lookup Ya=some ⟨.type "tuple",Yb,.seq #[.int (1) RE] fi,Yc⟩)
  {Yd:Addr} {Ye:Option Addr} {Yf:Array (Option Value)} {fj:Nat} {RF:Tok} (cp:nsIn K pB "see"=some (some (.ref Yd))) (cq:K.lookup Yd=some ⟨.type "tuple",Ye,.seq #[.int (1) RF] fj,Yf⟩)
  {Yg:Addr} {Yh:Option Addr} {Yi:Array (Option Value)} {fk:Nat} {RG:Tok} (cr:nsIn K pB "put"=some (some (.ref Yg))) (cs:K.lookup Yg=some ⟨.type "tuple",Yh,.seq #[.int (1) RG] fk,Yi⟩)
  {Yj:Addr} {Yk:Option Addr} {Yl:Array (Option Value)} {fl:Nat} {RH:Tok} (ct:nsIn K pB "zero"=some (some (.ref Yj))) (cu:K.lookup Yj=some ⟨.type "tuple",Yk,.seq #[.int (1) RH] fl,Yl⟩)
  {Ma:Addr} {RI:Option Addr} {RJ:Array (Option Value)} {Ym:Nat} {Mb:Tok} (cv:nsIn K pB "below"=some (some (.ref Ma))) (cw:K.lookup Ma=some ⟨.type "tuple",RI,.seq #[.int (1) Mb] Ym,RJ⟩)
  {Md:Addr} {RK:Option Addr} {RL:Array (Option Value)} {Yn:Nat} {Mf:Tok} (cx:nsIn K pB "table"=some (some (.ref Md))) (cz:K.lookup Md=some ⟨.type "tuple",RK,.seq #[.int (1) Mf] Yn,RL⟩)
  (x0:nsIn K pB "stop"=some none)
  (x1:nsIn K pB "back"=some none)
  (x2:nsIn K pB "halt"=some none)
  (x3:nsIn K pB "set"=some none)
  (x4:nsIn K pB "take"=some none)
  (x5:nsIn K pB "jump"=some none)
  (x6:nsIn K pB "call"=some none)
  (x7:nsIn K pB "mark"=some none)
  {pD:Addr} {fm:Array DictEntry} {nD:Nat} (aD:nsIn K eh "BOUNDS"=some (some (.ref pD))) (lD:K.lookup pD=some ⟨.type "dict",none,.dict fm nD,#[]⟩) (kD:KeysLit w.params fm.toList) (oD:(pD==sysModules)=false)
  {Yo:Addr} {Yp:Option Addr} {Yq:Array (Option Value)} {fn:Nat} {RM RN:Tok} (cB:nsIn K pD "box"=some (some (.ref Yo))) (cC:K.lookup Yo=some ⟨.type "tuple",Yp,.seq #[.int (0) RM,.int (7) RN] fn,Yq⟩)
  {Yr:Addr} {Ys:Option Addr} {Yt:Array (Option Value)} {fo:Nat} {Yu Yv Yw Yx Yy Yz YB YC:Tok} (cD:nsIn K eh "ALL_BOXES"=some (some (.ref Yr))) (cG:K.lookup Yr=some ⟨.type "tuple",Ys,.seq #[.int 0 Yu,.int 1 Yv,.int 2 Yw,.int 3 Yx,.int 4 Yy,.int 5 Yz,.int 6 YB,.int 7 YC] fo,Yt⟩)
  {cF:Addr} {bX:Array DictEntry} {cN:Nat} (cH:nsIn K eh "PARTS"=some (some (.ref cF))) (cI:K.lookup cF=some ⟨.type "dict",none,.dict bX cN,#[]⟩) (cJ:KeysLit w.params bX.toList) (cK:(cF==sysModules)=false)
  {uj:Addr} {EJ:Array (Option Value)} {HQ:Nat} (cL:nsIn K cF "stop"=some (some (.ref uj))) (cM:K.lookup uj=some ⟨.type "tuple",none,.seq #[] HQ,EJ⟩)
  {uk:Addr} {EK:Array (Option Value)} {HR:Nat} (cO:nsIn K cF "back"=some (some (.ref uk))) (cP:K.lookup uk=some ⟨.type "tuple",none,.seq #[] HR,EK⟩)
  {um:Addr} {EL:Array (Option Value)} {HS:Nat} {Bt:Tok} (cQ:nsIn K cF "halt"=some (some (.ref um))) (cR:K.lookup um=some ⟨.type "tuple",none,.seq #[.str "number" Bt] HS,EL⟩)
  {uo:Addr} {ER:Array (Option Value)} {HU:Nat} {Bu Bv:Tok} (cS:nsIn K cF "set"=some (some (.ref uo))) (cT:K.lookup uo=some ⟨.type "tuple",none,.seq #[.str "box" Bu,.str "value" Bv] HU,ER⟩)
  {uq:Addr} {EV:Array (Option Value)} {HV:Nat} {Bw Bx:Tok} (cU:nsIn K cF "more"=some (some (.ref uq))) (cW:K.lookup uq=some ⟨.type "tuple",none,.seq #[.str "box" Bw,.str "value" Bx] HV,EV⟩)
  {ur:Addr} {EW:Array (Option Value)} {HW:Nat} {By Bz:Tok} (cX:nsIn K cF "copy"=some (some (.ref ur))) (cY:K.lookup ur=some ⟨.type "tuple",none,.seq #[.str "box" By,.str "box" Bz] HW,EW⟩)
  {uv:Addr} {EX:Array (Option Value)} {HX:Nat} {BD BE:Tok} (cZ:nsIn K cF "add"=some (some (.ref uv))) (da:K.lookup uv=some ⟨.type "tuple",none,.seq #[.str "box" BD,.str "box" BE] HX,EX⟩)
  {uw:Addr} {EY:Array (Option Value)} {HY:Nat} {BF BG:Tok} (db:nsIn K cF "less"=some (some (.ref uw))) (dc:K.lookup uw=some ⟨.type "tuple",none,.seq #[.str "box" BF,.str "box" BG] HY,EY⟩)
  {uz:Addr} {EZ:Array (Option Value)} {HZ:Nat} {BH BI:Tok} (dd:nsIn K cF "load"=some (some (.ref uz))) (de:K.lookup uz=some ⟨.type "tuple",none,.seq #[.str "box" BH,.str "box" BI] HZ,EZ⟩)
  {uD:Addr} {E1:Array (Option Value)} {Ia:Nat} {BJ BK:Tok} (df:nsIn K cF "keep"=some (some (.ref uD))) (dg:K.lookup uD=some ⟨.type "tuple",none,.seq #[.str "box" BJ,.str "box" BK] Ia,E1⟩)
  {qq:Addr} {BL:Array (Option Value)} {E2:Nat} {yi:Tok} (dh:nsIn K cF "tell"=some (some (.ref qq))) (di:K.lookup qq=some ⟨.type "tuple",none,.seq #[.str "box" yi] E2,BL⟩)
  {qr:Addr} {BM:Array (Option Value)} {E3:Nat} {yj yk:Tok} (dj:nsIn K cF "see"=some (some (.ref qr))) (dk:K.lookup qr=some ⟨.type "tuple",none,.seq #[.str "box" yj,.str "number" yk] E3,BM⟩)
  {qt:Addr} {BO:Array (Option Value)} {E4:Nat} {yl ym:Tok} (dl:nsIn K cF "put"=some (some (.ref qt))) (dm:K.lookup qt=some ⟨.type "tuple",none,.seq #[.str "box" yl,.str "aside" ym] E4,BO⟩)
  {qu:Addr} {BP:Array (Option Value)} {E5:Nat} {yn yo:Tok} (dn:nsIn K cF "take"=some (some (.ref qu))) (dp:K.lookup qu=some ⟨.type "tuple",none,.seq #[.str "box" yn,.str "aside" yo] E5,BP⟩)
  {qv:Addr} {BQ:Array (Option Value)} {E6:Nat} {yp yr:Tok} (dq:nsIn K cF "jump"=some (some (.ref qv))) (dr:K.lookup qv=some ⟨.type "tuple",none,.seq #[.str "target" yp,.str "far" yr] E6,BQ⟩)
  {qw:Addr} {BR:Array (Option Value)} {E7:Nat} {yt yu yv:Tok} (ds:nsIn K cF "zero"=some (some (.ref qw))) (dt:K.lookup qw=some ⟨.type "tuple",none,.seq #[.str "box" yt,.str "target" yu,.str "far" yv] E7,BR⟩)
  {qx:Addr} {BU:Array (Option Value)} {E8:Nat} {yw yx yz:Tok} (dv:nsIn K cF "below"=some (some (.ref qx))) (dx:K.lookup qx=some ⟨.type "tuple",none,.seq #[.str "box" yw,.str "target" yx,.str "far" yz] E8,BU⟩)
  {qy:Addr} {BV:Array (Option Value)} {E9:Nat} {yA yB:Tok} (dy:nsIn K cF "call"=some (some (.ref qy))) (dz:K.lookup qy=some ⟨.type "tuple",none,.seq #[.str "target" yA,.str "far" yB] E9,BV⟩)
  {qz:Addr} {BW:Array (Option Value)} {Fb:Nat} {yC yD:Tok} (dA:nsIn K cF "mark"=some (some (.ref qz))) (dB:K.lookup qz=some ⟨.type "tuple",none,.seq #[.str "target" yC,.str "far" yD] Fb,BW⟩)
  {qA:Addr} {BX:Array (Option Value)} {Fc:Nat} {yE yF:Tok} (dC:nsIn K cF "table"=some (some (.ref qA))) (dF:K.lookup qA=some ⟨.type "tuple",none,.seq #[.str "box" yE,.str "targets" yF] Fc,BX⟩)
  {kX:Tok} (dG:nsIn K eh "MOST_WALKED"=some (some (.int (2000) kX)))
  {iI:Addr} {rA:Option Addr} {rB:Array (Option Value)} {uE:Nat} {rC rD rE:Tok} (dH:nsIn K eh "NEEDED_KEYS"=some (some (.ref iI))) (dI:K.lookup iI=some ⟨.type "tuple",rA,.seq #[.str "leads" rC,.str "forms" rD,.str "free" rE] uE,rB⟩)
  {fU:Addr} {nI:Option Addr} {nJ:Array (Option Value)} {qB:Nat} {nK nL nM nO:Tok} (dJ:nsIn K eh "STAYING_PARTS"=some (some (.ref fU))) (dK:K.lookup fU=some ⟨.type "tuple",nI,.seq #[.str "box" nK,.str "aside" nL,.str "number" nM,.str "value" nO] qB,nJ⟩)
  {fV:Addr} {nP:Option Addr} {nQ:Array (Option Value)} {qC:Nat} {nR nU nW nX nY nZ og oh oi om lU lV:Tok} (dL:nsIn K eh "MAY_BE_PUT_IN"=some (some (.ref fV))) (dM:K.lookup fV=some ⟨.type "tuple",nP,.seq #[.str "set" nR,.str "more" nU,.str "copy" nW,.str "add" nX,.str "less" nY,.str "put" nZ,.str "take" og,.str "see" oh,.str "jump" oi,.str "zero" om,.str "below" lU,.str "halt" lV] qC,nQ⟩)
  {lW:Addr} {yG:Option Addr} {yH:Array (Option Value)} {BZ:Nat} {yI yJ yK yL:Tok} (dN:nsIn K eh "SPOILING"=some (some (.ref lW))) (dO:K.lookup lW=some ⟨.type "tuple",yG,.seq #[.str "set" yI,.str "more" yJ,.str "add" yK,.str "less" yL] BZ,yH⟩)
  {jc:Addr} (dP:nsIn K eh "NoPaper"=some (some (.ref jc)))
  (yq:excIn K jc OX "ValueError.__new__"=true)
  {du:Addr} (dQ:nsIn K eh "Branch"=some (some (.ref du)))
  {Ib:Addr} {Mg Mh:Option Addr} {Mi:Array (Option Value)} {Mj Ml Mp Mq Fd Mr:Value} (dR:findIn K (.ref du) "__init__"=some (some (.ref Ib))) (dT:isFn K (.ref Ib)=true) (dU:K.lookup Ib=some ⟨Mj,Mg,.func (fnOf "__init__" "Branch.__init__" (cV Nz) (cE Nz) (ao Nz) .none Ml Mp Mq Mh Fd Mr),Mi⟩) (dV:codeIn K Fd "Branch.__init__"=true) (dW:keepIn K (.ref Ib)=true)
  {Ic:Addr} {Ms Mt:Option Addr} {Mu:Array (Option Value)} {Mv Mw Mx Mz Fe MA:Value} (dX:findIn K (.ref du) "forked"=some (some (.ref Ic))) (dY:isFn K (.ref Ic)=true) (dZ:K.lookup Ic=some ⟨Mv,Ms,.func (fnOf "forked" "Branch.forked" (cV NA) (cE NA) (ao NA) .none Mw Mx Mz Mt Fe MA),Mu⟩) (ea:codeIn K Fe "Branch.forked"=true) (eb:keepIn K (.ref Ic)=true)
  {Ie:Addr} {MB MC:Option Addr} {MD:Array (Option Value)} {ME MG MH MI Ff MJ:Value} (ec:findIn K (.ref du) "pass_row"=some (some (.ref Ie))) (ed:isFn K (.ref Ie)=true) (ee:K.lookup Ie=some ⟨ME,MB,.func (fnOf "pass_row" "Branch.pass_row" (cV NB) (cE NB) (ao NB) .none MG MH MI MC Ff MJ),MD⟩) (ef:codeIn K Ff "Branch.pass_row"=true) (eg:keepIn K (.ref Ie)=true)
  (ei:plainGet K du Str.empty=true) (ej:hasDictIn K du=true) (ek:plainOver K du=true) (em:findIn K (.ref du) "__setattr__"=some (some (.builtin "object.__setattr__"))) (en:makesIn K du=true) (eo:keepIn K (.ref du)=true)
  (ep:findIn K (.ref du) "place"=some none)
  (eq:findIn K (.ref du) "held"=some none)
  (er:findIn K (.ref du) "held_aside"=some none)
  (es:findIn K (.ref du) "gone"=some none)
  {fZ:Addr} (et:nsIn K eh "Walk"=some (some (.ref fZ)))
  {Ig:Addr} {MK ML:Option Addr} {MN:Array (Option Value)} {MO MQ MS MT Fg MU:Value} (eu:findIn K (.ref fZ) "__init__"=some (some (.ref Ig))) (ev:isFn K (.ref Ig)=true) (ew:K.lookup Ig=some ⟨MO,MK,.func (fnOf "__init__" "Walk.__init__" (cV NC) (cE NC) (ao NC) .none MQ MS MT ML Fg MU),MN⟩) (ex:codeIn K Fg "Walk.__init__"=true) (ey:keepIn K (.ref Ig)=true)
  {Ih:Addr} {MV MW:Option Addr} {MX:Array (Option Value)} {MY MZ M0 M3 Fh M4:Value} (ez:findIn K (.ref fZ) "walk_row"=some (some (.ref Ih))) (eA:isFn K (.ref Ih)=true) (eB:K.lookup Ih=some ⟨MY,MV,.func (fnOf "walk_row" "Walk.walk_row" (cV ND) (cE ND) (ao ND) .none MZ M0 M3 MW Fh M4),MX⟩) (eC:codeIn K Fh "Walk.walk_row"=true) (eD:keepIn K (.ref Ih)=true)
  {Ii:Addr} {M5 M6:Option Addr} {M7:Array (Option Value)} {M8 M9 Nc Nf Fi Ng:Value} (eE:findIn K (.ref fZ) "follow"=some (some (.ref Ii))) (eF:isFn K (.ref Ii)=true) (eH:K.lookup Ii=some ⟨M8,M5,.func (fnOf "follow" "Walk.follow" (cV IY) (cE IY) (ao IY) .none M9 Nc Nf M6 Fi Ng),M7⟩) (eI:codeIn K Fi "Walk.follow"=true) (eJ:keepIn K (.ref Ii)=true)
  (eL:plainGet K fZ Str.empty=true) (eM:hasDictIn K fZ=true) (eN:plainOver K fZ=true) (eO:findIn K (.ref fZ) "__setattr__"=some (some (.builtin "object.__setattr__"))) (eP:makesIn K fZ=true) (eT:keepIn K (.ref fZ)=true)
  (eU:findIn K (.ref fZ) "walked"=some none)
  (eV:findIn K (.ref fZ) "looped"=some none)
  (eW:findIn K (.ref fZ) "ends"=some none)
  : ∃fd:el,(∀(s:Shared) (v:Value),BindsTo s fd ⟨[v],[]⟩ [("_law_script",v)])/\∀base:Heap,K.In base->base.Ns eh mg->aN l.prog w K mg base bu 9 fa fd ["_law_script"] (Af (K:=K)):=by
 have e:=hfa.symm.trans (mg_of X G bz);cases e;have b0:=yh (a :="row") F0 fun _ _ _ _ _ _ _=>rfl;have m0:=mg_of X G a0;have b1:=yh (a :="row") F1 fun _ _ _ _ _ _ _=>rfl;have m1:=mg_of X G a1;have b2:=qH (a :="row") (b :="targets") F2 fun _ _ _ _ _ _ _ _=>rfl;have m2:=mg_of X G a2;have b3:=qH (a :="rows") (b :="r") F3 fun _ _ _ _ _ _ _ _=>rfl;have m3:=mg_of X G a3;have b4:=yh (a :="thing") F4 fun _ _ _ _ _ _ _=>rfl;have m4:=mg_of X G a4;have b5:=qH (a :="kind") (b :="thing") F5 fun _ _ _ _ _ _ _ _=>rfl;have m5:=mg_of X G a5;have b6:=yh (a :="word") F6 fun _ _ _ _ _ _ _=>rfl;have m6:=mg_of X G a6;have b7:=yh (a :="row") F7 fun _ _ _ _ _ _ _=>rfl;have m7:=mg_of X G a7;have b8:=qH (a :="row") (b :="far") F8 fun _ _ _ _ _ _ _ _=>rfl;have m8:=mg_of X G a8;have b9:=qH (a :="row") (b :="kinds") F9 fun _ _ _ _ _ _ _ _=>rfl;have m9:=mg_of X G a9;have b10:=yh (a :="rows") ab fun _ _ _ _ _ _ _=>rfl;have m10:=mg_of X G aa;have b11:=yh (a :="leads") ad fun _ _ _ _ _ _ _=>rfl;have m11:=mg_of X G ac;have b12:=qH (a :="new") (b :="n") af fun _ _ _ _ _ _ _ _=>rfl;have m12:=mg_of X G ae;have b13:=HP (a :="new") (b :="leads") (c :="start") ah fun _ _ _ _ _ _ _ _ _=>rfl;have m13:=mg_of X G ag;have b14:=HP (a :="new") (b :="leads") (c :="target") aj fun _ _ _ _ _ _ _ _ _=>rfl;have m14:=mg_of X G ai;have b15:=qH (a :="new") (b :="paper") al fun _ _ _ _ _ _ _ _=>rfl;have m15:=mg_of X G ak;have b16:=yh (a :="row") an fun _ _ _ _ _ _ _=>rfl;have m16:=mg_of X G am;have b17:=yh (a :="row") aq fun _ _ _ _ _ _ _=>rfl;have m17:=mg_of X G ap;have b18:=qH (a :="row") (b :="box") au fun _ _ _ _ _ _ _ _=>rfl;have m18:=mg_of X G ar;have b19:=qH (a :="rows") (b :="r") aw fun _ _ _ _ _ _ _ _=>rfl;have m19:=mg_of X G av;have b20:=yh (a :="thing") ay fun _ _ _ _ _ _ _=>rfl;have m20:=mg_of X G ax;have b21:=WB (a :="rows") (b :="claims") (c :="r") (d :="box") aA fun _ _ _ _ _ _ _ _ _ _=>rfl;have m21:=mg_of X G az;have b22:=qH (a :="rows") (b :="claims") aE fun _ _ _ _ _ _ _ _=>rfl;have m22:=mg_of X G aC;have b23:=HP (a :="new") (b :="leads") (c :="start") aG fun _ _ _ _ _ _ _ _ _=>rfl;have m23:=mg_of X G aF;have b24:=HP (a :="leads") (b :="how_many_old") (c :="how_many_new") aI fun _ _ _ _ _ _ _ _ _=>rfl;have m24:=mg_of X G aH;have b25:=qH (a :="row") (b :="old_row") aK fun _ _ _ _ _ _ _ _=>rfl;have m25:=mg_of X G aJ;have b26:=qH (a :="forms") (b :="old") aM fun _ _ _ _ _ _ _ _=>rfl;have m26:=mg_of X G aL;have b27:=qH (a :="old") (b :="claims") aP fun _ _ _ _ _ _ _ _=>rfl;have m27:=mg_of X G aO;have b28:=qH (a :="row") (b :="named") aR fun _ _ _ _ _ _ _ _=>rfl;have m28:=mg_of X G aQ;have b29:=HP (a :="old") (b :="new") (c :="paper") aT fun _ _ _ _ _ _ _ _ _=>rfl;have m29:=mg_of X G aS;have b30:=HP (a :="old") (b :="new") (c :="leads") aV fun _ _ _ _ _ _ _ _ _=>rfl;have m30:=mg_of X G aU;have b31:=HP (a :="walk") (b :="right") (c :="claims") aY fun _ _ _ _ _ _ _ _ _=>rfl;have m31:=mg_of X G aX;have b32:=HP (a :="old") (b :="new") (c :="paper") ba fun _ _ _ _ _ _ _ _ _=>rfl;have m32:=mg_of X G aZ
 have b33:=qH (a :="_law_script") (b :="_law_k") bc fun _ _ _ _ _ _ _ _=>rfl;have m33:=mg_of X G bb;have Tq:=qH (a :="_law_state") (b :="_law_base") be fun _ _ _ _ _ _ _ _=>rfl;have Tr:=mg_of X G bd;have b35:=qH (a :="_law_cell") (b :="_law_many") bg fun _ _ _ _ _ _ _ _=>rfl;have m35:=mg_of X G bf;have b36:=yh (a :="_law_script") bi fun _ _ _ _ _ _ _=>rfl;have m36:=mg_of X G bh;have b37:=qH (a :="_law_state") (b :="_law_start") bk fun _ _ _ _ _ _ _ _=>rfl;have m37:=mg_of X G bj;have b38:=HP (a :="_law_row_here") (b :="_law_targets_here") (c :="_law_far_here") bm fun _ _ _ _ _ _ _ _ _=>rfl;have m38:=mg_of X G bl;have b39:=yh (a :="_law_row_here") bo fun _ _ _ _ _ _ _=>rfl;have m39:=mg_of X G bn;have b40:=WB (a :="_law_new_here") (b :="_law_leads") (c :="_law_state") (d :="_law_old") bq fun _ _ _ _ _ _ _ _ _ _=>rfl;have m40:=mg_of X G bp;have b41:=qH (a :="_law_target") (b :="_law_stands") bs fun _ _ _ _ _ _ _ _=>rfl;have m41:=mg_of X G br;have b42:=qH (a :="_law_old") (b :="_law_cell") bv fun _ _ _ _ _ _ _ _=>rfl;have m42:=mg_of X G bt;have b43:=yh (a :="_law_row_here") bx fun _ _ _ _ _ _ _=>rfl;have m43:=mg_of X G bw;have F44:=aW (st:=eS) bA bB bC
 have T:Txt K w.params mg:=⟨⟨pB,mg_of X G aB,⟨qp,nB,lB⟩,cA ⟨XQ,⟨qp,nB,lB,kB,oB,_,cb,rfl⟩,fun H=>.inr ⟨_,_,_,cc,rfl,rfl,lK,.cons ⟨_,rfl⟩ (.nil)⟩⟩
   (cA ⟨XT,⟨qp,nB,lB,kB,oB,_,cd,rfl⟩,fun H=>.inr ⟨_,_,_,ce,rfl,rfl,lK,.cons ⟨_,rfl⟩ (.nil)⟩⟩
   (cA ⟨XY,⟨qp,nB,lB,kB,oB,_,cf,rfl⟩,fun H=>.inr ⟨_,_,_,cg,rfl,rfl,iw,.cons ⟨_,rfl⟩ (.cons ⟨_,rfl⟩ (.nil))⟩⟩
   (cA ⟨X1,⟨qp,nB,lB,kB,oB,_,ch,rfl⟩,fun H=>.inr ⟨_,_,_,ci,rfl,rfl,iw,.cons ⟨_,rfl⟩ (.cons ⟨_,rfl⟩ (.nil))⟩⟩
   (cA ⟨X4,⟨qp,nB,lB,kB,oB,_,cj,rfl⟩,fun H=>.inr ⟨_,_,_,ck,rfl,rfl,lK,.cons ⟨_,rfl⟩ (.nil)⟩⟩
   (cA ⟨X7,⟨qp,nB,lB,kB,oB,_,cl,rfl⟩,fun H=>.inr ⟨_,_,_,cm,rfl,rfl,iw,.cons ⟨_,rfl⟩ (.cons ⟨_,rfl⟩ (.nil))⟩⟩
   (cA ⟨Ya,⟨qp,nB,lB,kB,oB,_,cn,rfl⟩,fun H=>.inr ⟨_,_,_,co,rfl,rfl,lK,.cons ⟨_,rfl⟩ (.nil)⟩⟩
   (cA ⟨Yd,⟨qp,nB,lB,kB,oB,_,cp,rfl⟩,fun H=>.inr ⟨_,_,_,cq,rfl,rfl,lK,.cons ⟨_,rfl⟩ (.nil)⟩⟩
   (cA ⟨Yg,⟨qp,nB,lB,kB,oB,_,cr,rfl⟩,fun H=>.inr ⟨_,_,_,cs,rfl,rfl,lK,.cons ⟨_,rfl⟩ (.nil)⟩⟩
   (cA ⟨Yj,⟨qp,nB,lB,kB,oB,_,ct,rfl⟩,fun H=>.inr ⟨_,_,_,cu,rfl,rfl,lK,.cons ⟨_,rfl⟩ (.nil)⟩⟩
   (cA ⟨Ma,⟨qp,nB,lB,kB,oB,_,cv,rfl⟩,fun H=>.inr ⟨_,_,_,cw,rfl,rfl,lK,.cons ⟨_,rfl⟩ (.nil)⟩⟩
   (cA ⟨Md,⟨qp,nB,lB,kB,oB,_,cx,rfl⟩,fun H=>.inr ⟨_,_,_,cz,rfl,rfl,lK,.cons ⟨_,rfl⟩ (.nil)⟩⟩
   (EI)))))))))))),
    cA ⟨qp,nB,lB,kB,oB,none,x0,trivial⟩
   (cA ⟨qp,nB,lB,kB,oB,none,x1,trivial⟩
   (cA ⟨qp,nB,lB,kB,oB,none,x2,trivial⟩
   (cA ⟨qp,nB,lB,kB,oB,none,x3,trivial⟩
   (cA ⟨qp,nB,lB,kB,oB,none,x4,trivial⟩
   (cA ⟨qp,nB,lB,kB,oB,none,x5,trivial⟩
   (cA ⟨qp,nB,lB,kB,oB,none,x6,trivial⟩
   (cA ⟨qp,nB,lB,kB,oB,none,x7,trivial⟩
   (EI))))))))⟩,
  ⟨Xn,mg_of X G bD,fun H=>.inr ⟨_,_,_,bE,rfl,rfl,UE,.cons ⟨_,rfl⟩ (.cons ⟨_,rfl⟩ (.cons ⟨_,rfl⟩ (.cons ⟨_,rfl⟩ (.cons ⟨_,rfl⟩ (.cons ⟨_,rfl⟩ (.cons ⟨_,rfl⟩ (.nil)))))))⟩⟩,⟨Xy,mg_of X G bF,fun H=>.inr ⟨_,_,_,bG,rfl,rfl,xv,.cons ⟨_,rfl⟩ (.cons ⟨_,rfl⟩ (.cons ⟨_,rfl⟩ (.nil)))⟩⟩,⟨XF,mg_of X G bH,fun H=>.inr ⟨_,_,_,bI,rfl,rfl,Kq,.cons ⟨_,rfl⟩ (.cons ⟨_,rfl⟩ (.cons ⟨_,rfl⟩ (.cons ⟨_,rfl⟩ (.nil))))⟩⟩,⟨Yr,mg_of X G cD,fun H=>.inr ⟨_,_,_,cG,rfl,rfl,UG,.cons ⟨_,rfl⟩ (.cons ⟨_,rfl⟩ (.cons ⟨_,rfl⟩ (.cons ⟨_,rfl⟩ (.cons ⟨_,rfl⟩ (.cons ⟨_,rfl⟩ (.cons ⟨_,rfl⟩ (.cons ⟨_,rfl⟩ (.nil))))))))⟩⟩,
  ⟨pD,mg_of X G aD,Yo,⟨fm,nD,lD,kD,oD,_,cB,rfl⟩,fun H=>.inr ⟨_,_,_,cC,rfl,rfl,iw,.cons ⟨_,rfl⟩ (.cons ⟨_,rfl⟩ (.nil))⟩⟩,mg_none_of X G bJ,mg_none_of X G bK,mg_none_of X G bL,mg_none_of X G bM,mg_none_of X G bN,mg_none_of X G bO,mg_none_of X G bP,mg_none_of X G bQ,mg_none_of X G bR,mg_none_of X G bS,mg_none_of X G bT,mg_none_of X G bU,mg_none_of X G bV,
  ⟨cF,mg_of X G cH,⟨bX,cN,cI,cJ,cK⟩,⟨uj,⟨bX,cN,cI,cJ,cK,_,cL,rfl⟩,fun H=>.inr ⟨_,_,_,cM,rfl,rfl,Ko,.nil⟩⟩,
   ⟨uk,⟨bX,cN,cI,cJ,cK,_,cO,rfl⟩,fun H=>.inr ⟨_,_,_,cP,rfl,rfl,Ko,.nil⟩⟩,
   ⟨um,⟨bX,cN,cI,cJ,cK,_,cQ,rfl⟩,fun H=>.inr ⟨_,_,_,cR,rfl,rfl,lK,.cons ⟨_,rfl⟩ (.nil)⟩⟩,
   ⟨uo,⟨bX,cN,cI,cJ,cK,_,cS,rfl⟩,fun H=>.inr ⟨_,_,_,cT,rfl,rfl,iw,.cons ⟨_,rfl⟩ (.cons ⟨_,rfl⟩ (.nil))⟩⟩,
   ⟨uq,⟨bX,cN,cI,cJ,cK,_,cU,rfl⟩,fun H=>.inr ⟨_,_,_,cW,rfl,rfl,iw,.cons ⟨_,rfl⟩ (.cons ⟨_,rfl⟩ (.nil))⟩⟩,
   ⟨ur,⟨bX,cN,cI,cJ,cK,_,cX,rfl⟩,fun H=>.inr ⟨_,_,_,cY,rfl,rfl,iw,.cons ⟨_,rfl⟩ (.cons ⟨_,rfl⟩ (.nil))⟩⟩,
   ⟨uv,⟨bX,cN,cI,cJ,cK,_,cZ,rfl⟩,fun H=>.inr ⟨_,_,_,da,rfl,rfl,iw,.cons ⟨_,rfl⟩ (.cons ⟨_,rfl⟩ (.nil))⟩⟩,
   ⟨uw,⟨bX,cN,cI,cJ,cK,_,db,rfl⟩,fun H=>.inr ⟨_,_,_,dc,rfl,rfl,iw,.cons ⟨_,rfl⟩ (.cons ⟨_,rfl⟩ (.nil))⟩⟩,
   ⟨uz,⟨bX,cN,cI,cJ,cK,_,dd,rfl⟩,fun H=>.inr ⟨_,_,_,de,rfl,rfl,iw,.cons ⟨_,rfl⟩ (.cons ⟨_,rfl⟩ (.nil))⟩⟩,
   ⟨uD,⟨bX,cN,cI,cJ,cK,_,df,rfl⟩,fun H=>.inr ⟨_,_,_,dg,rfl,rfl,iw,.cons ⟨_,rfl⟩ (.cons ⟨_,rfl⟩ (.nil))⟩⟩,
   ⟨qq,⟨bX,cN,cI,cJ,cK,_,dh,rfl⟩,fun H=>.inr ⟨_,_,_,di,rfl,rfl,lK,.cons ⟨_,rfl⟩ (.nil)⟩⟩,
   ⟨qr,⟨bX,cN,cI,cJ,cK,_,dj,rfl⟩,fun H=>.inr ⟨_,_,_,dk,rfl,rfl,iw,.cons ⟨_,rfl⟩ (.cons ⟨_,rfl⟩ (.nil))⟩⟩,
   ⟨qt,⟨bX,cN,cI,cJ,cK,_,dl,rfl⟩,fun H=>.inr ⟨_,_,_,dm,rfl,rfl,iw,.cons ⟨_,rfl⟩ (.cons ⟨_,rfl⟩ (.nil))⟩⟩,
   ⟨qu,⟨bX,cN,cI,cJ,cK,_,dn,rfl⟩,fun H=>.inr ⟨_,_,_,dp,rfl,rfl,iw,.cons ⟨_,rfl⟩ (.cons ⟨_,rfl⟩ (.nil))⟩⟩,
   ⟨qv,⟨bX,cN,cI,cJ,cK,_,dq,rfl⟩,fun H=>.inr ⟨_,_,_,dr,rfl,rfl,iw,.cons ⟨_,rfl⟩ (.cons ⟨_,rfl⟩ (.nil))⟩⟩,
   ⟨qw,⟨bX,cN,cI,cJ,cK,_,ds,rfl⟩,fun H=>.inr ⟨_,_,_,dt,rfl,rfl,xv,.cons ⟨_,rfl⟩ (.cons ⟨_,rfl⟩ (.cons ⟨_,rfl⟩ (.nil)))⟩⟩,
   ⟨qx,⟨bX,cN,cI,cJ,cK,_,dv,rfl⟩,fun H=>.inr ⟨_,_,_,dx,rfl,rfl,xv,.cons ⟨_,rfl⟩ (.cons ⟨_,rfl⟩ (.cons ⟨_,rfl⟩ (.nil)))⟩⟩,
   ⟨qy,⟨bX,cN,cI,cJ,cK,_,dy,rfl⟩,fun H=>.inr ⟨_,_,_,dz,rfl,rfl,iw,.cons ⟨_,rfl⟩ (.cons ⟨_,rfl⟩ (.nil))⟩⟩,
   ⟨qz,⟨bX,cN,cI,cJ,cK,_,dA,rfl⟩,fun H=>.inr ⟨_,_,_,dB,rfl,rfl,iw,.cons ⟨_,rfl⟩ (.cons ⟨_,rfl⟩ (.nil))⟩⟩,
   ⟨qA,⟨bX,cN,cI,cJ,cK,_,dC,rfl⟩,fun H=>.inr ⟨_,_,_,dF,rfl,rfl,iw,.cons ⟨_,rfl⟩ (.cons ⟨_,rfl⟩ (.nil))⟩⟩⟩,
  ⟨kX,mg_of X G dG⟩,
  ⟨iI,mg_of X G dH,fun H=>.inr ⟨_,_,_,dI,rfl,rfl,xv,.cons ⟨_,rfl⟩ (.cons ⟨_,rfl⟩ (.cons ⟨_,rfl⟩ (.nil)))⟩⟩,
  ⟨fU,mg_of X G dJ,fun H=>.inr ⟨_,_,_,dK,rfl,rfl,Kq,.cons ⟨_,rfl⟩ (.cons ⟨_,rfl⟩ (.cons ⟨_,rfl⟩ (.cons ⟨_,rfl⟩ (.nil))))⟩⟩,
  ⟨fV,mg_of X G dL,fun H=>.inr ⟨_,_,_,dM,rfl,rfl,O8,.cons ⟨_,rfl⟩ (.cons ⟨_,rfl⟩ (.cons ⟨_,rfl⟩ (.cons ⟨_,rfl⟩ (.cons ⟨_,rfl⟩ (.cons ⟨_,rfl⟩ (.cons ⟨_,rfl⟩ (.cons ⟨_,rfl⟩ (.cons ⟨_,rfl⟩ (.cons ⟨_,rfl⟩ (.cons ⟨_,rfl⟩ (.cons ⟨_,rfl⟩ (.nil))))))))))))⟩⟩,
  ⟨lW,mg_of X G dN,fun H=>.inr ⟨_,_,_,dO,rfl,rfl,Kq,.cons ⟨_,rfl⟩ (.cons ⟨_,rfl⟩ (.cons ⟨_,rfl⟩ (.cons ⟨_,rfl⟩ (.nil))))⟩⟩,
  mg_none_of X G bW,
  mg_none_of X G bY,
  mg_none_of X G bZ,
  mg_none_of X G ca⟩
 refine⟨fnOf "law" "law" (cV eS) (cE eS) (ao eS) .none Rp Rq Rr Ro L8 Rt,fun s v=>.of_eq rfl,fun base _ _=>?_⟩;have Ju:=aW (st:=Nz) dU dV dW;have Jv:=bd5 (a :="self") (b :="place") (c :="held") (d :="held_aside") (e :="gone") Ju fun _ _ _ _ _ _ _ _ _ _ _=>rfl;have Jw:=aW (st:=NA) dZ ea eb;have RO:=qH (a :="self") (b :="place") Jw fun _ _ _ _ _ _ _ _=>rfl;have Jx:=aW (st:=NB) ee ef eg;have RP:=qH (a :="self") (b :="row") Jx fun _ _ _ _ _ _ _ _=>rfl;have kY:BT K du:=⟨⟨ei,ej,ek,em⟩,ep,eq,er,es⟩;have Jy:=aW (st:=NC) ew ex ey;have RQ:=yh (a :="self") Jy fun _ _ _ _ _ _ _=>rfl;have Jz:=aW (st:=ND) eB eC eD;have RS:=yh (a :="self") Jz fun _ _ _ _ _ _ _=>rfl;have JA:=aW (st:=IY) eH eI eJ;have RT:=WB (a :="self") (b :="new") (c :="leads") (d :="branch") JA fun _ _ _ _ _ _ _ _ _ _=>rfl;have vU:WT K fZ:=⟨⟨eL,eM,eN,eO⟩,eU,eV,eW⟩;have uF:=A8 (P:=l.prog) (w:=w) (base:=base) aq T;have vV:=DA (P:=l.prog) (w:=w) (base:=base) an T;have jV:=GY (P:=l.prog) (w:=w) (base:=base) F0 T;have dw:=xK (P:=l.prog) (w:=w) (base:=base) F1 T;have yM:=GZ (P:=l.prog) (w:=w) (base:=base) F3 T jV F0.kp b0 m0 dw F1.kp b1 m1;have jd:=DC (P:=l.prog) (w:=w) (base:=base) F4 T;have oo:=Kr (P:=l.prog) (w:=w) (base:=base) F5 T jd F4.kp b4 m4;have vW:=DE (P:=l.prog) (w:=w) (base:=base) ay T oo F5.kp b5 m5;have lX:=DH (P:=l.prog) (w:=w) (base:=base) au T vV an.kp b16 m16;have rF:=DI (P:=l.prog) (w:=w) (base:=base) aw T dw F1.kp b1 m1 yM F3.kp b3 m3;have vX:=DJ (P:=l.prog) (w:=w) (base:=base) aA T lX au.kp b18 m18 uF aq.kp b17 m17 rF aw.kp b19 m19;have rG:=He (P:=l.prog) (w:=w) (base:=base) aE T vW ay.kp b20 m20 vX aA.kp b21 m21;have qD:=xP (P:=l.prog) (w:=w) (base:=base) F6 T;have B1:=Bi (P:=l.prog) (w:=w) (base:=base) F7 T qD F6.kp b6 m6;have mU:=vE (P:=l.prog) (w:=w) (base:=base) F9 T;have oq:=nE (P:=l.prog) (w:=w) (base:=base) ab T mU F9.kp b9 m9;have kZ:=tN (P:=l.prog) (w:=w) (base:=base) ad T;have k7:=tO (P:=l.prog) (w:=w) (base:=base) af T dw F1.kp b1 m1 jV F0.kp b0 m0;have lY:=lO (P:=l.prog) (w:=w) (base:=base) aR T;have lZ:=lP (P:=l.prog) (w:=w) (base:=base) aK T dw F1.kp b1 m1 mU F9.kp b9 m9;have uG:=tQ (P:=l.prog) (w:=w) (base:=base) aM T jd F4.kp b4 m4 B1 F7.kp b7 m7;have uH:=tR (P:=l.prog) (w:=w) (base:=base) aI T jd F4.kp b4 m4;have vY:=vF (P:=l.prog) (w:=w) (base:=base) aP T rG aE.kp b22 m22;have qE:=p8 (P:=l.prog) (w:=w) (base:=base) aT T uH aI.kp b24 m24 uG aM.kp b26 m26 oq ab.kp b10 m10 lY aR.kp b28 m28 lZ aK.kp b25 m25 vY aP.kp b27 m27;have Fj:=PN (P:=l.prog) (w:=w) (base:=base) Ju T kY;have Nh:=PU (P:=l.prog) (w:=w) (base:=base) Jw T kY ⟨en,dR,dT,eo⟩ Fj Jv (mg_of X G dQ);have Ni:=PY (P:=l.prog) (w:=w) (base:=base) Jy T vU;have Nj:=P0 (P:=l.prog) (w:=w) (base:=base) Jz T vU;have Nk:=P2 (P:=l.prog) (w:=w) (base:=base) Jx T kY;have Nm:=P6 (P:=l.prog) (w:=w) (base:=base) JA T k7 af.kp b12 m12 vU kY ⟨ez,eA,eD⟩ Nj RS ⟨ec,ed,eg⟩ Nk RP ⟨dX,dY,eb⟩ Nh RO;have uI:=tW (P:=l.prog) (w:=w) (base:=base) aG T vU kY ⟨eP,eu,ev,eT⟩ Ni RQ (mg_of X G et) ⟨en,dR,dT,eo⟩ Fj Jv (mg_of X G dQ) ⟨eE,eF,eJ⟩ Nm RT
 have ot:=nF (P:=l.prog) (w:=w) (base:=base) aV T kZ ad.kp b11 m11 jV F0.kp b0 m0 dw F1.kp b1 m1;have rH:=rg (P:=l.prog) (w:=w) (base:=base) aY T vU;have qF:=qb (P:=l.prog) (w:=w) (base:=base) ba T qE aT.kp b29 m29 ot aV.kp b30 m30 uI aG.kp b23 m23 rH aY.kp b31 m31 ⟨yq⟩ (mg_of X G dP);have ou:=Hw (P:=l.prog) (w:=w) (base:=base) bc T;have eK:=Eb (P:=l.prog) (w:=w) (base:=base) be T;have vZ:=xV (P:=l.prog) (w:=w) (base:=base) bg T eK be.kp Tq Tr;have wa:=xW (P:=l.prog) (w:=w) (base:=base) bx T;have rJ:=tZ (P:=l.prog) (w:=w) (base:=base) bs T;have iN:=qf (P:=l.prog) (w:=w) (base:=base) bo T;have je:=rh (P:=l.prog) (w:=w) (base:=base) bm T;have jf:=rj (P:=l.prog) (w:=w) (base:=base) bk T eK be.kp Tq Tr;have ow:=qg (P:=l.prog) (w:=w) (base:=base) bi T vZ bg.kp b35 m35;have wc:=vK (P:=l.prog) (w:=w) (base:=base) ah T k7 af.kp b12 m12;have rK:=rm (P:=l.prog) (w:=w) (base:=base) aj T wc ah.kp b13 m13;have ox:=nG (P:=l.prog) (w:=w) (base:=base) F2 T;have wg:=vL (P:=l.prog) (w:=w) (base:=base) F8 T qD F6.kp b6 m6;have uJ:=ua (P:=l.prog) (w:=w) (base:=base) al T kZ ad.kp b11 m11 rK aj.kp b14 m14 dw F1.kp b1 m1 wg F8.kp b8 m8 ox F2.kp b2 m2;have wj:=xZ (P:=l.prog) (w:=w) (base:=base) bq T iN bo.kp b39 m39 eK be.kp Tq Tr jf bk.kp b37 m37 je bm.kp b38 m38;have wm:=yc (P:=l.prog) (w:=w) (base:=base) bv T iN bo.kp b39 m39 eK be.kp Tq Tr jf bk.kp b37 m37 je bm.kp b38 m38 wj bq.kp b40 m40 rJ bs.kp b41 m41;exact L7 F44 T ow bi.kp b36 m36 wm bv.kp b42 m42 ou bc.kp b33 m33 wa bx.kp b43 m43 uJ al.kp b15 m15 qF ba.kp b32 m32
theorem walk{l:OpenLaw}{q:Program}{loose:List Str}{XP:(Str->Option Value)->Heap->Prop}{YP:World->Heap->Prop}{d:DefRec}{K:Params->Frag}(hn:l.most=some 63)(hdf:d.params.defaults=[])
  (hY:∀(w:World) (h:Heap),YP w h->(K w.params).In h)
  (F:∀(w:World) (mg:Str->Option Value) (fa:Addr) (h:Heap),(K w.params).In h->h.Ns eh mg->mg d.name=some (.ref fa)->
   ∃fd:el,(∀(s:Shared) (u:Value),BindsTo s fd ⟨[u],[]⟩ [("_law_script",u)])/\∀base:Heap,(K w.params).In base->base.Ns eh mg->aN l.prog w (K w.params) mg base bu 9 fa fd ["_law_script"] (Af (K:=K w.params))):
  WalkO q loose XP YP l.row.toRowW d [] (fun f vs=>PySem.call f vs):=
 L2.y8 (n:=63) (k:=9) (x :="_law_script") (CX:=fun _=>bu) (sp:=fun w=>Af (K:=K w.params)) hn (by decide) hdf ⟨rfl,by decide,by decide⟩ hY F (fun _ _ a ns hl _ hS=>⟨a,ns,rfl,hS,hl,fun _=>rfl⟩) fun _ _ _ _ _ z=>z
end My
open PySem PySem.W PyProof.Rows
set_option maxRecDepth 100000 in
set_option maxHeartbeats 0 in
theorem PySem.Challenge.cw_widenrows_k71_taken_out_by_a_paper_holds : PySem.Challenge.rw_widenrows_k71_taken_out_by_a_paper.Holds := by
 w_on; o_law; k_head; (case hw=>w_witness2)
 k_fill
 refine My.walk (l:=PySem.Challenge.rw_widenrows_k71_taken_out_by_a_paper) rfl rfl (fun w h Y=>kIn_of Y) ?F
 case F =>
  intro w mg fa h KX G hmg
  refine' My.all_mk KX G hmg ?a0 ?F0 ?a1 ?F1 ?a2 ?F2 ?a3 ?F3 ?a4 ?F4 ?a5 ?F5 ?a6 ?F6 ?a7 ?F7 ?a8 ?F8 ?a9 ?F9 ?aa ?ab ?ac ?ad ?ae ?af ?ag ?ah ?ai ?aj ?ak ?al ?am ?an ?ap ?aq ?ar ?au ?av ?aw ?ax ?ay ?az ?aA ?aC ?aE ?aF ?aG ?aH ?aI ?aJ ?aK ?aL ?aM ?aO ?aP ?aQ ?aR ?aS ?aT ?aU ?aV ?aX ?aY ?aZ ?ba ?bb ?bc ?bd ?be ?bf ?bg ?bh ?bi ?bj ?bk ?bl ?bm ?bn ?bo ?bp ?bq ?br ?bs ?bt ?bv ?bw ?bx ?bz ?bA ?bB ?bC ?bD ?bE ?bF ?bG ?bH ?bI ?bJ ?bK ?bL ?bM ?bN ?bO ?bP ?bQ ?bR ?bS ?bT ?bU ?bV ?bW ?bY ?bZ ?ca ?aB ?lB ?kB ?oB ?cb ?cc ?cd ?ce ?cf ?cg ?ch ?ci ?cj ?ck ?cl ?cm ?cn ?co ?cp ?cq ?cr ?cs ?ct ?cu ?cv ?cw ?cx ?cz ?x0 ?x1 ?x2 ?x3 ?x4 ?x5 ?x6 ?x7 ?aD ?lD ?kD ?oD ?cB ?cC ?cD ?cG ?cH ?cI ?cJ ?cK ?cL ?cM ?cO ?cP ?cQ ?cR ?cS ?cT ?cU ?cW ?cX ?cY ?cZ ?da ?db ?dc ?dd ?de ?df ?dg ?dh ?di ?dj ?dk ?dl ?dm ?dn ?dp ?dq ?dr ?ds ?dt ?dv ?dx ?dy ?dz ?dA ?dB ?dC ?dF ?dG ?dH ?dI ?dJ ?dK ?dL ?dM ?dN ?dO ?dP ?yq ?dQ ?dR ?dT ?dU ?dV ?dW ?dX ?dY ?dZ ?ea ?eb ?ec ?ed ?ee ?ef ?eg ?ei ?ej ?ek ?em ?en ?eo ?ep ?eq ?er ?es ?et ?eu ?ev ?ew ?ex ?ey ?ez ?eA ?eB ?eC ?eD ?eE ?eF ?eH ?eI ?eJ ?eL ?eM ?eN ?eO ?eP ?eT ?eU ?eV ?eW
  case a0=>k_is
  case F0=>exact L2.aW (by k_is) (by k_is) (by k_is)
  case a1=>k_is
  case F1=>exact L2.aW (by k_is) (by k_is) (by k_is)
  case a2=>k_is
  case F2=>exact L2.aW (by k_is) (by k_is) (by k_is)
  case a3=>k_is
  case F3=>exact L2.aW (by k_is) (by k_is) (by k_is)
  case a4=>k_is
  case F4=>exact L2.aW (by k_is) (by k_is) (by k_is)
  case a5=>k_is
  case F5=>exact L2.aW (by k_is) (by k_is) (by k_is)
  case a6=>k_is
  case F6=>exact L2.aW (by k_is) (by k_is) (by k_is)
  case a7=>k_is
  case F7=>exact L2.aW (by k_is) (by k_is) (by k_is)
  case a8=>k_is
  case F8=>exact L2.aW (by k_is) (by k_is) (by k_is)
  case a9=>k_is
  case F9=>exact L2.aW (by k_is) (by k_is) (by k_is)
  case aa=>k_is
  case ab=>exact L2.aW (by k_is) (by k_is) (by k_is)
  case ac=>k_is
  case ad=>exact L2.aW (by k_is) (by k_is) (by k_is)
  case ae=>k_is
  case af=>exact L2.aW (by k_is) (by k_is) (by k_is)
  case ag=>k_is
  case ah=>exact L2.aW (by k_is) (by k_is) (by k_is)
  case ai=>k_is
  case aj=>exact L2.aW (by k_is) (by k_is) (by k_is)
  case ak=>k_is
  case al=>exact L2.aW (by k_is) (by k_is) (by k_is)
  case am=>k_is
  case an=>exact L2.aW (by k_is) (by k_is) (by k_is)
  case ap=>k_is
  case aq=>exact L2.aW (by k_is) (by k_is) (by k_is)
  case ar=>k_is
  case au=>exact L2.aW (by k_is) (by k_is) (by k_is)
  case av=>k_is
  case aw=>exact L2.aW (by k_is) (by k_is) (by k_is)
  case ax=>k_is
  case ay=>exact L2.aW (by k_is) (by k_is) (by k_is)
  case az=>k_is
  case aA=>exact L2.aW (by k_is) (by k_is) (by k_is)
  case aC=>k_is
  case aE=>exact L2.aW (by k_is) (by k_is) (by k_is)
  case aF=>k_is
  case aG=>exact L2.aW (by k_is) (by k_is) (by k_is)
  case aH=>k_is
  case aI=>exact L2.aW (by k_is) (by k_is) (by k_is)
  case aJ=>k_is
  case aK=>exact L2.aW (by k_is) (by k_is) (by k_is)
  case aL=>k_is
  case aM=>exact L2.aW (by k_is) (by k_is) (by k_is)
  case aO=>k_is
  case aP=>exact L2.aW (by k_is) (by k_is) (by k_is)
  case aQ=>k_is
  case aR=>exact L2.aW (by k_is) (by k_is) (by k_is)
  case aS=>k_is
  case aT=>exact L2.aW (by k_is) (by k_is) (by k_is)
  case aU=>k_is
  case aV=>exact L2.aW (by k_is) (by k_is) (by k_is)
  case aX=>k_is
  case aY=>exact L2.aW (by k_is) (by k_is) (by k_is)
  case aZ=>k_is
  case ba=>exact L2.aW (by k_is) (by k_is) (by k_is)
  case bb=>k_is
  case bc=>exact L2.aW (by k_is) (by k_is) (by k_is)
  case bd=>k_is
  case be=>exact L2.aW (by k_is) (by k_is) (by k_is)
  case bf=>k_is
  case bg=>exact L2.aW (by k_is) (by k_is) (by k_is)
  case bh=>k_is
  case bi=>exact L2.aW (by k_is) (by k_is) (by k_is)
  case bj=>k_is
  case bk=>exact L2.aW (by k_is) (by k_is) (by k_is)
  case bl=>k_is
  case bm=>exact L2.aW (by k_is) (by k_is) (by k_is)
  case bn=>k_is
  case bo=>exact L2.aW (by k_is) (by k_is) (by k_is)
  case bp=>k_is
  case bq=>exact L2.aW (by k_is) (by k_is) (by k_is)
  case br=>k_is
  case bs=>exact L2.aW (by k_is) (by k_is) (by k_is)
  case bt=>k_is
  case bv=>exact L2.aW (by k_is) (by k_is) (by k_is)
  case bw=>k_is
  case bx=>exact L2.aW (by k_is) (by k_is) (by k_is)
  case bz|bA|bB|bC|bD|bE|bF|bG|bH|bI|bJ|bK|bL|bM|bN|bO|bP|bQ|bR|bS|bT|bU|bV|bW|bY|bZ|ca|aB|lB=>k_is
  case kB=>k_keys
  case oB=>first | exact rfl | decide | k_is
  case cb|cc|cd|ce|cf|cg|ch|ci|cj|ck|cl|cm|cn|co|cp|cq|cr|cs|ct|cu|cv|cw|cx|cz|x0|x1|x2|x3|x4|x5|x6|x7|aD|lD=>k_is
  case kD=>k_keys
  case oD=>first | exact rfl | decide | k_is
  case cB|cC|cD|cG|cH|cI=>k_is
  case cJ=>k_keys
  case cK=>first | exact rfl | decide | k_is
  case cL|cM|cO|cP|cQ|cR|cS|cT|cU|cW|cX|cY|cZ|da|db|dc|dd|de|df|dg|dh|di|dj|dk|dl|dm|dn|dp|dq|dr|ds|dt|dv|dx|dy|dz|dA|dB|dC|dF|dG|dH|dI|dJ|dK|dL|dM|dN|dO|dP=>k_is
  case yq=>k_exc
  case dQ|dR|dT|dU|dV|dW|dX|dY|dZ|ea|eb|ec|ed|ee|ef|eg|ei|ej|ek|em|en|eo|ep|eq|er|es|et|eu|ev|ew|ex|ey|ez|eA|eB|eC|eD|eE|eF|eH|eI|eJ|eL|eM|eN|eO|eP|eT|eU|eV|eW=>k_is
#print axioms PySem.Challenge.cw_widenrows_k71_taken_out_by_a_paper_holds