import PyProof.Rows.All
import Wide.All
import OpenK.AllK
import Wide.FinOn
import Lean
import PyProof.EqAt
import PyProof.EqKinds
import PyProof.TupleCall
import PyProof.Rows.EnumRows
import PyProof.EnumMake
import KE.KIntText
import KE.KEqDict
import PyProof.DictValues
import PyProof.TupleOfGen
import PyProof.CollectIter
import KE.KRevIter
import PyProof.Rows.SumAny
import PyProof.MinMaxWalk
import PyProof.WalkInts
import PyProof.StrCalls6
import PyProof.StrLawsReplace
import PyProof.ConsumeS
import PySem.Challenge.RW_rowblade_k42_given_in_time
set_option Elab.async false
set_option linter.all false
set_option maxRecDepth 100000
set_option compiler.extract_closed false
noncomputable section
abbrev Ap:=List (List Nat)
abbrev B1:=List Nat
abbrev B2:=List PySem.Value
abbrev Bi:=List PySem.Str
abbrev Bz:=List PySem.Expr
abbrev BM:=List PySem.Addr
abbrev D1:=Option PySem.Value
abbrev D2:=Option Int
abbrev Dx:=List Int
abbrev Ee:=List PySem.Stmt
abbrev Fh:=List Bool
namespace Z0
end Z0
open PySem.W renaming Frag→bz,findIn→gn,kia_one→lP,keepIn→oj,nsIn→om,emptyDict→qm,instObj→r_,kitOne→sd,fnOf→se,plainGet→A7,isFn→A8,makesIn→A9,lookIn→wU,hasDictIn→wV,codeIn→wW,methodObj→A_,plainGet_of→Ba,plainOver→Bb,takerIn→Bc,specialIn→Bd,takesIn→Be,mroIn→Bf,callWith_K→Bg,callWith_K0→Bh,handedIn→Iu,kitx_list→Iv,kitx_dict→Iw,methodCall_KW→Iz,cellsFrom_some→IA,codeRec_of→IB,callWith_of→IC,Dflts→ID
open List renaming length_map→bK,length_append→b9,length_cons→cU,replicate→dM,mem_cons_of_mem→dX,mem_cons_self→ee,getElem?_eq_some_iff→bD,range→bM,size_toArray→ck,mem_cons→cA,append_nil→cJ,getElem?_eq_getElem→cX,map_map→du,getElem?_set_ne→dB,map_cons→dO,map_append→d_,getElem?_set_self→eu,mem_map→ez,getElem?_append_right→eT,length_set→e_,all_cons→fh,prefix_rfl→fj,getElem?_map→fJ,append_assoc→fK,getElem?_append_left→gp,getD_eq_getElem?_getD→gq,range'→gu,all_eq_true→g_,mem_range→ig,length_drop→iR,mem_of_getElem?→i8,length_replicate→i9,lookup_cons→i_,replicate_succ→ju,flatten_cons→jv,nil_append→jw,flatten→jx,length_nil→jy,mem_singleton→kc,mem_append→k7,lookup→k8,nodup_cons→lQ,length_take→lT,zip_cons_cons→lU,mem_append_right→oq,foldl_cons→ou,not_mem_nil→ow,map_congr_left→oz,any_cons→qo,length_range→qp,map_replicate→qq,map_take→qr,drop_eq_getElem_cons→qt,length_range'→qu,set→sf,length→vh,getElem?_replicate→vj,cons_append→vm,length_singleton→zG,find?_cons→zH,map_drop→zJ,forIn_cons→Bj,map→Bk,drop_zero→Bl,take_of_length_le→Bm,length_zip→sj,take_succ_cons→sy,mem_filter→wX,map_nil→wY,getElem?_range→wZ,range_succ_eq_map→w_,any_map→xf,ext_getElem?→xg,prefix_append→xh,flatten_append→xj,mem_range'→xl,drop_of_length_le→xm,filterMap_cons→Bo,mem_filterMap→Bp,of_mem_zip→Bq,foldl→Br,length_flatten→Bs,length_eq_zero_iff→Bt,any_eq_true→Bu,drop_length→Bv,reverse_cons→Bw,length_reverse→Bx,getElem?_eq_none→By,contains_iff_mem→BA,isEmpty_iff→BB,Pairwise→BC,range'_succ→BD,drop_left→BE,take→BG,mem_append_left→IE,eraseIdxIfInBounds_toArray→IF,all_map→IG,take_append_drop→II,sum_replicate_nat→IK,idxOf?→IL,findIdx?_eq_some_iff_getElem→IM,zip_nil_right→IP,nodup_append→IQ,dropLast_eq_take→IS,foldl_map→IU,getElem_mem→IV,foldl_append→IW,flatMap_cons→IX,flatMap_append→IY,take_eq_take_iff→IZ,mem_of_mem_take→I0,set_append_right→I_,drop_drop→Ja,take_left'→Jb,range'_append_1→Jc,take_take→Jd,take_nil→Je,eq_of_mem_replicate→Jf,replicate_zero→Jg
open Nat renaming le_refl→c_,ne_of_lt→eF,le_trans→gx,lt_of_lt_of_le→ik,zero_le→jz,sub_self→lV,lt_irrefl→oB,succ→qv,min_eq_left→qw,lt_succ_self→sC,le_add_right→vn,ne_of_gt→BH,le_of_eq→BI,le_succ→BL,add_sub_cancel_left→xn,le_of_lt→BN,mul_le_mul→BO,zero_add→BP,succ_mul→Jh,mul_comm→Ji,lt_succ_of_lt→Jj,succ_ne_zero→Jk,not_lt_zero→Jl,sub_zero→Jm,not_succ_le_zero→Jo,min_eq_right→Jp,zero_sub→Jq
open Bool renaming and_eq_true→dq,false_ne_true→dP,false_eq_true→sD,or_eq_true→xo,and_eq_true_iff→xq,eq_iff_iff→xr,true_and→xu,false_and→BQ,and_false→BR,and_true→BS,not_true→BU,eq_false_or_eq_true→Jr,not_eq_true'→Js,not_false→Jt
open Option renaming bind_eq_some_iff→dH,map_eq_some_iff→dg,some→kg,isSome_map→BV,isSome_iff_exists→Ju,getD_none→Jv,none→Jw,map_some→Jx
open Int renaming ofNat→k9,toNat_natCast→zK,zero_add→xw,add_zero→xx,le_refl→BW,emod_nonneg→BX,emod_lt_of_pos→BY
open PyProof.Rows renaming callWith_type1→zL,boot_list→BZ,recsOf→Jy,drecsOf→Jz,boot_enumerate→JA,evalArgs_kw2→JB,boot_str→JC,boot_int→JD,boot_isinstance→JE,envOfC→JF,boot_max→JG
namespace Z1
end Z1
abbrev dJ:=List (PySem.Addr×PySem.Obj)
abbrev cu(x:PySem.Str):Prop:=(x == ("__debug__":PySem.Str))=false
abbrev jA(x:PySem.Str):Prop:=(x == ("__classdict__":PySem.Str))=false
namespace L2
open PySem PySem.Spec PyProof.Rows
abbrev Key:=Sum Int Str
def pj:Key->Value->Bool
 |.inl k,v=>Value.isInt k v
 |.inr x,v=>Value.isStrOf x v
def U1(w:World):Key->Int
 |.inl k=>hashInt k
 |.inr x=>hashStr w x
def bP:∀{k:Key}{v:Value},pj k v=true->(∃i t,k=Sum.inl i/\v=Value.int i t)\/(∃x t,k=Sum.inr x/\v=Value.str x t)
 |.inl i,v,h=>by
  obtain⟨t,e⟩:=Value.isInt_shape (k:=i) (v:=v) h;exact .inl ⟨i,t,rfl,e⟩
 |.inr x,v,h=>by
  obtain⟨t,e⟩:=Value.isStrOf_shape (x:=x) (v:=v) h;exact .inr ⟨x,t,rfl,e⟩
def zM(i:Int)(t:Tok):pj (.inl i) (.int i t)=true:=by simp[pj,Value.isInt]
def zN(x:Str)(t:Tok):pj (.inr x) (.str x t)=true:=by simp[pj,Value.isStrOf]
def KR(a b:Int):decide ((Sum.inl a:Key)=Sum.inl b)=(a == b):=by
 by_cases e:a=b
 ·subst e;simp
 ·have h:¬ (Sum.inl a:Key)=Sum.inl b:=λq=>e (Sum.inl.inj q)
  rw[decide_eq_false h];exact(beq_eq_false_iff_ne.mpr e).symm
def KS(a b:Str):decide ((Sum.inr a:Key)=Sum.inr b)=decide (a=b):=by
 by_cases e:a=b
 ·subst e;simp
 ·have h:¬ (Sum.inr a:Key)=Sum.inr b:=λq=>e (Sum.inr.inj q)
  rw[decide_eq_false h,decide_eq_false e]
def KU(a:Int)(b:Str):decide ((Sum.inl a:Key)=Sum.inr b)=false:=decide_eq_false (λq=>nomatch q)
def KW(a:Str)(b:Int):decide ((Sum.inr a:Key)=Sum.inl b)=false:=decide_eq_false (λq=>nomatch q)
def bQ(prog:Program)(w:World):PySem.KeyKind prog w Key where
 is:=pj
 hash:=U1 w
 inj:=λv a b ha hb=>by
  rcases bP ha with⟨i,t,rfl,rfl⟩|⟨x,t,rfl,rfl⟩
  ·rcases bP hb with⟨j,u,rfl,e⟩|⟨y,u,rfl,e⟩
   ·injection e with e1 _;rw[e1]
   ·exact nomatch e
  ·rcases bP hb with⟨j,u,rfl,e⟩|⟨y,u,rfl,e⟩
   ·exact nomatch e
   ·injection e with e1 _;rw[e1]
 byValue:=λk v h=>by
  rcases bP h with⟨i,t,rfl,rfl⟩|⟨x,t,rfl,rfl⟩<;>rfl
 pyHash:=λhv h=>by
  rcases bP hv with⟨i,t,rfl,rfl⟩|⟨x,t,rfl,rfl⟩
  ·exact wpAny_pyHash_int h
  ·exact wpAny_pyHash_str h
 eqBool:=λhu hv h=>by
  rcases bP hu with⟨i,t,rfl,rfl⟩|⟨x,t,rfl,rfl⟩
  ·rcases bP hv with⟨j,u,rfl,rfl⟩|⟨y,u,rfl,rfl⟩
   ·rw[KR]at h;exact wpAny_eqBool_int h
   ·rw[KU]at h;exact SeqAt.EqAt.int_str i t y u _ _ _ _ h
  ·rcases bP hv with⟨j,u,rfl,rfl⟩|⟨y,u,rfl,rfl⟩
   ·rw[KW]at h;exact SeqAt.EqAt.str_int x t j u _ _ _ _ h
   ·rw[KS]at h;exact wpAny_eqBool_str h
 «strs»:=λk x t v h=>by
  rcases bP h with⟨i,u,rfl,e⟩|⟨y,u,rfl,e⟩
  ·exact nomatch e
  ·injection e with e1 _
   subst e1;cases v<;>rfl
def sE(prog:Program)(w:World)(i:Int)(t:Tok):(bQ prog w).is (.inl i) (.int i t)=true:=zM i t
def sF(prog:Program)(w:World)(x:Str)(t:Tok):(bQ prog w).is (.inr x) (.str x t)=true:=zN x t
inductive V where
 |non|bl (b:Bool)|int (i:Int)|str (x:Str)|byt (b:Array UInt8)|flt (b:UInt64)|ref (a:Addr)|ty (n:String)
 deriving DecidableEq
def RelV:V->Value->Prop
 |.non,u=>u=Value.none
 |.bl b,u=>u=Value.bool b
 |.int i,u=>∃t,u=Value.int i t
 |.str x,u=>∃t,u=Value.str x t
 |.byt b,u=>∃t,u=Value.bytes b t
 |.flt b,u=>∃t,u=Value.float b t
 |.ref a,u=>u=Value.ref a
 |.ty n,u=>u=Value.type n
abbrev Vals:List V->B2->Prop:=Paired RelV
theorem Vals.length{xs:List V}{us:B2}(r:Vals xs us):xs.length=us.length:=Paired.length r
theorem Vals.get:∀{xs:List V}{us:B2}{i:Nat}{x:V},Vals xs us->xs[i]?=some x->∃u,us[i]?=some u/\RelV x u
 |_,_,_,_,.nil,e=>by simp at e
 |_,_,0,_,.cons r _,e=>by simp at e;subst e;exact⟨_,rfl,r⟩
 |_,_,i+1,x,.cons _ t,e=>by
  obtain⟨u,h1,h2⟩:=Vals.get (i:=i) (x:=x) t (by simpa using e)
  exact⟨u,by simpa using h1,h2⟩
theorem Vals.set{x:V}{u:Value}(r:RelV x u):∀{xs:List V}{us:B2}(i:Nat),Vals xs us->Vals (xs.set i x) (us.set i u)
 |_,_,_,.nil=>.nil
 |_,_,0,.cons _ t=>.cons r t
 |_,_,i+1,.cons q t=>.cons q (Vals.set r i t)
theorem Vals.append:∀{xs ys:List V}{us ws:B2},Vals xs us->Vals ys ws->Vals (xs++ys) (us++ws)
 |_,_,_,_,.nil,s=>s
 |_,_,_,_,.cons r t,s=>.cons r (Vals.append t s)
theorem Vals.take:∀{xs:List V}{us:B2}(n:Nat),Vals xs us->Vals (xs.take n) (us.take n)
 |_,_,0,_=>.nil
 |_,_,_+1,.nil=>.nil
 |_,_,n+1,.cons r t=>.cons r (Vals.take n t)
theorem Vals.drop:∀{xs:List V}{us:B2}(n:Nat),Vals xs us->Vals (xs.drop n) (us.drop n)
 |_,_,0,r=>r
 |_,_,_+1,.nil=>.nil
 |_,_,n+1,.cons _ t=>Vals.drop n t
def iS:Option V->D1->Prop
 |some v,some u=>RelV v u
 |none,none=>True
 |_,_=>False
def KV{κ:Type}:List (κ×V)->List (κ×Value)->Prop:=Paired λ(p:κ×V) (q:κ×Value)=>p.1=q.1/\RelV p.2 q.2
def kV:Key->V
 |.inl i=>.int i
 |.inr x=>.str x
inductive HO where
 |lst (xs:List V)
 |tup (xs:List V)
 |dK (aS:List (Key×V))|dT (aS:List (List Key×V))
 |set (S:Int->Bool) (n:Nat)
 |ins (C dx:Addr) (fs:List (Str×V))
 |own (x:Addr)
 |xd (fs:List (Str×V))
 |met (f x:Addr)
 |lE (lo hi:Int)
 |iL (o:Obj) (u:HO)
 |tbl (ps:Array Value)
 |ext (φ:Heap->Prop)
abbrev Hp:=Addr->Option HO
def upd(H:Hp)(a:Addr)(o:HO):Hp:=λb=>if b=a then some o else H b
def aj{H:Hp}{a:Addr}{o:HO}:upd H a o a=some o:=by unfold upd;rw[if_pos rfl]
def aq{H:Hp}{a b:Addr}{o:HO}(h:b≠a):upd H a o b=H b:=by unfold upd;rw[if_neg h]
def xy{H:Hp}{a:Addr}{o u:HO}:upd (upd H a o) a u=upd H a u:=by
 funext b;unfold upd;split<;>rfl
def OY{H:Hp}{a b:Addr}{o u:HO}(h:H a=some o)(h':H b=some u)(d:o≠u):a≠b:=by
 intro e;subst e;rw[h]at h';exact d (kg.inj h')
def aK{H:Hp}{a b:Addr}{o:HO}(h:H a=some o)(h':H b=none):a≠b:=by
 intro e;subst e;rw[h]at h';cases h'
section
variable(P:Program)(w:World)
def cK(H:Hp)(h:Heap)(a:Addr):HO->Prop
 |.lst xs=>xs.length<=sizeLine/\∃(its:B2)(n:Nat),Vals xs its/\h.get? a=some {cls:=.type "list",data:=.seq its.toArray n}
 |.tup xs=>xs.length<=sizeLine/\∃its:B2,Vals xs its/\IsTup h a its.toArray
 |.dK aS=>aS.length<=sizeLine/\(a == sysModules)=false/\∃vs,KV aS vs/\h.DictOf (bQ P w) a vs
 |.dT aS=>aS.length<=sizeLine/\(a == sysModules)=false/\∃xs:List (List Key×Addr×Value),
   Paired (λ(p:List Key×V) (q:List Key×Addr×Value)=>p.1=q.1/\H q.2.1=some (.tup (p.1.map kV))/\RelV p.2 q.2.2) aS xs /\
   ∃o es ep,h.get? a=some o/\o.ExactDict/\o.data=.dict es ep/\es.toList=xs.map (entryOfKey (tupleKind (bQ P w)))/\(xs.map (·.1)).Nodup
 |.set S n=>h.SetOf (intKind P w) a S n
 |.ins C dx fs=>H dx=some (.own a)/\fs.length<=1000/\dx≠a/\h.get? a=some (r_ C dx) /\
   ∃mA,h.Ns1 dx mA/\(∀f,iS (fs.lookup f) (mA f))/\PySem.Within mA (fs.map (·.1))
 |.own _=>∃o,h.get? a=some o
 |.xd fs=>∃mA,h.Ns1 a mA/\∀f,iS (fs.lookup f) (mA f)
 |.lE lo hi=>∃t u v,h.get? a=some {cls:=.type "range",data:=.fields #[.int lo t,.int hi u,.int 1 v]}
 |.iL o u=>h.get? a=some o/\cK H h a u
 |.tbl ps=>h.get? a=some {cls:=.none,data:=.fields ps}
 |.met f x=>h.get? a=some (A_ (.ref f) (.ref x))
 |.ext φ=>φ h/\(∃o,h.get? a=some o)/\∀h1 h2:Heap,φ h1->(∀o,h1.get? a=some o->h2.get? a=some o)->φ h2
def jq(H:Hp)(h:Heap):Prop:=∀a o,H a=some o->cK P w H h a o
end
variable{C a dx f x:Addr}{A:Around}{b e o:Expr}{h h':Heap}{H H':Hp}{ae:dJ}{es:Bz}{p pos:Pos}{P:Program}{s:Shared}{E:Value->Shared->Prop}{w:World}
section
variable{o:HO}
theorem cK.lt(x:cK P w H h a o):a<h.objs.size:=by
 cases o with
 |lst xs=>obtain⟨_,_,_,_,e⟩:=x;exact Heap.lt_size e
 |tup xs=>obtain⟨_,_,_,p⟩:=x;exact p.lt
 |dK aS=>obtain⟨_,_,_,_,o,_,_,e,_⟩:=x;exact Heap.lt_size e
 |dT aS=>obtain⟨_,_,_,_,o,_,_,e,_⟩:=x;exact Heap.lt_size e
 |set S n=>obtain⟨o,_,_,_,e,_⟩:=x;exact Heap.lt_size e
 |ins C dx fs=>obtain⟨_,_,_,e,_⟩:=x;exact Heap.lt_size e
 |own y=>obtain⟨_,e⟩:=x;exact Heap.lt_size e
 |xd fs=>obtain⟨_,⟨_,_,_,e,_⟩,_⟩:=x;exact Heap.lt_size e
 |lE lo hi=>obtain⟨_,_,_,e⟩:=x;exact Heap.lt_size e
 |iL ob u=>obtain⟨e,_⟩:=x;exact Heap.lt_size e
 |tbl ps=>exact Heap.lt_size (show h.get? a=some _ from x)
 |met f y=>exact Heap.lt_size (show h.get? a=some _ from x)
 |ext φ=>obtain⟨_,⟨_,e⟩,_⟩:=x;exact Heap.lt_size e
theorem Paired.KY{α β:Type}{F G:α->β->Prop}:∀{l₁:List α}{l₂:List β},Paired F l₁ l₂->(∀a b,F a b->G a b)->Paired G l₁ l₂
 |_,_,.nil,_=>.nil
 |_,_,.cons r t,f=>.cons (f _ _ r) (Paired.KY t f)
def cK.vo(x:cK P w H h a o)(k:∀b u,(b=a\/H b=some (.own a))->h.get? b=some u->h'.get? b=some u)
  (ho:∀b,H b=some (.own a)->H' b=some (.own a)) (ht:∀b xs,H b=some (.tup xs)->H' b=some (.tup xs)):cK P w H' h' a o:=by
 induction o with
 |lst xs=>obtain⟨z,its,n,r,e⟩:=x;exact⟨z,its,n,r,k _ _ (.inl rfl) e⟩
 |tup xs=>obtain⟨z,its,r,ob,e,c⟩:=x;exact⟨z,its,r,ob,k _ _ (.inl rfl) e,c⟩
 |dK aS=>obtain⟨z,y,vs,r,ob,es,ep,e,c⟩:=x;exact⟨z,y,vs,r,ob,es,ep,k _ _ (.inl rfl) e,c⟩
 |dT aS=>
  obtain⟨z,y,xs,r,ob,es,ep,e,c⟩:=x;exact⟨z,y,xs,Paired.KY r λp q z=>⟨z.1,ht _ _ z.2.1,z.2.2⟩,ob,es,ep,k _ _ (.inl rfl) e,c⟩
 |set S n=>obtain⟨ob,es,ep,t,e,c⟩:=x;exact⟨ob,es,ep,t,k _ _ (.inl rfl) e,c⟩
 |ins C dx fs=>
  obtain⟨d,z,ne,e,mA,⟨od,es,ep,e2,c⟩,r⟩:=x;exact⟨ho _ d,z,ne,k _ _ (.inl rfl) e,mA,⟨od,es,ep,k _ _ (.inr d) e2,c⟩,r⟩
 |own y=>obtain⟨ob,e⟩:=x;exact⟨ob,k _ _ (.inl rfl) e⟩
 |xd fs=>obtain⟨mA,⟨od,es,ep,e,c⟩,r⟩:=x;exact⟨mA,⟨od,es,ep,k _ _ (.inl rfl) e,c⟩,r⟩
 |lE lo hi=>obtain⟨t,u,v,e⟩:=x;exact⟨t,u,v,k _ _ (.inl rfl) e⟩
 |iL ob u ih=>obtain⟨e,q⟩:=x;exact⟨k _ _ (.inl rfl) e,ih q⟩
 |tbl ps=>
  have e:h.get? a=some {cls:=.none,data:=.fields ps}:=x;show h'.get? a=some {cls:=.none,data:=.fields ps};exact k a _ (.inl rfl) e
 |met f y=>
  have e:h.get? a=some (A_ (.ref f) (.ref y)):=x;show h'.get? a=some (A_ (.ref f) (.ref y));exact k a _ (.inl rfl) e
 |ext φ=>obtain⟨p,⟨o,e⟩,st⟩:=x;exact⟨st _ _ p λo q=>k _ _ (.inl rfl) q,⟨o,k _ _ (.inl rfl) e⟩,st⟩
theorem jq.lt(x:jq P w H h)(e:H a=some o):a<h.objs.size:=(x a o e).lt
def jq.fresh(x:jq P w H h)(e:h.objs.size<=a):H a=none:=by
 cases q:H a with
 |none=>rfl
 |some u=>exact absurd (ik (x.lt q) e) (oB _)
def jq.kept(x:jq P w H h)(k:∀b u,h.get? b=some u->h'.get? b=some u):jq P w H h':=λa o e=>
 (x a o e).vo (λb u _ q=>k b u q) (λ_ q=>q) λ_ _ q=>q
def jq.laid(x:jq P w H h)(k:∀b u,h.get? b=some u->h'.get? b=some u)(hp:h.objs.size<=a)(new:cK P w (upd H a o) h' a o):jq P w (upd H a o) h':=λb u e=>by
 have hn:=x.fresh hp;by_cases hb:b=a
 ·subst hb;rw[aj]at e;cases e;exact new
 ·rw[aq hb]at e
  exact(x b u e).vo (λc v _ q=>k c v q) (λc q=>by rw[aq (aK q hn)];exact q) λc xs q=>by rw[aq (aK q hn)];exact q
end
def Rd(H:Hp)(a:Addr)(u:HO):Prop:=H a=some u\/∃o,H a=some (.iL o u)
def Rd.ok{P:Program}{w:World}{H:Hp}{h:Heap}{a:Addr}{u:HO}(r:Rd H a u)(x:jq P w H h):cK P w H h a u:=by
 rcases r with r|⟨o,r⟩
 ·exact x a u r
 ·obtain⟨_,q⟩:=x a _ r
  exact q
def OZ:Option HO->Prop
 |some (.lst _)=>True
 |some (.dK _)=>True
 |some (.dT _)=>True
 |some (.set _ _)=>True
 |some (.ins _ _ _)=>True
 |some (.ext _)=>True
 |_=>False
section
variable{e:Addr}{o':HO}
def jq.write(ok:jq P w H h)(mu:OZ (H x))(he:e=x\/H e=some (.own x))(k:∀b u,b≠e->h.get? b=some u->h'.get? b=some u)(OC:∃u,h'.get? e=some u)
  (new:cK P w (upd H x o') h' x o'):jq P w (upd H x o') h':=λb u q=>by
 have O0:∀c y,H c=some (.own y)->c≠x:=λc y r z=>by subst z;rw[r]at mu;exact mu
 have U3:∀c xs,H c=some (.tup xs)->c≠x:=λc xs r z=>by subst z;rw[r]at mu;exact mu
 by_cases hb:b=x
 ·subst hb;rw[aj]at q;cases q;exact new
 ·rw[aq hb]at q
  by_cases hbe:b=e
  ·have q':H b=some (.own x):=by
    rcases he with z|z
    ·exact absurd (hbe.trans z) hb
    ·rw[hbe];exact z
   rw[q]at q';cases q';obtain⟨v,hv⟩:=OC;exact⟨v,by rw[hbe];exact hv⟩
  ·refine(ok b u q).vo (λc v hc r=>k c v ?_ r) (λc r=>by rw[aq (O0 c b r)];exact r) λc xs r=>by rw[aq (U3 c xs r)];exact r
   rcases hc with rfl|hc
   ·exact hbe
   ·rintro rfl
    rcases he with z|z
    ·exact O0 c b hc z
    ·rw[hc]at z;cases z;exact hb rfl
end
structure Un(fs ex:BM)(H H':Hp)(h h':Heap):Prop where
 keep:∀b o,h.get? b=some o->H b=none->b∉fs->b∉ex->h'.get? b=some o
 slot:∀b o,h.get? b=some o->H b=none->b∈fs->b∉ex->∃sl,h'.get? b=some {o with slots:=sl}
 free:∀b o,h.get? b=some o->H b=none->b∉ex->H' b=none
 there:∀b o,h.get? b=some o->b∉ex->∃o',h'.get? b=some o'
 sG:∀b xs,H b=some (.tup xs)->H' b=some (.tup xs)
 qy:∀b o u,H b=some (.iL o u)->H' b=some (.iL o u)
 sH:∀b ps,H b=some (.tbl ps)->∃more,H' b=some (.tbl (ps++more))
section
variable{fs pA ex ex':BM}{H1 H2:Hp}{h1 h2:Heap}{e:Addr}{o:HO}
def Un.any(u:Un fs ex H H1 h h1){b:Addr}{ob:Obj}(q:h.get? b=some ob)(n:H b=none)(hx:b∉ex):∃sl,h1.get? b=some {ob with slots:=sl}:=by
 by_cases hb:b∈fs
 ·exact u.slot b ob q n hb hx
 ·exact⟨ob.slots,u.keep b ob q n hb hx⟩
def Un.kept(k:∀b u,h.get? b=some u->h'.get? b=some u):Un fs ex H H h h':=
 ⟨λb ob q _ _ _=>k b ob q,λb ob q _ _ _=>⟨ob.slots,k b ob q⟩,λ_ _ _ n _=>n,λb ob q _=>⟨ob,k b ob q⟩,λ_ _ q=>q,λ_ _ _ q=>q,λ_ ps q=>⟨#[],by rw[q];simp⟩⟩
def Un.refl:Un fs ex H H h h:=Un.kept λ_ _ q=>q
def Un.laid(k:∀b u,h.get? b=some u->h'.get? b=some u)(hp:h.objs.size<=a)(hn:H a=none):Un fs ex H (upd H a o) h h' where
 keep:=λb u q _ _ _=>k b u q
 slot:=λb u q _ _ _=>⟨u.slots,k b u q⟩
 free:=λb u q n _=>by rw[aq (eF (ik (Heap.lt_size q) hp))];exact n
 there:=λb u q _=>⟨u,k b u q⟩
 sG:=λb xs q=>by rw[aq (aK q hn)];exact q
 qy:=λb u xs q=>by rw[aq (aK q hn)];exact q
 sH:=λb ps q=>⟨#[],by rw[aq (aK q hn),q];simp⟩
def Un.write(mu:OZ (H x))(he:e=x\/H e=some (.own x))(k:∀b u,b≠e->h.get? b=some u->h'.get? b=some u)(OC:∃u,h'.get? e=some u):Un fs ex H (upd H x o) h h':=by
 have hx:∀b,H b=none->b≠x:=λb n z=>by subst z;rw[n]at mu;exact mu
 have hb:∀b,H b=none->b≠e:=λb n z=>by
  subst z;rcases he with r|r
  ·exact hx b n r
  ·rw[n]at r;cases r
 have hm:∀b u,H b=some u->¬ OZ (some u)->b≠x:=λb u q nm z=>by subst z;rw[q]at mu;exact nm mu
 refine⟨λb u q n _ _=>k b u (hb b n) q,λb u q n _ _=>⟨u.slots,k b u (hb b n) q⟩,λb u q n _=>by rw[aq (hx b n)];exact n,λb u q _=>?_,
  λb xs q=>by rw[aq (hm b _ q λz=>z)];exact q,λb u xs q=>by rw[aq (hm b _ q λz=>z)];exact q,λb ps q=>⟨#[],by rw[aq (hm b _ q λz=>z),q];simp⟩⟩
 by_cases hbe:b=e
 ·subst hbe;exact OC
 ·exact⟨u,k b u hbe q⟩
end
def Ue(h:Heap)(H:Hp):BM:=(bM h.objs.size).filter λa=>(H a).isSome
def qz(h:Heap)(H:Hp):Heap:=PySem.W.hideAll h (Ue h H)
def zP(h:Heap)(H:Hp):(qz h H).objs.size=h.objs.size:=PySem.W.hideAll_size _ _
def B0{h:Heap}{H:Hp}{b:Addr}{o:Obj}(e:h.get? b=some o)(n:H b=none):(qz h H).get? b=some o:=
 PySem.W.hideAll_get _ e λhm=>by
  have q:(H b).isSome=true:=(wX.mp hm).2;rw[n]at q;simp at q
def E6{h:Heap}{H:Hp}{b:Addr}{o:Obj}(e:(qz h H).get? b=some o):h.get? b=some o/\H b=none:=by
 have e':h.get? b=some o:=PySem.W.of_hideAll (Ue h H) e;refine⟨e',?_⟩;cases q:H b with
 |none=>rfl
 |some x=>
  have hm:b∈Ue h H:=wX.mpr ⟨ig.mpr (Heap.lt_size e'),by simp[q]⟩
  have z:(qz h H).get? b=none:=PySem.W.hideAll_none (Ue h H) hm;rw[z]at e;cases e
def E7(g h:Heap)(L:Addr):dJ:=(bM h.objs.size).filterMap λa=>if a=L\/(g.get? a).isSome=true then none else(h.get? a).map λo=>(a,o)
def rest(g h:Heap)(L d:Addr):dJ:=(E7 g h L).filter λp=>decide (p.1≠d)
structure Mod(K:bz)(mg:Str->D1)(base:Heap):Prop where
 kin:K.In base
 glob:base.Ns mainGlobals mg
 blt:∃mb,base.Ns builtinsNs mb/\∀x:Str,x ≠ "__name__" -> mb x=bootBuiltins x
 nolimit:base.NoLimit
structure Cx where
 prog:Program
 w:World
 K:bz
 mg:Str->D1
 base:Heap
 A:Around
 N:Bi
 s₀:Shared
 H₀:Hp
 env:Env
 outer:List Env
 stack:List Env
 ex:BM
 fn:Str->Bool
 calm:Bool
 pn:dJ
 xe:Value->Shared->Prop
def B3(l:List Env):BM:=l.filterMap (·.frame)
abbrev Cx.fs(X:Cx):BM:=B3 X.outer
def vd(sc:Scope)(x:Str):Prop:=sc.names.lookup x=some .local\/sc.names.lookup x=some .cell\/sc.names.lookup x=some .free
def Loc(sc:Scope)(x:Str):Prop:=sc.names.lookup x=some .local\/sc.names.lookup x=some .cell
def Look(env:Env)(h:Heap)(m:Str->D1)(x:Str)(u:Value):Prop:=
 (env.kindOf x=some .local/\m x=some u)\/((env.kindOf x=some .cell\/env.kindOf x=some .free)/\∃c,env.cells.lookup x=some c/\h.IsCell c (some u))
structure Cx.Ok(X:Cx):Prop where
 mod:Mod X.K X.mg X.base
 kind:X.env.scope.kind=.function
 glob:X.env.globals=mainGlobals
 blt:X.env.builtins=builtinsNs
 above:X.s₀.heap.objs.size<=X.env.locals
 inj:∀x y c,X.env.cells.lookup x=some c->X.env.cells.lookup y=some c->x=y
 has:∀x,(X.env.kindOf x=some .cell\/X.env.kindOf x=some .free)->∃c,X.env.cells.lookup x=some c
 cab:∀x c,X.fn x=true->X.env.cells.lookup x=some c->X.s₀.heap.objs.size<=c
 hd:X.calm=true->X.A.handled=none
 frames:X.A.frames=some X.stack
 stk:X.stack=X.outer\/(X.stack=X.env::X.outer/\X.env.frame=some X.env.locals)
 exf:∀b∈X.ex,b≠X.env.locals/\∀x c,X.env.cells.lookup x=some c->c≠b
 bs:∀b o,X.base.get? b=some o->X.s₀.heap.get? b=some o/\X.H₀ b=none
 bsz:X.base.objs.size<=X.s₀.heap.objs.size
 noex:∀b o,X.base.get? b=some o->b∉X.ex
 exfs:∀b∈X.ex,b∉X.fs
 k_:X.s₀.heap.FunFrames X.base X.outer
 frf:∀b∈X.fs,X.H₀ b=none
structure Inv(X:Cx)(ae:dJ)(σ:List (Option V))(H:Hp)(s:Shared):Prop where
 ok:X.Ok
 os:s.os=X.s₀.os
 bare:AllBare s.gens
 base:Un X.fs X.ex X.H₀ H X.s₀.heap s.heap
 loc:∃m,s.heap.Ns X.env.locals m/\∀(i:Nat)(x:Str)(v:V),X.N[i]?=some x->σ[i]?=some (some v)->vd X.env.scope x->∃u,RelV v u/\Look X.env s.heap m x u
 cell:∀x c,X.env.cells.lookup x=some c->∃v,s.heap.IsCell c v
 free:H X.env.locals=none
 freeC:∀x c,X.env.cells.lookup x=some c->H c=none
 pin:∀p∈X.pn++ae,s.heap.get? p.1=some p.2/\H p.1=none/\p.1≠X.env.locals/\p.1∉X.fs/\∀v,p.2.data≠.cell v
 bL:jq X.prog X.w H s.heap
 len:σ.length=X.N.length
section
variable{X:Cx}{σ:List (Option V)}
def Cx.Ok.U4(ok:X.Ok){b:Addr}{o:Obj}(e:X.base.get? b=some o):b∉X.fs:=λhb=>by
 have:=(ok.k_.mem hb).1
 rw[e]at this;cases this
theorem Inv.bs(I:Inv X ae σ H s):∀b o,X.base.get? b=some o->s.heap.get? b=some o/\H b=none:=λb o e=>
 ⟨I.base.keep b o (I.ok.bs b o e).1 (I.ok.bs b o e).2 (I.ok.U4 e) (I.ok.noex b o e),I.base.free b o (I.ok.bs b o e).1 (I.ok.bs b o e).2 (I.ok.noex b o e)⟩
def Inv.bk(I:Inv X ae σ H s):∀b o,X.base.get? b=some o->s.heap.get? b=some o:=λb o e=>(I.bs b o e).1
theorem Inv.mod(I:Inv X ae σ H s):Mod X.K X.mg X.base:=I.ok.mod
def Inv.j6(I:Inv X ae σ H s):X.K.In s.heap:=I.ok.mod.kin.keeps I.bk
theorem Inv.lt(I:Inv X ae σ H s):X.env.locals<s.heap.objs.size:=let⟨_,hn,_⟩:=I.loc;hn.lt
def Inv.sz(I:Inv X ae σ H s):X.s₀.heap.objs.size<=s.heap.objs.size:=gx I.ok.above (BN I.lt)
def Inv.U5(I:Inv X ae σ H s){a:Addr}(h:s.heap.objs.size<=a):a∉X.fs:=λhb=>by
 obtain⟨_,o,ho,_⟩:=I.ok.k_.mem hb;exact absurd (ik (Heap.lt_size ho) (gx I.sz h)) (oB _)
def Inv.KZ(I:Inv X ae σ H s):∀x c,X.env.cells.lookup x=some c->c≠X.env.locals:=λx c e z=>by
 obtain⟨v,o,ho,hd⟩:=I.cell x c e;obtain⟨m,⟨o',es,ep,K0,U6,_⟩,_⟩:=I.loc;rw[z,K0]at ho;cases ho;rw[U6]at hd;cases hd
theorem Inv.k_(I:Inv X ae σ H s):s.heap.FunFrames X.base X.outer:=by
 have all:∀(l:List Env),(∀b∈B3 l,b∈X.fs)->X.s₀.heap.FunFrames X.base l->s.heap.FunFrames X.base l:=by
  intro l
  induction l with
  |nil=>intro _ _;trivial
  |cons env r ih=>
   intro hs hl;obtain⟨hk,⟨L,o,hf,hn,ho,hd⟩,hr⟩:=hl;have hL:L∈X.fs:=hs L (by unfold B3;rw[Bo,hf];exact ee)
   obtain⟨sl,e⟩:=I.base.slot L o ho (I.ok.frf L hL) hL λz=>I.ok.exfs L z hL;exact⟨hk,⟨L,_,hf,hn,e,hd⟩,ih (λb hb=>hs b (by unfold B3;rw[Bo,hf];exact dX _ hb)) hr⟩
 exact all X.outer (λ_ hb=>hb) I.ok.k_
theorem Inv.stack(I:Inv X ae σ H s):s.heap.FunFrames X.base X.stack:=by
 rcases I.ok.stk with e|⟨e,hf⟩
 ·rw[e];exact I.k_
 ·rw[e]
  obtain⟨m,hn,_⟩:=I.loc;refine .cons (by rw[I.ok.kind];decide) hf hn ?_ I.k_
  exact Heap.get?_none_of_le (gx I.ok.bsz I.ok.above)
def Inv.qA(I:Inv X ae σ H s):∀b∈B3 X.stack,b∈X.env.locals::X.fs:=λb hb=>by
 rcases I.ok.stk with e|⟨e,hf⟩
 ·rw[e]at hb;exact dX _ hb
 ·rw[e]at hb
  unfold B3 at hb;rw[Bo,hf]at hb;exact hb
def Inv.xA(I:Inv X ae σ H s):∀b∈B3 X.stack,H b=none:=λb hb=>by
 rcases cA.mp (I.qA b hb)with e|hb
 ·rw[e];exact I.free
 ·obtain⟨_,o,ho,_⟩:=I.ok.k_.mem hb
  exact I.base.free b o ho (I.ok.frf b hb) λz=>I.ok.exfs b z hb
def Inv.step{g':Array GenState}{t':Nat}{d':Drawn}{ch:BM}(I:Inv X ae σ H s)
  (AX:∀b∈ch,(b∈X.ex\/X.s₀.heap.objs.size<=b)/\b≠X.env.locals/\(∀x c,X.env.cells.lookup x=some c->c≠b)/\∀p∈X.pn++ae,p.1≠b)
  (keep:∀b o,b≠X.env.locals->b∉X.fs->b∉ch->s.heap.get? b=some o->H b=none->h'.get? b=some o)
  (slot:∀b o,b≠X.env.locals->b∈X.fs->b∉ch->s.heap.get? b=some o->H b=none->∃sl,h'.get? b=some {o with slots:=sl}) (free:∀b o,b∉ch->s.heap.get? b=some o->H b=none->H' b=none)
  (there:∀b o,b∉ch->s.heap.get? b=some o->∃o',h'.get? b=some o')
  (sG:∀b xs,H b=some (.tup xs)->H' b=some (.tup xs)) (qy:∀b o u,H b=some (.iL o u)->H' b=some (.iL o u)) (sH:∀b ps,H b=some (.tbl ps)->∃more,H' b=some (.tbl (ps++more)))
  (ns:∀m,s.heap.Ns X.env.locals m->h'.Ns X.env.locals m) (bL:jq X.prog X.w H' h') (hg:AllBare g') :
  Inv X ae σ H' {s with heap:=h',gens:=g',drawn:=d',toks:=t'}:=by
 have XH:∀b o,X.s₀.heap.get? b=some o->b≠X.env.locals:=λb o e=>eF (ik (Heap.lt_size e) I.ok.above);have Ug:∀b o,X.s₀.heap.get? b=some o->b∉X.ex->b∉ch:=λb o e hx hb=>by
  rcases(AX b hb).1 with z|z
  ·exact hx z
  ·exact absurd (ik (Heap.lt_size e) z) (oB _)
 have cellK:∀x c,X.env.cells.lookup x=some c->∀v,s.heap.IsCell c v->h'.IsCell c v:=λx c e v zz=>by
  obtain⟨o,ho,hd⟩:=zz;have O1:c∉ch:=λz=>(AX c z).2.2.1 x c e rfl;by_cases hc:c∈X.fs
  ·obtain⟨sl,q⟩:=slot c o (I.KZ x c e) hc O1 ho (I.freeC x c e)
   exact⟨_,q,hd⟩
  ·exact⟨o,keep c o (I.KZ x c e) hc O1 ho (I.freeC x c e),hd⟩
 refine⟨I.ok,I.os,hg,⟨λb o e n hb hx=>?_,λb o e n hb hx=>?_,λb o e n hx=>?_,λb o e hx=>?_,λb xs e=>sG b xs (I.base.sG b xs e),λb o xs e=>qy b o xs (I.base.qy b o xs e),λb ps e=>?_⟩,?_,λx c e=>?_,?_,λx c e=>?_,λp hp=>?_,bL,I.len⟩
 ·exact keep b o (XH b o e) hb (Ug b o e hx) (I.base.keep b o e n hb hx) (I.base.free b o e n hx)
 ·obtain⟨sl,e1⟩:=I.base.slot b o e n hb hx
  obtain⟨Uh,e2⟩:=slot b _ (XH b o e) hb (Ug b o e hx) e1 (I.base.free b o e n hx);exact⟨Uh,e2⟩
 ·obtain⟨o',e1⟩:=I.base.there b o e hx
  exact free b o' (Ug b o e hx) e1 (I.base.free b o e n hx)
 ·obtain⟨o',e1⟩:=I.base.there b o e hx
  exact there b o' (Ug b o e hx) e1
 ·obtain⟨m1,e1⟩:=I.base.sH b ps e
  obtain⟨m2,e2⟩:=sH b _ e1;exact⟨m1++m2,by rw[e2,Array.append_assoc]⟩
 ·obtain⟨m,hn,hl⟩:=I.loc
  refine⟨m,ns m hn,λi x v e1 e2 e3=>?_⟩;obtain⟨u,r,l⟩:=hl i x v e1 e2 e3;refine⟨u,r,?_⟩;rcases l with l|⟨k,c,e,z⟩
  ·exact .inl l
  ·exact .inr ⟨k,c,e,cellK x c e _ z⟩
 ·obtain⟨v,z⟩:=I.cell x c e
  exact⟨v,cellK x c e v z⟩
 ·obtain⟨m,⟨o,_,_,ho,_⟩,_⟩:=I.loc
  exact free _ o (λz=>(AX _ z).2.1 rfl) ho I.free
 ·obtain⟨v,o,ho,hd⟩:=I.cell x c e
  exact free c o (λz=>(AX c z).2.2.1 x c e rfl) ho (I.freeC x c e)
 ·obtain⟨e,n,ne,nf,d⟩:=I.pin p hp
  have O1:p.1∉ch:=λz=>(AX p.1 z).2.2.2 p hp rfl;exact⟨keep p.1 p.2 ne nf O1 e n,free p.1 p.2 O1 e n,ne,nf,d⟩
def Inv.un{t':Nat}(I:Inv X ae σ H s)(u:Un X.fs [] H H' s.heap h')(bL:jq X.prog X.w H' h'):Inv X ae σ H' {s with heap:=h',toks:=t'}:=by
 obtain⟨m,⟨o,es,ep,ho,r⟩,_⟩:=id I.loc;obtain⟨sl,hL⟩:=u.any ho I.free (by simp)
 exact I.step (g':=s.gens) (d':=s.drawn) (ch:=[]) (λ_ z=>nomatch z) (λb o _ hb _ e n=>u.keep b o e n hb (by simp)) (λb o _ hb _ e n=>u.slot b o e n hb (by simp)) (λb o _ e n=>u.free b o e n (by simp)) (λb o _ e=>u.there b o e (by simp)) u.sG u.qy u.sH (λm' hm=>by
  obtain⟨o',O2,U7,K0,r'⟩:=hm;rw[ho]at K0;cases K0;exact⟨_,O2,U7,hL,r'⟩) bL I.bare
def Inv.call{g':Array GenState}{t':Nat}{d':Drawn}{ch:BM}(I:Inv X ae σ H s)(u:Un (B3 X.stack) ch H H' s.heap h')(bL:jq X.prog X.w H' h')(hg:AllBare g')
  (AX:∀b∈ch,(b∈X.ex\/X.s₀.heap.objs.size<=b)/\b≠X.env.locals/\(∀x c,X.env.cells.lookup x=some c->c≠b)/\∀p∈X.pn++ae,p.1≠b) :
  Inv X ae σ H' {s with heap:=h',gens:=g',drawn:=d',toks:=t'}:=by
 obtain⟨m,⟨o,es,ep,ho,r⟩,_⟩:=id I.loc;obtain⟨sl,hL⟩:=u.any ho I.free λz=>(AX _ z).2.1 rfl;exact I.step (ch:=ch) AX (λb o hL hb hc e n=>u.keep b o e n (λz=>(cA.mp (I.qA b z)).elim hL hb) hc) (λb o _ _ hc e n=>u.any e n hc) (λb o hc e n=>u.free b o e n hc) (λb o hc e=>u.there b o e hc) u.sG u.qy u.sH (λm' hm=>by
  obtain⟨o',O2,U7,K0,r'⟩:=hm;rw[ho]at K0;cases K0;exact⟨_,O2,U7,hL,r'⟩) bL hg
def Inv.turned{t':Nat}{it:Addr}(I:Inv X ae σ H s)(k:∀b o,b≠it->s.heap.get? b=some o->h'.get? b=some o)(hn:H it=none)(hL:it≠X.env.locals)
  (h1:it∈X.ex\/X.s₀.heap.objs.size<=it) (h2:∀x c,X.env.cells.lookup x=some c->c≠it) (h3:∀p∈X.pn++ae,p.1≠it):Inv X ae σ H {s with heap:=h',toks:=t'}:=by
 have XI:∀b u,H b=some u->b≠it:=λb u e z=>by rw[z,hn]at e;cases e
 refine I.step (g':=s.gens) (d':=s.drawn) (ch:=[it]) (λb hb=>?_) (λb o _ _ hc e _=>k b o (λz=>hc (by simp[z])) e) (λb o _ _ hc e _=>⟨o.slots,k b o (λz=>hc (by simp[z])) e⟩) (λ_ _ _ _ n=>n)
  (λb o hc e=>⟨o,k b o (λz=>hc (by simp[z])) e⟩) (λ_ _ e=>e) (λ_ _ _ e=>e) (λb ps e=>⟨#[],by rw[e];simp⟩) (λm hm=>?_) (λb u e=>?_) I.bare
 ·have e:b=it:=by simpa using hb
  subst e;exact⟨h1,hL,h2,h3⟩
 ·obtain⟨o,es,ep,ho,r⟩:=hm
  exact⟨o,es,ep,k _ o (Ne.symm hL) ho,r⟩
 ·refine(I.bL b u e).vo (λc v hc q=>k c v ?_ q) (λ_ q=>q) λ_ _ q=>q
  rcases hc with z|z
  ·rw[z];exact XI b u e
  ·exact XI c _ z
def Inv.tok(I:Inv X ae σ H s)(t:Nat):Inv X ae σ H {s with toks:=t}:=I.un (h':=s.heap) (t':=t) Un.refl I.bL
theorem Inv.kept{t':Nat}(I:Inv X ae σ H s)(k:∀b u,s.heap.get? b=some u->h'.get? b=some u):Inv X ae σ H {s with heap:=h',toks:=t'}:=I.un (Un.kept k) (I.bL.kept k)
theorem Inv.laid{a:Addr}{o:HO}{t':Nat}(I:Inv X ae σ H s)(k:∀b u,s.heap.get? b=some u->h'.get? b=some u)(hp:s.heap.objs.size<=a)(new:cK X.prog X.w (upd H a o) h' a o) :
  Inv X ae σ (upd H a o) {s with heap:=h',toks:=t'}:=I.un (Un.laid k hp (I.bL.fresh hp)) (I.bL.laid k hp new)
theorem Inv.write{x e:Addr}{o:HO}{t':Nat}(I:Inv X ae σ H s)(mu:OZ (H x))(he:e=x\/H e=some (.own x))(k:∀b u,b≠e->s.heap.get? b=some u->h'.get? b=some u)(OC:∃u,h'.get? e=some u)
  (new:cK X.prog X.w (upd H x o) h' x o):Inv X ae σ (upd H x o) {s with heap:=h',toks:=t'}:=I.un (Un.write mu he k OC) (I.bL.write mu he k OC new)
def Inv.weak{σ':List (Option V)}(I:Inv X ae σ H s)(hl:σ'.length=σ.length)(w:∀(i:Nat)v,σ'[i]?=some (some v)->σ[i]?=some (some v)):Inv X ae σ' H s:=
 ⟨I.ok,I.os,I.bare,I.base,let⟨m,hn,xC⟩:=I.loc;⟨m,hn,λi x v e1 e2 e3=>xC i x v e1 (w i v e2) e3⟩,I.cell,I.free,I.freeC,I.pin,I.bL,hl.trans I.len⟩
def Inv.xD{JH:dJ}(I:Inv X ae σ H s)(h:∀p∈JH,s.heap.get? p.1=some p.2/\H p.1=none/\p.1≠X.env.locals/\p.1∉X.fs/\∀v,p.2.data≠.cell v):Inv X JH σ H s:=
 ⟨I.ok,I.os,I.bare,I.base,I.loc,I.cell,I.free,I.freeC,λp hp=>(k7.mp hp).elim (λz=>I.pin p (IE _ z)) (h p),I.bL,I.len⟩
def sI{N:Bi}(hN:N.Nodup){i j:Nat}{x:Str}(a:N[i]?=some x)(b:N[j]?=some x):i=j:=by
 obtain⟨h1,e1⟩:=bD.mp a;obtain⟨h2,e2⟩:=bD.mp b;exact(List.getElem_inj hN).mp (e1.trans e2.symm)
def pC{M:Model}{A:Around}{E:Value->Shared->Prop}{i:Nat}{x:Str}{v:V}{u:Value}{Q:Unit->Shared->Prop}(I:Inv X ae σ H s)(hN:X.N.Nodup)(hi:X.N[i]?=some x)(hx:Loc X.env.scope x)(r:RelV v u)
  (h:∀s',Inv X ae (σ.set i (some v)) H s'->(∃a,Heap.SameBut a s.heap s'.heap/\(a=X.env.locals\/X.env.cells.lookup x=some a))->Q () s') (hf:X.fn x=true\/X.env.scope.names.lookup x=some .local:=by first|exact .inl rfl|exact .inr rfl|assumption):wpAny M A (storeName X.env x u) Q E s:=by
 obtain⟨m,hn,hl⟩:=id I.loc;have U8:(X.env.scope.kind == .class ||(X.env.scope.kind == .module&&X.env.locals != X.env.globals))=false:=by rw[I.ok.kind];rfl
 have hiσ:i<σ.length:=by rw[I.len];exact(bD.mp hi).1
 have KZ:=I.KZ;have tracked:∀{a:Addr}{h':Heap},(∃o,s.heap.get? a=some o/\H a=none)->Heap.SameBut a s.heap h'->jq X.prog X.w H h':=λ{a h'} ha hs b ob e=>by
  obtain⟨_,_,pD⟩:=ha;refine(I.bL b ob e).vo (λc w' hc q=>(hs.2 c ?_).trans q) (λ_ q=>q) λ_ _ q=>q
  rintro rfl
  rcases hc with rfl|hc
  ·rw[pD]at e;cases e
  ·rw[pD]at hc;cases hc
 rcases hx with hk|hk
 ·refine wpAny_storeName_local hk hn (λh' U9 hs=>?_) U8
  obtain⟨oL,_,_,Zs,_⟩:=id hn;refine h _ ⟨I.ok,I.os,I.bare,⟨λb o e n hb hx=>?_,λb o e n hb hx=>?_,I.base.free,λb o e hx=>?_,I.base.sG,I.base.qy,I.base.sH⟩,⟨_,U9,λj y v' e1 e2 e3=>?_⟩,λy c e=>?_,I.free,I.freeC,λp hp=>?_,tracked ⟨oL,Zs,I.free⟩ hs,by simpa using I.len⟩ ⟨_,hs,.inl rfl⟩
  ·exact(hs.2 b (eF (ik (Heap.lt_size e) I.ok.above))).trans (I.base.keep b o e n hb hx)
  ·obtain⟨sl,e1⟩:=I.base.slot b o e n hb hx
   exact⟨sl,(hs.2 b (eF (ik (Heap.lt_size e) I.ok.above))).trans e1⟩
  ·obtain⟨o',e1⟩:=I.base.there b o e hx
   exact⟨o',(hs.2 b (eF (ik (Heap.lt_size e) I.ok.above))).trans e1⟩
  ·by_cases hj:j=i
   ·subst hj
    rw[hi]at e1;cases e1;rw[eu hiσ]at e2;cases e2;exact⟨u,r,.inl ⟨hk,by simp⟩⟩
   ·rw[dB (Ne.symm hj)]at e2
    obtain⟨u',r',q⟩:=hl j y v' e1 e2 e3;refine⟨u',r',?_⟩;rcases q with⟨k,e⟩|⟨k,c,e,z⟩
    ·refine .inl ⟨k,?_⟩
     have:y≠x:=λe=>hj (sI hN e1 (e▸hi))
     simp[this,e]
    ·exact .inr ⟨k,c,e,z.sameBut hs (KZ y c e)⟩
  ·obtain⟨w',z⟩:=I.cell y c e
   exact⟨w',z.sameBut hs (KZ y c e)⟩
  ·obtain⟨e,n,ne,nf,d⟩:=I.pin p hp
   exact⟨(hs.2 p.1 ne).trans e,n,ne,nf,d⟩
 ·have O3:X.fn x=true:=by
   rcases hf with z|z
   ·exact z
   ·rw[z]at hk;cases hk
  obtain⟨c,hc⟩:=I.ok.has x (.inl hk);obtain⟨w',z⟩:=I.cell x c hc;refine wpAny_storeName_cell I.ok.kind hk hc z (λh' XJ hs=>?_);obtain⟨oc,XM,U_⟩:=id z;refine h {s with heap:=h'} ⟨I.ok,I.os,I.bare,⟨λb o e n hb hx=>?_,λb o e n hb hx=>?_,I.base.free,λb o e hx=>?_,I.base.sG,I.base.qy,I.base.sH⟩,⟨m,hn.sameBut hs (Ne.symm (KZ x c hc)),λj y v' e1 e2 e3=>?_⟩,λy c' e=>?_,I.free,I.freeC,λp hp=>?_,tracked ⟨oc,XM,I.freeC x c hc⟩ hs,by simpa using I.len⟩ ⟨c,hs,.inr hc⟩
  ·exact(hs.2 b (eF (ik (Heap.lt_size e) (I.ok.cab x c O3 hc)))).trans (I.base.keep b o e n hb hx)
  ·obtain⟨sl,e1⟩:=I.base.slot b o e n hb hx
   exact⟨sl,(hs.2 b (eF (ik (Heap.lt_size e) (I.ok.cab x c O3 hc)))).trans e1⟩
  ·obtain⟨o',e1⟩:=I.base.there b o e hx
   exact⟨o',(hs.2 b (eF (ik (Heap.lt_size e) (I.ok.cab x c O3 hc)))).trans e1⟩
  ·by_cases hj:j=i
   ·subst hj
    rw[hi]at e1;cases e1;rw[eu hiσ]at e2;cases e2;exact⟨u,r,.inr ⟨.inl hk,c,hc,XJ⟩⟩
   ·rw[dB (Ne.symm hj)]at e2
    obtain⟨u',r',q⟩:=hl j y v' e1 e2 e3;refine⟨u',r',?_⟩;rcases q with q|⟨k,c',e,z'⟩
    ·exact .inl q
    ·refine .inr ⟨k,c',e,z'.sameBut hs ?_⟩
     rintro rfl
     exact hj (sI hN e1 (I.ok.inj _ _ _ e hc▸hi))
  ·by_cases xE:c'=c
   ·subst xE;exact⟨_,XJ⟩
   ·obtain⟨w2,z2⟩:=I.cell y c' e
    exact⟨w2,z2.sameBut hs xE⟩
  ·obtain⟨e,n,ne,nf,d⟩:=I.pin p hp
   refine⟨(hs.2 p.1 ?_).trans e,n,ne,nf,d⟩;intro q;rw[q,XM]at e;have q':oc=p.2:=kg.inj e;exact d w' (by rw[<- q'];exact U_)
def lW{M:Model}{A:Around}{E:Value->Shared->Prop}{i:Nat}{x:Str}{v:V}{u:Value}{Q:Unit->Shared->Prop}(I:Inv X ae σ H s)(hN:X.N.Nodup)(hi:X.N[i]?=some x)(hx:Loc X.env.scope x)(r:RelV v u)
  (h:∀s',Inv X ae (σ.set i (some v)) H s'->Q () s') (hf:X.fn x=true\/X.env.scope.names.lookup x=some .local:=by first|exact .inl rfl|exact .inr rfl|assumption):wpAny M A (storeName X.env x u) Q E s:=
 pC I hN hi hx r (λs' I' _=>h s' I') hf
def Inv.O4{s':Shared}{ch:BM}(I:Inv X ae σ H s)(ho:s'.os=s.os)(u:Un (B3 X.stack) ch H H' s.heap s'.heap)(bL:jq X.prog X.w H' s'.heap)(hg:AllBare s'.gens)
  (AX:∀b∈ch,(b∈X.ex\/X.s₀.heap.objs.size<=b)/\b≠X.env.locals/\(∀x c,X.env.cells.lookup x=some c->c≠b)/\∀p∈X.pn++ae,p.1≠b):Inv X ae σ H' s':=by
 obtain⟨h',g',d',t',o'⟩:=s';have e:o'=s.os:=ho;subst e;exact I.call (g':=g') (t':=t') (d':=d') u bL hg AX
end
abbrev XK:=Value->Option Addr->Hp->Prop
abbrev St:=List (Option V)
abbrev VK:=V->Hp->Prop
abbrev TE:=St->Hp->VK->Prop
abbrev TT:=St->Hp->(Bool->Hp->Prop)->Prop
abbrev TA:=St->Hp->(List V->Hp->Prop)->Prop
structure Ends where
 nx:St->Hp->Prop
 rt:VK
 bk:St->Hp->Prop:=λ_ _=>False
 ct:St->Hp->Prop:=λ_ _=>False
abbrev TS:=Ends->St->Hp->Prop
def EP(X:Cx)(ae:dJ)(σ:St)(Q:VK)(u:Value)(s':Shared):Prop:=∃v H',Inv X ae σ H' s'/\RelV v u/\Q v H'
def TP(X:Cx)(ae:dJ)(σ:St)(Q:Bool->Hp->Prop)(b:Bool)(s':Shared):Prop:=∃H',Inv X ae σ H' s'/\Q b H'
def AP(X:Cx)(ae:dJ)(σ:St)(Q:List V->Hp->Prop)(us:B2)(s':Shared):Prop:=∃vs H',Inv X ae σ H' s'/\Vals vs us/\Q vs H'
def SP(X:Cx)(ae:dJ)(D:Ends)(f:Flow)(s':Shared):Prop:=
 match f with
 |.next=>∃σ' H',Inv X ae σ' H' s'/\D.nx σ' H'
 |.brk=>∃σ' H',Inv X ae σ' H' s'/\D.bk σ' H'
 |.cont=>∃σ' H',Inv X ae σ' H' s'/\D.ct σ' H'
 |.ret u=>∃v σ' H',Inv X ae σ' H' s'/\RelV v u/\D.rt v H'
def PE(X:Cx)(e:Expr)(t:TE):Prop:=
 ∀(ae:dJ)(s:Shared)(σ:St)(H:Hp)(Q:VK),Inv X ae σ H s->t σ H Q->wpAny (model X.prog X.w) X.A (eval e X.env) (EP X ae σ Q) X.xe s
def PT(X:Cx)(e:Expr)(t:TT):Prop:=
 ∀(ae:dJ)(s:Shared)(σ:St)(H:Hp)(Q:Bool->Hp->Prop),Inv X ae σ H s->t σ H Q->wpAny (model X.prog X.w) X.A (isTrue e X.env (eval e X.env)) (TP X ae σ Q) X.xe s
def PW(X:Cx)(e:Expr)(t:TT):Prop:=
 ∀(gT:Sem Value)(ae:dJ)(s:Shared)(σ:St)(H:Hp)(Q:Bool->Hp->Prop),Inv X ae σ H s->t σ H Q->wpAny (model X.prog X.w) X.A (isTrue e X.env gT) (TP X ae σ Q) X.xe s
def PW.pt{X:Cx}{e:Expr}{t:TT}(h:PW X e t):PT X e t:=h _
def PA(X:Cx)(es:Bz)(t:TA):Prop:=
 ∀(pos:Pos)(ae:dJ)(s:Shared)(σ:St)(H:Hp)(Q:List V->Hp->Prop),Inv X ae σ H s->t σ H Q->wpAny (model X.prog X.w) X.A (spliced (backTo pos (starEach es X.env))) (AP X ae σ Q) X.xe s
def PS(X:Cx)(st:Stmt)(t:TS):Prop:=
 ∀(ae:dJ)(s:Shared)(σ:St)(H:Hp)(D:Ends),Inv X ae σ H s->t D σ H->wpAny (model X.prog X.w) X.A (exec st X.env) (SP X ae D) X.xe s
def jB(X:Cx)(st:Ee)(t:TS):Prop:=
 ∀(ae:dJ)(s:Shared)(σ:St)(H:Hp)(D:Ends),Inv X ae σ H s->t D σ H->wpAny (model X.prog X.w) X.A (execs st X.env) (SP X ae D) X.xe s
def bX{α:Type}{t:Sem α}{Q Q':α->Shared->Prop}{M:Model}{A:Around}{E:Value->Shared->Prop}{s:Shared}(h:wpAny M A t Q E s)(hQ:∀a s,Q a s->Q' a s):wpAny M A t Q' E s:=wpAny_mono h hQ λ_ _ x=>x
section
variable{X:Cx}
def K1(i:Nat):TE:=λσ H Q=>∃v,σ[i]?=some (some v)/\Q v H
def tC(v:V):TE:=λ_ H Q=>Q v H
def fL{i:Nat}{x:Str}{pos:Pos}(hN:X.N[i]?=some x)(hv:vd X.env.scope x)(hd:cu x:=by decide)(lG:jA x:=by decide):PE X (.Name x pos) (K1 i):=by
 intro ae s σ H Q I h;obtain⟨v,e,h⟩:=h;obtain⟨m,hn,hl⟩:=I.loc;obtain⟨u,r,l⟩:=hl i x v hN e hv;have fin:EP X ae σ Q u s:=⟨v,H,I,r,h⟩;rcases l with⟨hk,hm⟩|⟨hk,c,hc,hcell⟩
 ·exact wpAny_Name (wpAny_loadName_local I.ok.kind hk hn hm fin) hd
 ·rcases hk with hk|hk
  ·exact wpAny_Name (wpAny_loadName_cell I.ok.kind hk hc hcell fin) hd
  ·exact wpAny_Name (wpAny_loadName_free I.ok.kind hk hc hcell fin lG) hd
def B4{i j pos}:PE X (.Constant (.int i) j pos) (tC (.int i)):=λ_ _ _ H _ I h=>wpAny_Constant_int ⟨.int i,H,I.tok _,⟨_,rfl⟩,h⟩
def O5{b j pos}:PE X (.Constant (.bool b) j pos) (tC (.bl b)):=λ_ _ _ H _ I h=>Constant_bool ⟨.bl b,H,I,rfl,h⟩
def K2{j pos}:PE X (.Constant .none j pos) (tC .non):=λ_ _ _ H _ I h=>Constant_none ⟨.non,H,I,rfl,h⟩
def B5{x j pos}:PE X (.Constant (.str x) j pos) (tC (.str x)):=λ_ _ _ H _ I h=>Calls.Constant_str ⟨.str x,H,I.tok _,⟨_,rfl⟩,h⟩
def Gl(X:Cx)(x:Str):Prop:=X.env.kindOf x=some .globalImplicit
def jC{E:Value->Shared->Prop}{ae:dJ}{s:Shared}{σ:St}{H:Hp}{x:Str}{u:Value}{pos:Pos}{Q:Value->Shared->Prop}(I:Inv X ae σ H s)(hg:Gl X x)(hm:X.mg x=some u)(h:Q u s)
  (hd:cu x:=by decide):wpAny (model X.prog X.w) X.A (eval (.Name x pos) X.env) Q E s:=
 Calls.Name_function_global I.ok.kind hg (Calls.loadGlobal_global (by rw[I.ok.glob];exact I.mod.glob.keeps I.bk) hm h) hd
def gb{E:Value->Shared->Prop}{ae:dJ}{s:Shared}{σ:St}{H:Hp}{x:Str}{u:Value}{pos:Pos}{Q:Value->Shared->Prop}(I:Inv X ae σ H s)(hg:Gl X x)(hm:X.mg x=none)(hv:bootBuiltins x=some u)(h:Q u s)
  (hn:x ≠ "__name__" := by decide) (hd:cu x:=by decide):wpAny (model X.prog X.w) X.A (eval (.Name x pos) X.env) Q E s:=by
 obtain⟨mb,h1,h2⟩:=I.mod.blt;exact Calls.Name_function_global I.ok.kind hg (Calls.loadGlobal_builtin (by rw[I.ok.glob];exact I.mod.glob.keeps I.bk) hm (by rw[I.ok.blt];exact h1.keeps I.bk) ((h2 x hn).trans hv) h) hd
def xF{x:Str}{v:V}{u:Value}{pos:Pos}(hg:Gl X x)(hm:X.mg x=some u)(r:RelV v u)(hd:cu x:=by decide):PE X (.Name x pos) (tC v):=
 λ_ _ _ H _ I h=>jC I hg hm ⟨v,H,I,r,h⟩ hd
def E8{x:Str}{v:V}{u:Value}{pos:Pos}(hg:Gl X x)(hm:X.mg x=none)(hv:bootBuiltins x=some u)(r:RelV v u)(hn:x ≠ "__name__" := by decide)(hd:cu x:=by decide):PE X (.Name x pos) (tC v):=
 λ_ _ _ H _ I h=>gb I hg hm hv ⟨v,H,I,r,h⟩ hn hd
variable{a:Expr}{ta tb:TE}
def PC(X:Cx)(op:CmpOp)(a b:Expr)(t:TE):Prop:=
 ∀(ae:dJ)(s:Shared)(σ:St)(H:Hp)(Q:VK),Inv X ae σ H s->t σ H Q ->
  wpAny (model X.prog X.w) X.A (eval a X.env) (λv s₁=>wpAny (model X.prog X.w) X.A (eval b X.env) (λu s₂=>wpAny (model X.prog X.w) X.A (compareOp op v u) (EP X ae σ Q) X.xe s₂) X.xe s₁) X.xe s
def tB(t:TE):TT:=λσ H Q=>t σ H λx H1=>∃c,x=.bl c/\Q c H1
variable{tA Ui:TT}{rest:Bz}
def Va(t u:TT):TT:=λσ H Q=>t σ H λc H1=>if c=true then u σ H1 Q else Q false H1
def Zt(t u:TT):TT:=λσ H Q=>t σ H λc H1=>if c=true then Q true H1 else u σ H1 Q
def Vb(t:TT):TT:=λσ H Q=>t σ H λc H1=>Q (!c) H1
def E9(ha:PT X a tA):PW X (.BoolOp .And [a] pos) tA:=by
 intro wh ae s σ H Q I h;refine isTrue_and (bX (ha ae s σ H Q I h) λc s1 e=>?_);cases c with
 |true=>exact isTrue_and_nil e
 |false=>exact e
def K3(ha:PT X a tA):PW X (.BoolOp .Or [a] pos) tA:=by
 intro wh ae s σ H Q I h;refine isTrue_or (bX (ha ae s σ H Q I h) λc s1 e=>?_);cases c with
 |false=>exact isTrue_or_nil e
 |true=>exact e
def K4(ha:PT X a tA)(hb:PW X (.BoolOp .And (b::rest) pos) Ui):PW X (.BoolOp .And (a::b::rest) pos) (Va tA Ui):=by
 intro wh ae s σ H Q I h;refine isTrue_and (bX (ha ae s σ H _ I h) λc s1 zz=>?_);obtain⟨H1,I1,q1⟩:=zz;cases c with
 |true=>exact hb wh ae s1 σ H1 Q I1 q1
 |false=>exact⟨H1,I1,q1⟩
def O6(ha:PT X a tA)(hb:PW X (.BoolOp .Or (b::rest) pos) Ui):PW X (.BoolOp .Or (a::b::rest) pos) (Zt tA Ui):=by
 intro wh ae s σ H Q I h;refine isTrue_or (bX (ha ae s σ H _ I h) λc s1 zz=>?_);obtain⟨H1,I1,q1⟩:=zz;cases c with
 |true=>exact⟨H1,I1,q1⟩
 |false=>exact hb wh ae s1 σ H1 Q I1 q1
def K5(ha:PT X a tA):PT X (.UnaryOp .Not a pos) (Vb tA):=by
 intro ae s σ H Q I h;exact isTrue_not (ha ae s σ H (λc H1=>Q (!c) H1) I h)
def O7(ta tb:TE):TE:=λσ H Q=>ta σ H λx H1=>∃c,x=.bl c/\if c=true then tb σ H1 Q else Q (.bl false) H1
def O8(ta:TE):TE:=λσ H Q=>ta σ H λx H1=>∃c,x=.bl c/\Q (.bl (!c)) H1
def K6{op}{t:TE}(h:PE X a t):PE X (.BoolOp op [a] pos) t:=λae s σ H Q I hw=>BoolOp_one (h ae s σ H Q I hw)
def K7(ha:PE X a ta)(hb:PE X (.BoolOp .And (b::rest) pos) tb):PE X (.BoolOp .And (a::b::rest) pos) (O7 ta tb):=by
 intro ae s σ H Q I h;refine BoolOp_and (bX (ha ae s σ H _ I h) λv s1 zz=>?_);obtain⟨x,H1,I1,r1,q1⟩:=zz;obtain⟨c,rfl,q1⟩:=q1;cases r1;refine wpAny_truthy_bool ?_;cases c with
 |true=>exact hb ae s1 σ H1 Q I1 q1
 |false=>exact⟨.bl false,H1,I1,rfl,q1⟩
def K8(ha:PE X a ta):PE X (.UnaryOp .Not a pos) (O8 ta):=by
 intro ae s σ H Q I h;refine UnaryOp_ (bX (ha ae s σ H _ I h) λv s1 zz=>?_);obtain⟨x,H1,I1,r1,q1⟩:=zz;obtain⟨c,rfl,q1⟩:=q1;cases r1;exact not_of (wpAny_truthy_bool ⟨.bl (!c),H1,I1,rfl,q1⟩)
def Zu(t:TT)(ta tb:TE):TE:=λσ H Q=>t σ H λc H1=>if c=true then ta σ H1 Q else tb σ H1 Q
def sJ{c:Expr}(hc:PT X c tA)(ha:PE X a ta)(hb:PE X b tb):PE X (.IfExp c a b pos) (Zu tA ta tb):=by
 intro ae s σ H Q I h;refine wpAny_IfExp (bX (hc ae s σ H _ I h) λd s1 zz=>?_);obtain⟨H1,I1,q1⟩:=zz;cases d with
 |true=>exact ha ae s1 σ H1 Q I1 q1
 |false=>exact hb ae s1 σ H1 Q I1 q1
end
def cV(K:bz)(H:Hp)(a:Addr)(xs:List V):Prop:=
 Rd H a (.lst xs) \/
  ∃(o:Obj)(its:Array Value)(n:Nat),K.lookup a=some o/\o.cls=.type "list" /\ o.dict=none/\o.data=.seq its n/\its.size<=sizeLine/\Vals xs its.toList
def lh(K:bz)(H:Hp)(a:Addr)(xs:List V):Prop:=
 Rd H a (.tup xs) \/
  ∃(o:Obj)(its:Array Value)(n:Nat),K.lookup a=some o/\o.cls=.type "tuple" /\ o.data=.seq its n/\its.size<=sizeLine/\Vals xs its.toList
def Vc:Value->Option V
 |.none=>some .non
 |.bool b=>some (.bl b)
 |.int i _=>some (.int i)
 |.str x _=>some (.str x)
 |.bytes b _=>some (.byt b)
 |.float b _=>some (.flt b)
 |.ref a=>some (.ref a)
 |.type n=>some (.ty n)
 |_=>none
def RelV.abs{x:V}{u:Value}(r:RelV x u):Vc u=some x:=by
 cases x with
 |non=>cases r;rfl
 |bl _=>cases r;rfl
 |int _=>obtain⟨t,rfl⟩:=r;rfl
 |str _=>obtain⟨t,rfl⟩:=r;rfl
 |byt _=>obtain⟨t,rfl⟩:=r;rfl
 |flt _=>obtain⟨t,rfl⟩:=r;rfl
 |ref _=>cases r;rfl
 |ty _=>cases r;rfl
theorem RelV.inj{x y:V}{u:Value}(r:RelV x u)(q:RelV y u):x=y:=kg.inj (r.abs.symm.trans q.abs)
theorem Vals.inj:∀{xs ys:List V}{us:B2},Vals xs us->Vals ys us->xs=ys
 |_,_,_,.nil,.nil=>rfl
 |_,_,_,.cons r t,.cons r' t'=>by rw[r.inj r',Vals.inj t t']
section
variable{X:Cx}{σ:St}{xs ys:List V}
def cV.of{K:bz}(h:H a=some (.lst xs)):cV K H a xs:=.inl (.inl h)
def lh.of{K:bz}(h:H a=some (.tup xs)):lh K H a xs:=.inl (.inl h)
def Inv.list(I:Inv X ae σ H s)(h:cV X.K H a xs):∃its:B2,Vals xs its/\PlainL s.heap a its.toArray/\xs.length<=sizeLine:=by
 rcases h with h|⟨o,its,n,hk,hc,hd,hs,hz,r⟩
 ·obtain⟨z,its,n,r,e⟩:=h.ok I.bL
  exact⟨its,r,⟨_,n,e,rfl,rfl,rfl⟩,z⟩
 ·refine⟨its.toList,r,⟨o,n,I.j6 a o hk,hc,hd,by simpa using hs⟩,?_⟩
  have e:=r.length;simp only[Array.length_toList]at e;omega
def Inv.tuple(I:Inv X ae σ H s)(h:lh X.K H a xs):∃its:B2,Vals xs its/\IsTup s.heap a its.toArray/\xs.length<=sizeLine:=by
 rcases h with h|⟨o,its,n,hk,hc,hs,hz,r⟩
 ·obtain⟨z,its,r,p⟩:=h.ok I.bL
  exact⟨its,r,p,z⟩
 ·refine⟨its.toList,r,⟨o,I.j6 a o hk,hc,n,by simpa using hs⟩,?_⟩
  have e:=r.length;simp only[Array.length_toList]at e;omega
def Inv.B6(I:Inv X ae σ H s)(h:cV X.K H a xs)(h':cV X.K H a ys):xs=ys:=by
 obtain⟨its,r,⟨o,n,e,_,_,d⟩,_⟩:=I.list h;obtain⟨its',r',⟨o',n',e',_,_,d'⟩,_⟩:=I.list h';rw[e]at e';cases e';rw[d]at d';injection d' with d1 _
 have:its=its':=by simpa using congrArg Array.toList d1
 subst this;exact r.inj r'
def Inv.zQ(I:Inv X ae σ H s)(h:lh X.K H a xs)(h':lh X.K H a ys):xs=ys:=by
 obtain⟨its,r,⟨o,e,_,n,d⟩,_⟩:=I.tuple h;obtain⟨its',r',⟨o',e',_,n',d'⟩,_⟩:=I.tuple h';rw[e]at e';cases e';rw[d]at d';injection d' with d1 _
 have:its=its':=by simpa using congrArg Array.toList d1
 subst this;exact r.inj r'
end
abbrev Cx.oF(X:Cx)(E:Value->Shared->Prop):Cx:={X with xe:=E}
abbrev Cx.JI(X:Cx):Cx:=X.oF λ_ _=>False
theorem Cx.Ok.oF{X:Cx}(ok:X.Ok)(E:Value->Shared->Prop):(X.oF E).Ok:=
 ⟨ok.mod,ok.kind,ok.glob,ok.blt,ok.above,ok.inj,ok.has,ok.cab,ok.hd,ok.frames,ok.stk,ok.exf,ok.bs,ok.bsz,ok.noex,ok.exfs,ok.k_,ok.frf⟩
def Cx.Ok.il{X:Cx}{E:Value->Shared->Prop}(ok:(X.oF E).Ok):X.Ok:=
 ⟨ok.mod,ok.kind,ok.glob,ok.blt,ok.above,ok.inj,ok.has,ok.cab,ok.hd,ok.frames,ok.stk,ok.exf,ok.bs,ok.bsz,ok.noex,ok.exfs,ok.k_,ok.frf⟩
section
variable{X:Cx}{σ:St}
theorem Inv.oF(I:Inv X ae σ H s)(E:Value->Shared->Prop):Inv (X.oF E) ae σ H s:=⟨I.ok.oF E,I.os,I.bare,I.base,I.loc,I.cell,I.free,I.freeC,I.pin,I.bL,I.len⟩
theorem Inv.il(I:Inv (X.oF E) ae σ H s):Inv X ae σ H s:=⟨I.ok.il,I.os,I.bare,I.base,I.loc,I.cell,I.free,I.freeC,I.pin,I.bL,I.len⟩
theorem SP.il{D:Ends}{f:Flow}{s':Shared}(h:SP (X.oF E) ae D f s'):SP X ae D f s':=by
 cases f with
 |next=>obtain⟨σ',H',I,q⟩:=h;exact⟨σ',H',I.il,q⟩
 |brk=>obtain⟨σ',H',I,q⟩:=h;exact⟨σ',H',I.il,q⟩
 |cont=>obtain⟨σ',H',I,q⟩:=h;exact⟨σ',H',I.il,q⟩
 |ret u=>obtain⟨v,σ',H',I,r,q⟩:=h;exact⟨v,σ',H',I.il,r,q⟩
theorem jB.JI{st:Ee}{t:TS}(h:jB X.JI st t):jB X st t:=λae s σ H D I hw=>
 wpAny_mono (h ae s σ H D (I.oF _) hw) (λ_ _ q=>q.il) λ_ _ z=>False.elim z
end
section
variable{X:Cx}{st:Stmt}{rest:Ee}{t u:TS}{te:TE}
def B7:TS:=λD σ H=>D.nx σ H
def O9(t u:TS):TS:=λD σ H=>t {D with nx:=u D} σ H
def xG:jB X [] B7:=λ_ _ σ H _ I h=>wpAny_execs_nil ⟨σ,H,I,h⟩
def sL(h1:PS X st t)(h2:jB X rest u):jB X (st::rest) (O9 t u):=by
 intro ae s σ H D I h;refine wpAny_execs_cons (bX (h1 ae s σ H {D with nx:=u D} I h) λf s1 q=>?_)
 cases f with
 |next=>
  obtain⟨σ',H',I',q⟩:=q;exact h2 ae s1 σ' H' D I' q
 |ret v=>exact q
 |brk=>exact q
 |cont=>exact q
def xH(h1:PS X st t):jB X [st] t:=by
 intro ae s σ H D I h;refine wpAny_execs_cons (bX (h1 ae s σ H D I h) λf s1 q=>?_);cases f with
 |next=>exact wpAny_execs_nil q
 |ret v=>exact q
 |brk=>exact q
 |cont=>exact q
def E_:PS X (.Pass pos) B7:=λ_ _ σ H _ I h=>wpAny_Pass ⟨σ,H,I,h⟩
def Inv.quiet{ae:dJ}{σ:St}{H:Hp}{s:Shared}(I:Inv X ae σ H s):interactive X.env=false:=by simp[interactive,I.ok.kind]
def O_(te:TE):TS:=λD σ H=>te σ H λ_ H1=>D.nx σ H1
def jD(he:PE X e te)(hs:swapsWith e none pos.line X.env=pure false:=by rfl):PS X (.Expr e pos) (O_ te):=by
 intro ae s σ H D I h;exact wpAny_Expr_any (bX (he ae s σ H _ I h) λv s1 ⟨x,H1,I1,r1,q1⟩=>⟨σ,H1,I1,q1⟩) I.quiet hs
def Vd(te:TE):TS:=λD σ H=>te σ H D.rt
def K9(he:PE X e te):PS X (.Return (some e) pos) (Vd te):=by
 intro ae s σ H D I h;exact wpAny_Return_some (bX (he ae s σ H _ I h) λv s1 ⟨x,H1,I1,r1,q1⟩=>⟨x,σ,H1,I1,r1,q1⟩)
def Pa:TS:=λD _ H=>D.rt .non H
def Fb:PS X (.Return none pos) Pa:=λ_ _ σ H _ I h=>wpAny_Return_none ⟨.non,σ,H,I,rfl,h⟩
def Ve(c:TT)(t u:TS):TS:=λD σ H=>c σ H λb H1=>if b=true then t D σ H1 else u D σ H1
def Pb{c:Expr}{a b:Ee}{tc:TT}(hc:PT X c tc)(ha:jB X a t)(hb:jB X b u):PS X (.If c a b pos) (Ve tc t u):=by
 intro ae s σ H D I h;refine wpAny_If (bX (hc ae s σ H _ I h) λd s1 zz=>?_);obtain⟨H1,I1,q1⟩:=zz;cases d with
 |true=>exact ha ae s1 σ H1 D I1 q1
 |false=>exact hb ae s1 σ H1 D I1 q1
end
abbrev TG:=V->St->Hp->(St->Hp->Prop)->Prop
abbrev JJ:=List V->St->Hp->(St->Hp->Prop)->Prop
def PG(X:Cx)(target:Expr)(t:TG):Prop:=
 ∀(ae:dJ)(s:Shared)(σ:St)(H:Hp)(v:V)(u:Value)(Q:St->Hp->Prop),Inv X ae σ H s->RelV v u->t v σ H Q ->
  wpAny (model X.prog X.w) X.A (assign target X.env u) (λ_ s'=>∃σ' H',Inv X ae σ' H' s'/\Q σ' H') X.xe s
def Pc(X:Cx)(ts:Bz)(t:JJ):Prop:=
 ∀(ae:dJ)(s:Shared)(σ:St)(H:Hp)(vs:List V)(us:B2)(Q:St->Hp->Prop),Inv X ae σ H s->Vals vs us->t vs σ H Q ->
  wpAny (model X.prog X.w) X.A (assignInOrder ((assignEach ts X.env).map (·.2)) us) (λ_ s'=>∃σ' H',Inv X ae σ' H' s'/\Q σ' H') X.xe s
abbrev K_:=V->V->V->Hp->(Hp->Prop)->Prop
def Pd(X:Cx)(t:K_):Prop:=
 ∀(ae:dJ)(s:Shared)(σ:St)(H:Hp)(o i v:V)(ov iv u:Value)(Q:Hp->Prop),Inv X ae σ H s->RelV o ov->RelV i iv->RelV v u->t o i v H Q ->
  wpAny (model X.prog X.w) X.A (setItem ov iv u) (λ_ s'=>∃H',Inv X ae σ H' s'/\Q H') X.xe s
abbrev Uj:=V->V->Hp->VK->Prop
def XN(X:Cx)(op:Operator)(t:Uj):Prop:=
 ∀(ae:dJ)(s:Shared)(σ:St)(H:Hp)(x y:V)(v u:Value)(Q:VK),Inv X ae σ H s->RelV x v->RelV y u->t x y H Q ->
  wpAny (model X.prog X.w) X.A (inplaceOp op v u) (EP X ae σ Q) X.xe s
section
variable{X:Cx}
def xJ(i:Nat):TG:=λv σ H Q=>Q (σ.set i (some v)) H
def qC{i:Nat}{x:Str}(hN:X.N.Nodup)(hi:X.N[i]?=some x)(hx:Loc X.env.scope x)(hf:X.fn x=true\/X.env.scope.names.lookup x=some .local:=by first|exact .inl rfl|exact .inr rfl|assumption):PG X (.Name x pos) (xJ i):=by
 intro ae s σ H v u Q I r h;exact wpAny_assign_Name (lW I hN hi hx r (λs' I'=>⟨_,H,I',h⟩) hf)
def Pe:JJ:=λvs σ H Q=>vs=[]/\Q σ H
def JK(t:TG)(u:JJ):JJ:=λvs σ H Q=>∃v r,vs=v::r/\t v σ H λσ' H'=>u r σ' H' Q
def Fc:Pc X [] Pe:=by
 intro ae s σ H vs us Q I r h;obtain⟨e,h⟩:=h;subst e;cases r;exact assignInOrder_nil ⟨σ,H,I,h⟩
def B8{e:Expr}{es:Bz}{t:TG}{u:JJ}(h1:PG X e t)(h2:Pc X es u)
  (hs:(assignEach (e::es) X.env).map (·.2)=assign e X.env::(assignEach es X.env).map (·.2):=by rfl):Pc X (e::es) (JK t u):=by
 intro ae s σ H vs us Q I r h;obtain⟨v,vr,e1,h⟩:=h;subst e1;cases r with
 |cons r rr=>
  rw[hs];refine assignInOrder_cons (bX (h1 ae s σ H _ _ _ I r h) λ_ s1 zz=>?_);obtain⟨σ1,H1,I1,q1⟩:=zz;exact h2 ae s1 σ1 H1 _ _ Q I1 rr q1
def La(K:bz)(n:Nat)(t:JJ):TG:=λv σ H Q=>∃a xs,v=.ref a/\lh K H a xs/\xs.length=n/\t xs σ H Q
def B9{es:Bz}{k:Nat}{t:JJ}{n:Nat}(hc:X.calm=true)(h:Pc X es t)
  (hn:(assignEach es X.env).length=n:=by rfl) (Vf:(assignEach es X.env).findIdx? (·.1)=none:=by rfl):PG X (.Tuple es k pos) (La X.K n t):=by
 intro ae s σ H v u Q I r hw;obtain⟨a,xs,e1,hq,hl,hw⟩:=hw;subst e1;cases r;obtain⟨its,rv,ht,hz⟩:=I.tuple hq;refine assign_Tuple_tuple (I.ok.hd hc) ht (by simp[hn,<- hl,rv.length]) Vf λh' hx=>?_
 have I1:Inv X ae σ H {s with heap:=h'}:=I.kept (t':=s.toks) λb o e=>hx b o (eF (Heap.lt_size e)) e
 exact h ae _ σ H xs _ Q I1 (by simpa using rv) hw
def Vg(to ti:TE)(t:K_):TG:=λv σ H Q=>to σ H λo H1=>ti σ H1 λi H2=>t o i v H2 λH3=>Q σ H3
def Lb{o i:Expr}{to ti:TE}{t:K_}(ho:PE X o to)(hi:PE X i ti)(hs:Pd X t)
  (ha:∀v,assign (.Subscript o i pos) X.env v=(do
   let ov <- holding [v] (eval o X.env)
   let iv <- holding [v,ov] (eval i X.env)
   standAt pos
   holding [v,ov,iv] (setItem ov iv v)
   release [v,ov,iv] []):=by intro _;rfl):PG X (.Subscript o i pos) (Vg to ti t):=by
 intro ae s σ H v u Q I r h;rw[ha];refine wpAny_bind (wpAny_holding (bX (ho ae s σ H _ I h) λov s1 zz=>?_));obtain⟨x,H1,I1,r1,q1⟩:=zz;refine wpAny_bind (wpAny_holding (bX (hi ae s1 σ H1 _ I1 q1) λiv s2 zz=>?_));obtain⟨y,H2,I2,r2,q2⟩:=zz;refine wpAny_bind (wpAny_standAt (wpAny_bind (wpAny_holding (bX (hs ae s2 σ H2 x y v ov iv u _ I2 r1 r2 r q2) λ_ s3 zz=>?_))));obtain⟨H3,I3,q3⟩:=zz;exact wpAny_release ⟨σ,H3,I3,q3⟩
def Ph(te:TE)(g:TG):TS:=λD σ H=>te σ H λx H1=>g x σ H1 D.nx
def B_{tg e:Expr}{te:TE}{g:TG}(he:PE X e te)(hg:PG X tg g)(hs:swapsWithSole [tg] e pos.line X.env=pure false:=by rfl)(hw:swappedStores [tg] e X.env=pure none:=by rfl)
  (h1:(assignEach [tg] X.env).map (·.2)=[assign tg X.env]:=by rfl):PS X (.Assign [tg] e pos) (Ph te g):=by
 intro ae s σ H D I h;refine wpAny_Assign_stores (bX (he ae s σ H _ I h) λv s1 ⟨x,H1,I1,r1,q1⟩=>?_) hs hw;rw[h1];exact bX (hg ae s1 σ H1 x v _ I1 r1 q1) λ_ s2 q=>q
def vp{i:Nat}{x:Str}{e:Expr}{te:TE}{cy:Pos}(hN:X.N.Nodup)(hi:X.N[i]?=some x)(hx:Loc X.env.scope x)(he:PE X e te)(hs:swapsWith e (some (.Name x cy)) pos.line X.env=pure false:=by rfl)(hf:X.fn x=true\/X.env.scope.names.lookup x=some .local:=by first|exact .inl rfl|exact .inr rfl|assumption) :
  PS X (.Assign [.Name x cy] e pos) (Ph te (xJ i)):=by
 intro ae s σ H D I h;refine wpAny_Assign_Name (bX (he ae s σ H _ I h) λv s1 ⟨y,H1,I1,r1,q1⟩=>?_) hs;exact lW I1 hN hi hx r1 (λs2 I2=>⟨_,H1,I2,q1⟩) hf
def Vh(i:Nat)(te:TE)(ti:Uj):TS:=λD σ H=>∃x,σ[i]?=some (some x)/\te σ H λy H1=>ti x y H1 λz H2=>D.nx (σ.set i (some z)) H2
def Ld{i:Nat}{x:Str}{e:Expr}{te:TE}{op:Operator}{ti:Uj}{cy:Pos}(hN:X.N.Nodup)(hi:X.N[i]?=some x)(hx:Loc X.env.scope x)(he:PE X e te)(ho:XN X op ti)(hf:X.fn x=true\/X.env.scope.names.lookup x=some .local:=by first|exact .inl rfl|exact .inr rfl|assumption) :
  PS X (.AugAssign (.Name x cy) op e pos) (Vh i te ti):=by
 intro ae s σ H D I h;obtain⟨v,e1,h⟩:=h;obtain⟨m,hn,hl⟩:=I.loc;have Zv:vd X.env.scope x:=by rcases hx with k|k;exact .inl k;exact .inr (.inl k)
 obtain⟨u,r,l⟩:=hl i x v hi e1 Zv;refine wpAny_AugAssign_Name ?_;have go:wpAny (model X.prog X.w) X.A (eval e X.env) (λw s₂=>wpAny (model X.prog X.w) X.A (inplaceOp op u w) (λr s₃=>wpAny (model X.prog X.w) X.A (storeName X.env x r) (λ_=>SP X ae D .next) X.xe s₃) X.xe s₂) X.xe s:=by
  refine bX (he ae s σ H _ I h) λw s1 zz=>?_;obtain⟨y,H1,I1,r1,q1⟩:=zz;refine bX (ho ae s1 σ H1 v y u w _ I1 r r1 q1) λz s2 zz=>?_;obtain⟨zv,H2,I2,r2,q2⟩:=zz;exact lW I2 hN hi hx r2 (λs3 I3=>⟨_,H2,I3,q2⟩) hf
 rcases l with⟨hk,hm⟩|⟨hk,c,hc,hcell⟩
 ·exact wpAny_loadName_local I.ok.kind hk hn hm go
 ·rcases hk with hk|hk
  ·exact wpAny_loadName_cell I.ok.kind hk hc hcell go
  ·rcases hx with k|k
   ·have:X.env.scope.names.lookup x=some .free:=hk
    rw[k]at this;cases this
   ·have:X.env.scope.names.lookup x=some .free:=hk
    rw[k]at this;cases this
def Zw(f:Int->Int->Int):Uj:=λx y H Q=>∃i j,x=.int i/\y=.int j/\Q (.int (f i j)) H
def Le:XN X .Add (Zw λi j=>i+j):=by
 intro ae s σ H x y v u Q I r1 r2 h;obtain⟨i,j,e1,e2,q⟩:=h;subst e1;subst e2;obtain⟨t,rfl⟩:=r1;obtain⟨t',rfl⟩:=r2;exact iadd_int ⟨.int _,H,I.tok _,⟨_,rfl⟩,q⟩
end
section
variable{X:Cx}
def Lf(c:TT)(tb:TS):TS:=λD σ H=>∃W:Nat->St->Hp->Prop,(∃m,W m σ H)/\∀m σ H,W m σ H ->
 c σ H λb H1=>if b=true then ∃N:St->Hp->Prop,(∀σ' H',N σ' H'->∃m',m'<m/\W m' σ' H')/\tb {D with nx:=N,ct:=N,bk:=D.nx} σ H1 else D.nx σ H1
def Cb{c:Expr}{body:Ee}{tc:TT}{tb:TS}(hp:PassesOwn (model X.prog X.w) X.A X.env X.xe)(hc:PT X c tc)(hb:jB X body tb):PS X (.While c body [] pos) (Lf tc tb):=by
 intro ae s σ H D I h;obtain⟨W,⟨m0,w0⟩,turn⟩:=h;refine wpAny_While (codeAny_whileLoop (λn s'=>∃σ' H',Inv X ae σ' H' s'/\W n σ' H') ?_ m0 ⟨σ,H,I,w0⟩)
 rintro n s1 ⟨σ1,H1,I1,w1⟩
 refine wpAny_passesOwn hp (bX (hc ae s1 σ1 H1 _ I1 (turn n σ1 H1 w1)) λb s2 zz=>?_);obtain⟨H2,I2,q2⟩:=zz;cases b with
 |true=>
  obtain⟨N,hN,q2⟩:=q2;rw[if_pos rfl];refine wpAny_passesOwn hp (bX (hb ae s2 σ1 H2 _ I2 q2) λf s3 q3=>?_);cases f with
  |next=>
   obtain⟨σ3,H3,I3,n3⟩:=q3;obtain⟨m',hm,w3⟩:=hN σ3 H3 n3;exact⟨m',hm,σ3,H3,I3,w3⟩
  |cont=>
   obtain⟨σ3,H3,I3,n3⟩:=q3;obtain⟨m',hm,w3⟩:=hN σ3 H3 n3;exact⟨m',hm,σ3,H3,I3,w3⟩
  |brk=>exact q3
  |ret v=>exact q3
 |false=>
  rw[if_neg dP];exact wpAny_execs_nil ⟨σ1,H2,I2,q2⟩
end
structure It where
 go:Nat->Hp->Prop
 yld:Nat->Hp->V->Hp->Prop
 stop:Nat->Hp->Prop
def lX(X:Cx)(ae:dJ)(H:Hp)(b:Addr):Prop:=
 H b=none/\b≠X.env.locals/\b∉X.fs/\(b∈X.ex\/X.s₀.heap.objs.size<=b)/\(∀x c,X.env.cells.lookup x=some c->c≠b)/\∀p∈X.pn++ae,p.1≠b
def Inv.oG{X:Cx}{ae:dJ}{σ:St}{H H':Hp}{s:Shared}{b:Addr}(I:Inv X ae σ H s)(hb:s.heap.objs.size<=b)(hn:H' b=none):lX X ae H' b:=by
 refine⟨hn,BH (ik I.lt hb),I.U5 hb,.inr (gx I.sz hb),λx c e z=>?_,λp hp z=>?_⟩
 ·obtain⟨v,q⟩:=I.cell x c e
  exact absurd (ik q.lt (by rw[z];exact hb)) (oB _)
 ·exact absurd (ik (Heap.lt_size (I.pin p hp).1) (by rw[z];exact hb)) (oB _)
structure Turn(P:Program)(w:World)(K:bz)(tg:Expr)(J:It)(fp:BM)(it:Addr)(tn:Nat->Heap->Prop):Prop where
 mem:it∈fp
 obj:∀i h,tn i h->∀b∈fp,∃o,h.get? b=some o/\∀v,o.data≠.cell v
 keep:∀i h h',tn i h->(∀b∈fp,∀o,h.get? b=some o->h'.get? b=some o)->tn i h'
 item:∀(X:Cx),X.prog=P->X.w=w->X.K=K->X.calm=true->∀(i:Nat)(ae:dJ)(s:Shared)(σ:St)(H:Hp)(E:Value->Shared->Prop),Inv X ae σ H s->(∀b∈fp,lX X ae H b)->tn i s.heap->J.go i H ->
  wpAny (model P w) X.A (pyNext (.ref it)) (λr s1=>∃u,r=some u /\
   wpAny (model P w) X.A (letOwnedTupleGo tg (.ref it) u) (λ_ s2=>∃x H',Inv X ae σ H' s2/\RelV x u/\J.yld i H x H'/\tn (i+1) s2.heap/\∀b∈fp,H' b=none) E s1) E s
 done:∀(X:Cx),X.prog=P->X.w=w->X.K=K->X.calm=true->∀(i:Nat)(ae:dJ)(s:Shared)(σ:St)(H:Hp)(E:Value->Shared->Prop),Inv X ae σ H s->(∀b∈fp,lX X ae H b)->tn i s.heap->J.stop i H ->
  wpAny (model P w) X.A (pyNext (.ref it)) (λr s1=>r=none/\Inv X ae σ H s1) E s
 self:∀(A:Around)(i:Nat)(s:Shared)(Q:Value->Shared->Prop)(E:Value->Shared->Prop),tn i s.heap->Q (.ref it) s->wpAny (model P w) A (pyIter (.ref it)) Q E s
abbrev TI:=St->Hp->(It->Hp->Prop)->Prop
def XO(X:Cx)(ae:dJ)(σ:St)(tg:Expr)(R:It->Hp->Prop)(Vi:Value)(s2:Shared):Prop:=
 ∃(it:Addr)(fp:BM)(tn:Nat->Heap->Prop)(J:It)(H':Hp),Vi=.ref it/\Inv X ae σ H' s2/\Turn X.prog X.w X.K tg J fp it tn/\tn 0 s2.heap/\(∀b∈fp,lX X ae H' b)/\R J H'
def PI(X:Cx)(tg iter:Expr)(wi:TI):Prop:=
 ∀(ae:dJ)(s:Shared)(σ:St)(H:Hp)(R:It->Hp->Prop),Inv X ae σ H s->wi σ H R ->
  wpAny (model X.prog X.w) X.A (eval iter X.env) (λv s1=>wpAny (model X.prog X.w) X.A (pyIter v) (XO X ae σ tg R) X.xe s1) X.xe s
def sM{M:Model}{A:Around}{E:Value->Shared->Prop}{s:Shared}{tg:Expr}{it:Addr}{u:Value}{o:Obj}{n:String}{vs:Array Value}{Q:Unit->Shared->Prop}(ho:s.heap.get? it=some o)(hc:o.cls=.type n)(hd:o.data=.fields vs)
  (hn:["enumerate","zip","dict_itemiterator","dict_reverseitemiterator","odict_iterator","itertools.zip_longest","itertools.pairwise"].contains n=false) (hQ:Q () s):wpAny M A (letOwnedTupleGo tg (.ref it) u) Q E s:=by
 unfold letOwnedTupleGo;cases tg<;>first
  |exact wpAny_pure hQ
  | (cases u<;>first
    |exact wpAny_pure hQ
    | (refine wpAny_bind (wpAny_load ho ?_)
       rw[hc,hd];show wpAny M A (if(["enumerate","zip","dict_itemiterator","dict_reverseitemiterator","odict_iterator","itertools.zip_longest","itertools.pairwise"].contains n&&vs[0]? == some (rawInt _))=true then _ else _) Q E s
       rw[if_neg (by intro h;rw[hn,BQ]at h;cases h)]
       exact wpAny_pure hQ))
def Uk(K:bz)(a:Addr):It:=
 ⟨λi H=>∃xs x,cV K H a xs/\xs[i]?=some x,λi H x H'=>H'=H/\∀xs,cV K H a xs->xs[i]?=some x,λi H=>∃xs,cV K H a xs/\xs.length<=i⟩
def Vj(K:bz)(a:Addr):It:=
 ⟨λi H=>∃xs x,lh K H a xs/\xs[i]?=some x,λi H x H'=>H'=H/\∀xs,lh K H a xs->xs[i]?=some x,λi H=>∃xs,lh K H a xs/\xs.length<=i⟩
def Pj(lo:Int)(n:Nat):It:=⟨λi _=>i<n,λi H x H'=>H'=H/\x=.int (lo+i),λi _=>n<=i⟩
def zR{P:Program}{w:World}{K:bz}{tg:Expr}(a it:Addr):Turn P w K tg (Uk K a) [it] it (λi h=>h.IsListIter it a i) where
 mem:=by simp
 obj:=λi h st b hb=>by
  have e:b=it:=by simpa using hb
  subst e;obtain⟨o,e,c,d⟩:=st;exact⟨o,e,λv z=>by rw[d]at z;cases z⟩
 keep:=λi h h' st k=>st.at λo e=>k it (by simp) o e
 item:=by
  intro X hP hw hK hc i ae s σ H E I hf st hg;subst hP hw hK;obtain⟨xs,x,hq,hx⟩:=hg;obtain⟨its,rv,p,hz⟩:=I.list hq;obtain⟨u,hu,ru⟩:=rv.get hx;obtain⟨f0,f1,f2,f3,f4,f5⟩:=hf it (by simp)
  refine wpAny_pyNext_list_item st p.isList (x:=u) (by simpa using hu) λh' lY sb=>?_
  have I1:Inv X ae σ H {s with heap:=h'}:=I.turned (t':=s.toks) (λb o hb e=>(sb.2 b hb).trans e) f0 f1 f3 f4 f5
  obtain⟨o,e,c,d⟩:=id lY;exact⟨u,rfl,sM (s:={s with heap:=h'}) e c d (by decide) ⟨x,H,I1,ru,⟨rfl,λys hy=>by rw[I.B6 hy hq];exact hx⟩,lY,λb hb=>(hf b hb).1⟩⟩
 done:=by
  intro X hP hw hK hc i ae s σ H E I hf st hg;subst hP hw hK;obtain⟨xs,hq,hx⟩:=hg;obtain⟨its,rv,p,hz⟩:=I.list hq;obtain⟨f0,f1,f2,f3,f4,f5⟩:=hf it (by simp)
  have hl:=rv.length;exact wpAny_pyNext_list_end (I.ok.hd hc) st p.isList (by simp;omega) λh' eb=>⟨rfl,I.turned (t':=s.toks) (λb o hb e=>eb b o hb e) f0 f1 f3 f4 f5⟩
 self:=λ_ _ _ _ _ st h=>wpAny_pyIter_listiter st h
def vq{P:Program}{w:World}{K:bz}{tg:Expr}(a it:Addr):Turn P w K tg (Vj K a) [it] it (λi h=>h.IsTupleIter it a i) where
 mem:=by simp
 obj:=λi h st b hb=>by
  have e:b=it:=by simpa using hb
  subst e;obtain⟨o,e,c,d⟩:=st;exact⟨o,e,λv z=>by rw[d]at z;cases z⟩
 keep:=λi h h' st k=>st.at λo e=>k it (by simp) o e
 item:=by
  intro X hP hw hK hc i ae s σ H E I hf st hg;subst hP hw hK;obtain⟨xs,x,hq,hx⟩:=hg;obtain⟨its,rv,p,hz⟩:=I.tuple hq;obtain⟨u,hu,ru⟩:=rv.get hx;obtain⟨f0,f1,f2,f3,f4,f5⟩:=hf it (by simp)
  refine wpAny_pyNext_tuple_item st (show s.heap.IsTuple a its.toArray from p) (x:=u) (by simpa using hu) λh' lY sb=>?_
  have I1:Inv X ae σ H {s with heap:=h'}:=I.turned (t':=s.toks) (λb o hb e=>(sb.2 b hb).trans e) f0 f1 f3 f4 f5
  obtain⟨o,e,c,d⟩:=id lY;exact⟨u,rfl,sM (s:={s with heap:=h'}) e c d (by decide) ⟨x,H,I1,ru,⟨rfl,λys hy=>by rw[I.zQ hy hq];exact hx⟩,lY,λb hb=>(hf b hb).1⟩⟩
 done:=by
  intro X hP hw hK hc i ae s σ H E I hf st hg;subst hP hw hK;obtain⟨xs,hq,hx⟩:=hg;obtain⟨its,rv,p,hz⟩:=I.tuple hq;obtain⟨f0,f1,f2,f3,f4,f5⟩:=hf it (by simp)
  have hl:=rv.length;exact wpAny_pyNext_tuple_end (I.ok.hd hc) st (show s.heap.IsTuple a its.toArray from p) (by simp;omega) λh' eb=>⟨rfl,I.turned (t':=s.toks) (λb o hb e=>eb b o hb e) f0 f1 f3 f4 f5⟩
 self:=λ_ _ _ _ _ st h=>wpAny_pyIter_tupleiter st h
def vt{P:Program}{w:World}{K:bz}{tg:Expr}(it:Addr)(lo:Int)(n:Nat):Turn P w K tg (Pj lo n) [it] it (λi h=>IsRangeIter h it (lo+(i:Nat)*1) ((n:Int)-(i:Nat)) 1) where
 mem:=by simp
 obj:=λi h st b hb=>by
  have e:b=it:=by simpa using hb
  subst e;exact⟨_,st,λv z=>by
   have z':Data.fields _=Data.cell v:=z;cases z'⟩
 keep:=λi h h' st k=>k it (by simp) _ st
 item:=by
  intro X hP hw hK hc i ae s σ H E I hf st hg;subst hP hw hK;obtain⟨f0,f1,f2,f3,f4,f5⟩:=hf it (by simp)
  have W:=Walks.range (prog:=X.prog) (w:=X.w) (I.ok.hd hc) it lo 1 n;refine W.item i s _ _ hg st λv h' tk hv lY kk=>?_;obtain⟨t,rfl⟩:=hv;have I1:Inv X ae σ H {s with heap:=h',toks:=tk}:=I.turned (λb o hb e=>kk b o (by simpa using hb) e) f0 f1 f3 f4 f5
  refine⟨_,rfl,sM (s:={s with heap:=h',toks:=tk}) (n := "range_iterator") lY rfl rfl (by decide) ⟨.int (lo+i),H,I1,⟨t,?_⟩,⟨rfl,rfl⟩,lY,λb hb=>(hf b hb).1⟩⟩
  rw[Int.mul_one]
 done:=by
  intro X hP hw hK hc i ae s σ H E I hf st hg;subst hP hw hK;obtain⟨f0,f1,f2,f3,f4,f5⟩:=hf it (by simp)
  exact wpAny_pyNext_range_end (I.ok.hd hc) st (by have:n<=i:=hg;omega) λh' eb=>⟨rfl,I.turned (t':=s.toks) (λb o hb e=>eb b o hb e) f0 f1 f3 f4 f5⟩
 self:=λ_ _ _ _ _ st h=>wpAny_pyIter_rangeiter st h
section
variable{X:Cx}{tg:Expr}
def Pk(K:bz)(tl:TE):TI:=λσ H R=>tl σ H λx H1=>∃a,x=.ref a/\(∃xs,cV K H1 a xs)/\R (Uk K a) H1
def Vk(K:bz)(tl:TE):TI:=λσ H R=>tl σ H λx H1=>∃a,x=.ref a/\(∃xs,lh K H1 a xs)/\R (Vj K a) H1
def Fd{l:Expr}{tl:TE}(hl:PE X l tl):PI X tg l (Pk X.K tl):=by
 intro ae s σ H R I h;refine bX (hl ae s σ H _ I h) λv s1 zz=>?_;obtain⟨x,H1,I1,r1,q1⟩:=zz;obtain⟨a,e,⟨xs,hq⟩,q⟩:=q1;subst e;cases r1;obtain⟨its,rv,p,hz⟩:=I1.list hq;refine wpAny_pyIter_list p.isList ?_;refine⟨s1.heap.objs.size,[s1.heap.objs.size],_,_,H1,rfl,I1.kept (t':=s1.toks) λb o e=>Heap.get?_push_of_some _ e,zR a _,⟨_,Heap.get?_push_size _ rfl,rfl,rfl⟩,λb hb=>?_,q⟩;have e:b=s1.heap.objs.size:=by simpa using hb
 subst e;exact I1.oG (c_ _) (I1.bL.fresh (c_ _))
def Lg{l:Expr}{tl:TE}(hl:PE X l tl):PI X tg l (Vk X.K tl):=by
 intro ae s σ H R I h;refine bX (hl ae s σ H _ I h) λv s1 zz=>?_;obtain⟨x,H1,I1,r1,q1⟩:=zz;obtain⟨a,e,⟨xs,hq⟩,q⟩:=q1;subst e;cases r1;obtain⟨its,rv,p,hz⟩:=I1.tuple hq;refine wpAny_pyIter_tuple (show s1.heap.IsTuple a its.toArray from p) ?_;refine⟨s1.heap.objs.size,[s1.heap.objs.size],_,_,H1,rfl,I1.kept (t':=s1.toks) λb o e=>Heap.get?_push_of_some _ e,vq a _,⟨_,Heap.get?_push_size _ rfl,rfl,rfl⟩,λb hb=>?_,q⟩;have e:b=s1.heap.objs.size:=by simpa using hb
 subst e;exact I1.oG (c_ _) (I1.bL.fresh (c_ _))
def sN{ae:dJ}{σ:St}{H:Hp}{s:Shared}{R:It->Hp->Prop}{E:Value->Shared->Prop}{lo hi:Int}{t u v:Tok}{tk:Nat}(I:Inv X ae σ H s)(h1:-(2^62)<=lo)(h2:lo<2^62)(h3:-(2^62)<=hi)(h4:hi<2^62)
  (q:R (Pj lo (hi-lo).toNat) H):wpAny (model X.prog X.w) X.A (pyIter (.ref s.heap.objs.size)) (XO X ae σ tg R) E {s with heap:=s.heap.push {cls:=.type "range",data:=.fields #[.int lo t,.int hi u,.int 1 v]},toks:=tk}:=by
 refine wpAny_pyIter_range (IsRange.new ..) (small_one h1 h2 h3 h4) ?_;have I1:Inv X ae σ H {s with heap:=s.heap.push {cls:=.type "range",data:=.fields #[.int lo t,.int hi u,.int 1 v]},toks:=tk}:=I.kept λb o e=>Heap.get?_push_of_some _ e
 refine⟨(s.heap.push {cls:=.type "range",data:=.fields #[.int lo t,.int hi u,.int 1 v]}).objs.size,[(s.heap.push {cls:=.type "range",data:=.fields #[.int lo t,.int hi u,.int 1 v]}).objs.size],_,_,H,rfl,
  I1.kept (t':=tk) λb o e=>Heap.get?_push_of_some _ e,vt _ lo (hi-lo).toNat,?_,λb hb=>?_,q⟩
 ·have e1:lo+((0:Nat):Int)*1=lo:=by simp
  have e2:(((hi-lo).toNat:Nat):Int)-((0:Nat):Int)=Builtin.Range.rangeSize lo hi 1:=by rw[rangeSize_one];split<;>omega
  show IsRangeIter _ _ (lo+((0:Nat):Int)*1) ((((hi-lo).toNat:Nat):Int)-((0:Nat):Int)) 1;rw[e1,e2];exact Heap.get?_push_size _ rfl
 ·have e:b=(s.heap.push {cls:=.type "range",data:=.fields #[.int lo t,.int hi u,.int 1 v]}).objs.size:=by simpa using hb
  subst e;exact I1.oG (c_ _) (I1.bL.fresh (c_ _))
def Pn(ta:TA):TI:=λσ H R=>ta σ H λvs H1=>∃j:Int,vs=[.int j]/\-(2^62)<=j/\j<2^62/\R (Pj 0 j.toNat) H1
def Po(ta:TA):TI:=λσ H R=>ta σ H λvs H1=>∃i j:Int,vs=[.int i,.int j]/\(-(2^62)<=i/\i<2^62/\-(2^62)<=j/\j<2^62)/\R (Pj i (j-i).toNat) H1
def zS{a:Expr}{ta:TA}{p pos:Pos}(hg:Gl X "range")(hm:X.mg "range" = none)(ha:PA X [a] ta)(hs:starEach [a] X.env=[(false,eval a X.env)]:=by rfl):PI X tg (.Call (.Name "range" p) [a] [] pos) (Pn ta):=by
 intro ae s σ H R I h;refine Call_ (gb I hg hm boot_range (zL (bX (ha pos ae s σ H _ I h) λus s1 ⟨vs,H1,I1,r1,q1⟩=>?_) hs rfl));obtain⟨j,e,q1,q2,q⟩:=q1;subst e;cases r1 with
 |cons r rr=>
  cases rr;obtain⟨t,rfl⟩:=r;exact call_range_1 (sN I1 (by omega) (by omega) q1 q2 (by simpa using q))
def zT{a b:Expr}{ta:TA}{p pos:Pos}(hg:Gl X "range")(hm:X.mg "range" = none)(ha:PA X [a,b] ta)(hs:starEach [a,b] X.env=[(false,eval a X.env),(false,eval b X.env)]:=by rfl)(AY:starEach [b] X.env=[(false,eval b X.env)]:=by rfl) :
  PI X tg (.Call (.Name "range" p) [a,b] [] pos) (Po ta):=by
 intro ae s σ H R I h;refine Call_ (gb I hg hm boot_range (zL (bX (ha pos ae s σ H _ I h) λus s1 ⟨vs,H1,I1,r1,q1⟩=>?_) (by rw[hs,AY]) (by rw[AY];rfl)))
 obtain⟨i,j,e,⟨q1,q2,q3,q4⟩,q⟩:=q1;subst e;cases r1 with
 |cons r rr=>
  cases rr with
  |cons r' rr=>
   cases rr;obtain⟨t,rfl⟩:=r;obtain⟨t',rfl⟩:=r';exact call_range_2 (sN I1 q1 q2 q3 q4 q)
def Vl(wi:TI)(g:TG)(tb:TS):TS:=λD σ H=>wi σ H λJ H1=>∃W:Nat->Nat->St->Hp->Prop,(∃m,W 0 m σ H1)/\∀i m σ H,W i m σ H ->
 (J.stop i H/\D.nx σ H)\/(J.go i H/\∃N:St->Hp->Prop,(∀σ' H',N σ' H'->∃m',m'<m/\W (i+1) m' σ' H')/\∀x H',J.yld i H x H'->g x σ H' λσ2 H2=>tb {D with nx:=N,ct:=N,bk:=D.nx} σ2 H2)
def lZ(fp:BM)(h:Heap):dJ:=fp.filterMap λb=>(h.get? b).map λo=>(b,o)
def gF{fp:BM}{h:Heap}{b:Addr}{o:Obj}(hb:b∈fp)(e:h.get? b=some o):(b,o)∈lZ fp h:=Bp.mpr ⟨b,hb,by rw[e];rfl⟩
def zU{fp:BM}{h:Heap}{p:Addr×Obj}(hp:p∈lZ fp h):p.1∈fp/\h.get? p.1=some p.2:=by
 obtain⟨b,hb,e⟩:=Bp.mp hp;cases q:h.get? b with
 |none=>rw[q]at e;cases e
 |some o=>
  rw[q]at e;have e':(b,o)=p:=kg.inj e;subst e';exact⟨hb,q⟩
def Inv.pinned{ae:dJ}{σ:St}{H:Hp}{s:Shared}{fp:BM}(I:Inv X ae σ H s)(hf:∀b∈fp,lX X ae H b)(ho:∀b∈fp,∃o,s.heap.get? b=some o/\∀v,o.data≠.cell v):Inv X (ae++lZ fp s.heap) σ H s:=
 I.xD λp hp=>(k7.mp hp).elim (λz=>I.pin p (oq _ z)) λz=>by
  obtain⟨hb,e⟩:=zU z;obtain⟨f0,f1,f2,_⟩:=hf p.1 hb;obtain⟨o,e',d⟩:=ho p.1 hb;rw[e]at e';cases e';exact⟨e,f0,f1,f2,d⟩
def Inv.jE{ae pl:dJ}{σ:St}{H:Hp}{s:Shared}(I:Inv X (ae++pl) σ H s):Inv X ae σ H s:=I.xD λp hp=>I.pin p (oq _ (IE _ hp))
def Lh{iter:Expr}{body:Ee}{wi:TI}{g:TG}{tb:TS}{pos:Pos}(hp:PassesOwn (model X.prog X.w) X.A X.env X.xe)(hc:X.calm=true)(hi:PI X tg iter wi)(hg:PG X tg g)(hb:jB X body tb)
  (hs:∀x,foldedSetIterable iter X.env x=pure x:=by intro _;rfl):PS X (.For tg iter body [] pos) (Vl wi g tb):=by
 intro ae s σ H D I h;refine wpAny_For (bX (hi ae s σ H _ I h) λv s1 h1=>bX h1 λVi s2 h2=>?_) hs;obtain⟨it,fp,tn,J,H2,e,I2,T,Pp,f2,W,⟨m0,w0⟩,turn⟩:=h2;subst e;have vv:∀{H':Hp},(∀b∈fp,H' b=none)->∀b∈fp,lX X ae H' b:=λhn b hb=>⟨hn b hb,(f2 b hb).2⟩;refine codeAny_forLoop_any (λn s'=>∃i σ' H',Inv X ae σ' H' s'/\tn i s'.heap/\(∀b∈fp,H' b=none)/\W i n σ' H') ?_ m0 ⟨0,σ,H2,I2,Pp,λb hb=>(f2 b hb).1,w0⟩
 rintro n s3 ⟨i,σ3,H3,I3,st3,fr3,w3⟩
 rcases turn i n σ3 H3 w3 with⟨stop,qn⟩|⟨go,N,hN,step⟩
 ·refine wpAny_passesOwn hp (bX (T.done X rfl rfl rfl hc i ae s3 σ3 H3 X.xe I3 (vv fr3) st3 stop) λr s4 zz=>?_)
  obtain⟨hr,I4⟩:=zz;subst hr;exact wpAny_execs_nil ⟨σ3,H3,I4,qn⟩
 ·refine wpAny_passesOwn hp (bX (T.item X rfl rfl rfl hc i ae s3 σ3 H3 X.xe I3 (vv fr3) st3 go) λr s4 zz=>?_)
  obtain⟨u,hr,h4⟩:=zz;subst hr;refine wpAny_passesOwn hp (bX h4 λ_ s5 zz=>?_);obtain⟨x,H5,I5,r5,y5,Ff,Ul⟩:=zz;have Zx:=I5.pinned (vv Ul) (T.obj _ _ Ff);refine wpAny_passesOwn hp (bX (hg _ s5 σ3 H5 x u _ Zx r5 (step x H5 y5)) λ_ s6 zz=>?_);obtain⟨σ6,H6,I6,q6⟩:=zz;refine wpAny_passesOwn hp (bX (hb _ s6 σ6 H6 _ I6 q6) λf s7 q7=>?_);have again:∀{σ7:St}{H7:Hp},Inv X (ae++lZ fp s5.heap) σ7 H7 s7->N σ7 H7->∃m,m<n/\∃i σ' H',Inv X ae σ' H' s7/\tn i s7.heap/\(∀b∈fp,H' b=none)/\W i m σ' H':=λ{σ7 H7} I7 n7=>by
   obtain⟨m',hm,w7⟩:=hN σ7 H7 n7;refine⟨m',hm,i+1,σ7,H7,I7.jE,T.keep _ _ _ Ff λb hb o e=>(I7.pin (b,o) (oq _ (oq _ (gF hb e)))).1,λb hb=>?_,w7⟩;obtain⟨o,e,d⟩:=T.obj _ _ Ff b hb;exact(I7.pin (b,o) (oq _ (oq _ (gF hb e)))).2.1
  cases f with
  |next=>obtain⟨σ7,H7,I7,n7⟩:=q7;exact again I7 n7
  |cont=>obtain⟨σ7,H7,I7,n7⟩:=q7;exact again I7 n7
  |brk=>obtain⟨σ7,H7,I7,q7⟩:=q7;exact⟨σ7,H7,I7.jE,q7⟩
  |ret v=>obtain⟨x7,σ7,H7,I7,r7,q7⟩:=q7;exact⟨x7,σ7,H7,I7.jE,r7,q7⟩
end
abbrev R2:=V->V->Hp->VK->Prop
def gc(X:Cx)(f:Value->Value->Sem Value)(r:R2):Prop:=
 ∀(ae:dJ)(s:Shared)(σ:St)(H:Hp)(x y:V)(v u:Value)(Q:VK),Inv X ae σ H s->RelV x v->RelV y u->r x y H Q ->
  wpAny (model X.prog X.w) X.A (f v u) (EP X ae σ Q) X.xe s
def Vm(X:Cx)(f:Value->Sem Value)(r:V->Hp->VK->Prop):Prop:=
 ∀(ae:dJ)(s:Shared)(σ:St)(H:Hp)(x:V)(v:Value)(Q:VK),Inv X ae σ H s->RelV x v->r x H Q ->
  wpAny (model X.prog X.w) X.A (f v) (EP X ae σ Q) X.xe s
def eX(X:Cx)(f:Value)(r:List V->Hp->VK->Prop):Prop:=
 ∀(ae:dJ)(s:Shared)(σ:St)(H:Hp)(xs:List V)(us:B2)(Q:VK),Inv X ae σ H s->Vals xs us->r xs H Q ->
  wpAny (model X.prog X.w) X.A (call f us) (EP X ae σ Q) X.xe s
def Vn(X:Cx)(r:V->Hp->(Bool->Hp->Prop)->Prop):Prop:=
 ∀(ae:dJ)(s:Shared)(σ:St)(H:Hp)(x:V)(v:Value)(Q:Bool->Hp->Prop),Inv X ae σ H s->RelV x v->r x H Q ->
  wpAny (model X.prog X.w) X.A (truthy v) (TP X ae σ Q) X.xe s
def OD(r:R2)(ta tb:TE):TE:=λσ H Q=>ta σ H λx H1=>tb σ H1 λy H2=>r x y H2 Q
def XQ(r:V->Hp->VK->Prop)(ta:TE):TE:=λσ H Q=>ta σ H λx H1=>r x H1 Q
def rI(C:Int->Int->Prop)(g:Int->Int->V):R2:=λx y H Q=>∃i j,x=.int i/\y=.int j/\C i j/\Q (g i j) H
def AZ(g:Int->Int->V):R2:=λx y H Q=>∃i j,x=.int i/\y=.int j/\Q (g i j) H
def rU(g:Int->V):V->Hp->VK->Prop:=λx H Q=>∃i,x=.int i/\Q (g i) H
section
variable{X:Cx}{a c:Expr}{ta tb tc:TE}
def Li(ha:PE X a ta)(hb:PE X b tb){ae:dJ}{s:Shared}{σ:St}{H:Hp}{R:V->V->Hp->Prop}(I:Inv X ae σ H s)
  (h:ta σ H λx H1=>tb σ H1 λy H2=>R x y H2) {Q:Value->Shared->Prop} {f:Value->Value->Sem Value}
  (hf:∀v u s2 x y H2,Inv X ae σ H2 s2->RelV x v->RelV y u->R x y H2->wpAny (model X.prog X.w) X.A (f v u) Q X.xe s2) :
  wpAny (model X.prog X.w) X.A (eval a X.env) (λv s₁=>wpAny (model X.prog X.w) X.A (eval b X.env) (λu s₂=>wpAny (model X.prog X.w) X.A (f v u) Q X.xe s₂) X.xe s₁) X.xe s:=by
 refine bX (ha ae s σ H _ I h) λv s1 zz=>?_;obtain⟨x,H1,I1,r1,q1⟩:=zz;refine bX (hb ae s1 σ H1 _ I1 q1) λu s2 zz=>?_;obtain⟨y,H2,I2,r2,q2⟩:=zz;exact hf v u s2 x y H2 I2 r1 r2 q2
def l_{op:Operator}{r:R2}(ho:gc X (binaryOp op) r)(ha:PE X a ta)(hb:PE X b tb):PE X (.BinOp a op b pos) (OD r ta tb):=by
 intro ae s σ H Q I h;exact wpAny_BinOp (Li ha hb I h λv u s2 x y H2 I2 rx ry q=>ho ae s2 σ H2 x y v u Q I2 rx ry q)
def Pq{op:UnaryOp}{r:V->Hp->VK->Prop}(ho:Vm X (unaryOp op) r)(ha:PE X a ta):PE X (.UnaryOp op a pos) (XQ r ta):=by
 intro ae s σ H Q I h;exact UnaryOp_ (bX (ha ae s σ H _ I h) λv s1 ⟨x,H1,I1,r1,q1⟩=>ho ae s1 σ H1 x v Q I1 r1 q1)
def Um{f:Value->Value->Sem Value}{C:Int->Int->Prop}{g:Int->Int->Int}
  (rule:∀(i j:Int)(t u:Tok)(s:Shared)(Q:Value->Shared->Prop)(E:Value->Shared->Prop),C i j->Q (.int (g i j) s.toks) {s with toks:=s.toks+1}->wpAny (model X.prog X.w) X.A (f (.int i t) (.int j u)) Q E s) :
  gc X f (rI C λi j=>.int (g i j)):=by
 intro ae s σ H x y v u Q I rx ry h;obtain⟨i,j,rfl,rfl,hc,q⟩:=h;obtain⟨t,rfl⟩:=rx;obtain⟨t',rfl⟩:=ry;exact rule i j t t' s _ _ hc ⟨.int (g i j),H,I.tok _,⟨_,rfl⟩,q⟩
def Pu{f:Value->Value->Sem Value}{g:Int->Int->Int}
  (rule:∀(i j:Int)(t u:Tok)(s:Shared)(Q:Value->Shared->Prop)(E:Value->Shared->Prop),Q (.int (g i j) s.toks) {s with toks:=s.toks+1}->wpAny (model X.prog X.w) X.A (f (.int i t) (.int j u)) Q E s) :
  gc X f (AZ λi j=>.int (g i j)):=by
 intro ae s σ H x y v u Q I rx ry h;obtain⟨i,j,rfl,rfl,q⟩:=h;obtain⟨t,rfl⟩:=rx;obtain⟨t',rfl⟩:=ry;exact rule i j t t' s _ _ ⟨.int (g i j),H,I.tok _,⟨_,rfl⟩,q⟩
def Fg{f:Value->Value->Sem Value}{g:Int->Int->Bool}
  (rule:∀(i j:Int)(t u:Tok)(s:Shared)(Q:Value->Shared->Prop)(E:Value->Shared->Prop),Q (.bool (g i j)) s->wpAny (model X.prog X.w) X.A (f (.int i t) (.int j u)) Q E s) :
  gc X f (AZ λi j=>.bl (g i j)):=by
 intro ae s σ H x y v u Q I rx ry h;obtain⟨i,j,rfl,rfl,q⟩:=h;obtain⟨t,rfl⟩:=rx;obtain⟨t',rfl⟩:=ry;exact rule i j t t' s _ _ ⟨.bl (g i j),H,I,rfl,q⟩
def Pw(i j:Int):Prop:=0<j/\j<1073741824
def Px(i j:Int):Prop:=0<=j/\j<=1000000/\i.natAbs<2^64
def Lj(i j:Int):Prop:=(-(2^64)<i/\i<2^64)\/(-(2^64)<j/\j<2^64)
def Lj.ok{i j:Int}(h:Lj i j):IntMulOk i j:=by
 rcases h with⟨h1,h2⟩|⟨h1,h2⟩
 ·exact .of_left (intBits_le_64 h1 h2)
 ·exact .of_right (intBits_le_64 h1 h2)
def Ll:gc X (binaryOp .Add) (AZ λi j=>.int (i+j)):=Pu λ_ _ _ _ _ _ _ q=>add_int q
def Lm:gc X (binaryOp .Sub) (AZ λi j=>.int (i-j)):=Pu λ_ _ _ _ _ _ _ q=>sub_int q
def Fi:gc X (binaryOp .FloorDiv) (rI Pw λi j=>.int (i/j)):=Um λi j _ _ _ _ _ hc q=>by
 have h1:(0:Int)<j:=hc.1;have h2:j<1073741824:=hc.2;exact floordiv_int (by omega) (by rw[Int.fdiv_eq_ediv_of_nonneg i (by omega)];exact q) (.inl (PyProof.noPylong_small (by omega)))
def Ln:gc X (binaryOp .Mod) (rI (λ_ j=>0<j) λi j=>.int (i % j)):=Um λi j _ _ _ _ _ hc q=>by
 have h1:(0:Int)<j:=hc;exact mod_int' (by omega) (by rw[Int.fmod_eq_emod_of_nonneg i (by omega)];exact q)
def Lo:gc X (binaryOp .Pow) (rI Px λi j=>.int (i^j.toNat)):=Um λ_ _ _ _ _ _ _ hc q=>pow_int_small hc.1 hc.2.1 hc.2.2 q
def Zy{f:Value->Sem Value}{g:Int->Int}
  (rule:∀(i:Int)(t:Tok)(s:Shared)(Q:Value->Shared->Prop)(E:Value->Shared->Prop),Q (.int (g i) s.toks) {s with toks:=s.toks+1}->wpAny (model X.prog X.w) X.A (f (.int i t)) Q E s) :
  Vm X f (rU λi=>.int (g i)):=by
 intro ae s σ H x v Q I rx h;obtain⟨i,rfl,q⟩:=h;obtain⟨t,rfl⟩:=rx;exact rule i t s _ _ ⟨.int (g i),H,I.tok _,⟨_,rfl⟩,q⟩
def Lp:Vm X (unaryOp .USub) (rU λi=>.int (-i)):=Zy λ_ _ _ _ _ q=>neg_int q
end
section
variable{X:Cx}{a c:Expr}{ta tb tc:TE}
def ir{ae:dJ}{σ:St}{H:Hp}{s:Shared}{Q:VK}{k k':Bool}(I:Inv X ae σ H s)(q:Q (.bl k) H)(e:k=k'):EP X ae σ Q (.bool k') s:=by
 subst e;exact⟨.bl k,H,I,rfl,q⟩
def Py:gc X (compareOp .Lt) (AZ λi j=>.bl (decide (i<j))):=Fg λ_ _ _ _ _ _ _ q=>lt_int q
def Pz:gc X (compareOp .LtE) (AZ λi j=>.bl (decide (i<=j))):=Fg λ_ _ _ _ _ _ _ q=>le_int q
def PB:gc X (compareOp .Gt) (AZ λi j=>.bl (decide (j<i))):=Fg λ_ _ _ _ _ _ _ q=>gt_int q
def PD:gc X (compareOp .GtE) (AZ λi j=>.bl (decide (j<=i))):=Fg λ_ _ _ _ _ _ _ q=>ge_int q
def zV:gc X (compareOp .In) (λx y H Q=>∃i j,x=.str i/\y=.str j/\Q (.bl (!(Builtin.Str.occurrences j i 0 j.length 1).isEmpty)) H):=by
 intro ae s σ H x y v u Q I rx ry h;obtain⟨i,j,rfl,rfl,q⟩:=h;obtain⟨t,rfl⟩:=rx;obtain⟨t',rfl⟩:=ry;exact in_str (ir I q rfl)
def Lq:gc X (compareOp .Is) (λx y H Q=>y=.non/\Q (.bl (decide (x=.non))) H):=by
 intro ae s σ H x y v u Q I rx ry h;obtain⟨rfl,q⟩:=h;cases ry;refine is_none_gen (ir I q ?_);cases x<;>first
  |(cases rx;rfl)
  |(obtain⟨t,rfl⟩:=rx;rfl)
def Fj:gc X (compareOp .IsNot) (λx y H Q=>y=.non/\Q (.bl (!decide (x=.non))) H):=by
 intro ae s σ H x y v u Q I rx ry h;obtain⟨rfl,q⟩:=h;cases ry;refine isnot_none_gen (ir I q ?_);cases x<;>first
  |(cases rx;rfl)
  |(obtain⟨t,rfl⟩:=rx;rfl)
def qD:gc X (compareOp .NotIn) (λx y H Q=>∃i j,x=.str i/\y=.str j/\Q (.bl (!(!(Builtin.Str.occurrences j i 0 j.length 1).isEmpty))) H):=by
 intro ae s σ H x y v u Q I rx ry h;obtain⟨i,j,rfl,rfl,q⟩:=h;obtain⟨t,rfl⟩:=rx;obtain⟨t',rfl⟩:=ry;exact notIn_str (ir I q rfl)
def gc.or{f:Value->Value->Sem Value}{r r':R2}(h:gc X f r)(h':gc X f r'):gc X f (λx y H Q=>r x y H Q\/r' x y H Q):=by
 intro ae s σ H x y v u Q I rx ry q;rcases q with q|q
 ·exact h ae s σ H x y v u Q I rx ry q
 ·exact h' ae s σ H x y v u Q I rx ry q
def xK{op:CmpOp}{r:R2}(ho:gc X (compareOp op) r)(ha:PE X a ta)(hb:PE X b tb)(hm:behindInMarks op b=false):PE X (.Compare a [op] [b] pos) (OD r ta tb):=by
 intro ae s σ H Q I h;exact wpAny_Compare1 (Li ha hb I h λv u s2 x y H2 I2 rx ry q=>ho ae s2 σ H2 x y v u Q I2 rx ry q) hm
def PF(t:TE):TT:=λσ H Q=>t σ H λx H'=>∃k,x=.bl k/\Q k H'
def xM{op:CmpOp}{r:R2}(ho:gc X (compareOp op) r)(ha:PE X a ta)(hb:PE X b tb)(hm:behindInMarks op b=false):PT X (.Compare a [op] [b] pos) (PF (OD r ta tb)):=by
 intro ae s σ H Q I h;refine wpAny_isTrue_Compare1 (bX (ha ae s σ H _ I h) λv s1 ⟨x,H1,I1,r1,q1⟩=>bX (hb ae s1 σ H1 _ I1 q1) λu s2 ⟨y,H2,I2,r2,q2⟩=>
  bX (ho ae s2 σ H2 x y v u _ I2 r1 r2 q2) λc s3 ⟨z,H3,I3,r3,k,e,q3⟩=>?_) hm
 subst e;cases r3;exact wpAny_truthy_bool ⟨H3,I3,q3⟩
def Lr(K:bz)(x:V)(H:Hp)(k:Bool):Prop:=
 match x with
 |.non=>k=false
 |.bl b=>k=b
 |.int i=>k=(i != 0)
 |.str y=>y.length<=sizeLine/\k=((y.length:Int) != 0)
 |.byt y=>y.size<=sizeLine/\k=((y.size:Int) != 0)
 |.ref p=>(∃xs,cV K H p xs/\k=!xs.isEmpty)\/(∃xs,lh K H p xs/\k=!xs.isEmpty)\/∃aS,H p=some (.dK aS)/\k=!aS.isEmpty
 |_=>False
def vz{κ:Type}{aS:List (κ×V)}{vs:List (κ×Value)}(r:KV aS vs):(!vs.isEmpty)=!aS.isEmpty:=by
 cases r<;>rfl
def mf{xs:List V}{its:B2}(r:Vals xs its):(!its.toArray.isEmpty)=!xs.isEmpty:=by
 cases r<;>simp
def kh:(sizeLine:Nat)<2^63:=by rw[sizeLine_eq];decide
def Ls:Vn X (λx H Q=>∃k,Lr X.K x H k/\Q k H):=by
 intro ae s σ H x v Q I rx h;obtain⟨k,e,q⟩:=h;have hl:=kh;have hs:sizeLine=16777216:=sizeLine_eq;cases x with
 |non=>
  cases rx;have e':k=false:=e;subst e';exact truthy_none ⟨H,I,q⟩
 |bl b=>
  cases rx;have e':k=b:=e;subst e';exact wpAny_truthy_bool ⟨H,I,q⟩
 |int i=>
  obtain⟨t,rfl⟩:=rx;have e':k=(i != 0):=e;subst e';exact PySem.P.truthy_int ⟨H,I,q⟩
 |str y=>
  obtain⟨t,rfl⟩:=rx;obtain⟨hy,e'⟩:y.length<=sizeLine/\k=((y.length:Int) != 0):=e;subst e';exact PySem.P.truthy_str (by omega) ⟨H,I.tok _,q⟩
 |byt y=>
  obtain⟨t,rfl⟩:=rx;obtain⟨hy,e'⟩:y.size<=sizeLine/\k=((y.size:Int) != 0):=e;subst e';exact PySem.W.truthy_bytes (by omega) ⟨H,I.tok _,q⟩
 |ref p=>
  cases rx;have e':(∃xs,cV X.K H p xs/\k=!xs.isEmpty)\/(∃xs,lh X.K H p xs/\k=!xs.isEmpty)\/∃aS,H p=some (.dK aS)/\k=!aS.isEmpty:=e;rcases e' with⟨xs,hx,e'⟩|⟨xs,hx,e'⟩|⟨aS,hx,e'⟩
  ·subst e'
   obtain⟨its,r,pl,hz⟩:=I.list hx;have bZ:=r.length;exact wpAny_truthy_list pl.isList (by simp only[ck];omega) ⟨H,I.tok _,by rw[mf r];exact q⟩
  ·subst e'
   obtain⟨its,r,pl,hz⟩:=I.tuple hx;have bZ:=r.length;exact truthy_tuple pl (by simp only[ck];omega) ⟨H,I.tok _,by rw[mf r];exact q⟩
  ·subst e'
   obtain⟨hz,hS,vs,r,m⟩:aS.length<=sizeLine/\(p == sysModules)=false/\∃vs,KV aS vs/\s.heap.DictOf (bQ X.prog X.w) p vs:=I.bL p _ hx;have bZ:aS.length=vs.length:=Paired.length r;exact wpAny_truthy_dict hS m (by omega) ⟨H,I.tok _,by rw[vz r];exact q⟩
 |_=>exact(show False from e).elim
def Cc(ha:PE X a ta)(he:∀gT,isTrue a X.env gT=(do let v <- gT;standAt a.pos;holding [v] (truthy v))) :
  PT X a (λσ H Q=>ta σ H λx H'=>∃k,Lr X.K x H' k/\Q k H'):=by
 intro ae s σ H Q I h;exact isTrue_plain (bX (ha ae s σ H _ I h) λv s1 ⟨x,H1,I1,r1,q1⟩=>Ls ae s1 σ H1 x v Q I1 r1 q1) (he _)
def vA:gc X (binaryOp .Add) (λx y H Q=>∃i j,x=.str i/\y=.str j/\i.length+j.length<=sizeLine/\Q (.str (i++j)) H):=by
 intro ae s σ H x y v u Q I rx ry h;obtain⟨i,j,rfl,rfl,hz,q⟩:=h;obtain⟨t,rfl⟩:=rx;obtain⟨t',rfl⟩:=ry;exact add_str (λt' tk=>⟨.str (i++j),H,I.tok _,⟨_,rfl⟩,q⟩) hz
def vals1{x:V}{us:B2}(r:Vals [x] us):∃u,us=[u]/\RelV x u:=by
 cases r with
 |cons r1 r2=>cases r2;exact⟨_,rfl,r1⟩
def vals2{x y:V}{us:B2}(r:Vals [x,y] us):∃u w',us=[u,w']/\RelV x u/\RelV y w':=by
 cases r with
 |cons r1 r2=>
  cases r2 with
  |cons r3 r4=>cases r4;exact⟨_,_,rfl,r1,r3⟩
def zW(hc:X.calm=true):eX X (.builtin "max") (λxs H Q=>∃i j,xs=[.int i,.int j]/\Q (.int (if j > i then j else i)) H):=by
 intro ae s σ H xs us Q I r h;obtain⟨i,j,rfl,q⟩:=h;obtain⟨u,w',rfl,⟨t,rfl⟩,⟨t',rfl⟩⟩:=vals2 r;refine max_two_ints (I.ok.hd hc) λh' tk k=>⟨_,H,I.kept k,?_,q⟩;by_cases hj:j > i
 ·rw[if_pos hj,if_pos hj];exact⟨_,rfl⟩
 ·rw[if_neg hj,if_neg hj];exact⟨_,rfl⟩
def zX(hc:X.calm=true):eX X (.builtin "min") (λxs H Q=>∃i j,xs=[.int i,.int j]/\Q (.int (if j<i then j else i)) H):=by
 intro ae s σ H xs us Q I r h;obtain⟨i,j,rfl,q⟩:=h;obtain⟨u,w',rfl,⟨t,rfl⟩,⟨t',rfl⟩⟩:=vals2 r;refine min_two_ints (I.ok.hd hc) λh' tk k=>⟨_,H,I.kept k,?_,q⟩;by_cases hj:j<i
 ·rw[if_pos hj,if_pos hj];exact⟨_,rfl⟩
 ·rw[if_neg hj,if_neg hj];exact⟨_,rfl⟩
def qE:eX X (.type "str") (λxs H Q=>∃i,xs=[.int i]/\i.natAbs.log2<1920/\Q (.str (toString i)) H):=by
 intro ae s σ H xs us Q I r h;obtain⟨i,rfl,hz,q⟩:=h;obtain⟨u,rfl,t,rfl⟩:=vals1 r;exact PySem.P.str_of_int hz ⟨.str _,H,I.tok _,⟨_,rfl⟩,q⟩
def PH(K:bz)(x:V)(H:Hp)(n:Nat):Prop:=
 match x with
 |.str y=>y.length<=sizeLine/\n=y.length
 |.byt y=>y.size<=sizeLine/\n=y.size
 |.ref p=>(∃xs,cV K H p xs/\n=xs.length)\/∃xs,lh K H p xs/\n=xs.length
 |_=>False
def mh:eX X (.builtin "len") (λxs H Q=>∃x n,xs=[x]/\PH X.K x H n/\Q (.int n) H):=by
 intro ae s σ H xs us Q I r h;obtain⟨x,n,rfl,e,q⟩:=h;obtain⟨u,rfl,rx⟩:=vals1 r;have hl:=kh;have hs:sizeLine=16777216:=sizeLine_eq;cases x with
 |str y=>
  obtain⟨t,rfl⟩:=rx;obtain⟨hy,e'⟩:y.length<=sizeLine/\n=y.length:=e;subst e';exact len_str (by omega) ⟨.int _,H,I.tok _,⟨_,rfl⟩,q⟩
 |byt y=>
  obtain⟨t,rfl⟩:=rx;obtain⟨hy,e'⟩:y.size<=sizeLine/\n=y.size:=e;subst e';exact PySem.W.len_bytes (by omega) ⟨.int _,H,I.tok _,⟨_,rfl⟩,q⟩
 |ref p=>
  cases rx;have e':(∃xs,cV X.K H p xs/\n=xs.length)\/∃xs,lh X.K H p xs/\n=xs.length:=e;rcases e' with⟨xs,hx,e'⟩|⟨xs,hx,e'⟩
  ·subst e'
   obtain⟨its,r',pl,hz⟩:=I.list hx;have bZ:=r'.length;exact Calls.call_len_list pl.isList (by simp only[ck];omega) ⟨.int xs.length,H,I.tok _,⟨_,by simp only[ck];rw[bZ]⟩,q⟩
  ·subst e'
   obtain⟨its,r',pl,hz⟩:=I.tuple hx;have bZ:=r'.length;exact len_tuple pl (by simp only[ck];omega) ⟨.int xs.length,H,I.tok _,⟨_,by simp only[ck];rw[bZ]⟩,q⟩
 |_=>exact(show False from e).elim
end
structure vB(h:Heap)(x dx C:Addr)(mA:Str->D1):Prop where
 obj:h.get? x=some (r_ C dx)
 ns:h.Ns1 dx mA
 ne:dx≠x
def zY{h:Heap}{dx:Addr}{mA:Str->D1}(n:h.Ns1 dx mA):∃od,h.get? dx=some od/\∀name,wU name od=some (mA name):=by
 obtain⟨o,es,ep,ho,hd,hk,_,hm⟩:=n;refine⟨o,ho,λname=>?_⟩;have e:=hm name;unfold nsFind findBy at e;rw[<- Array.find?_toList]at e;unfold wU;rw[hd];dsimp only;split
 ·rename_i y q
  rw[q]at e;exact congrArg some e
 ·rename_i q
  rw[q]at e;have a:es.toList.any (·.refKey)=false:=by
   rw[List.any_eq_false];intro y hy;obtain⟨z,t,Vo⟩:=hk y (Array.mem_toList_iff.mp hy);simp[DictEntry.refKey,Vo]
  have a':¬ es.toList.any (·.refKey)=true:=by rw[a];exact dP
  rw[if_neg a'];exact congrArg some e
def vB.look{h:Heap}{x dx C:Addr}{mA:Str->D1}(I:vB h x dx C mA):∃od,PySem.W.InstAt h x (r_ C dx) C (some od)/\∀name,wU name od=some (mA name):=
 let⟨od,ho,hl⟩:=zY I.ns
 ⟨od,⟨I.obj,rfl,rfl,ho⟩,hl⟩
section
variable{prog:Program}{K:bz}{mA:Str->D1}{name:Str}{v:Value}
def get_map{expr:Bool}{Q:Value->Shared->Prop}(X:K.In s.heap)(I:vB s.heap x dx C mA)(hg:A7 K C name=true)(hh:wV K C=true)
  (ha:gn K (.ref C) name=some none) (hv:mA name=some v) (Vp:Iu v=true) (h:Q v {s with toks:=s.toks+1}) :
  wpAny (model prog w) A (getAttr (.ref x) name expr) Q E s:=by
 obtain⟨od,J,hl⟩:=I.look;exact PySem.W.get_value X J (Ba hg).1 (PySem.W.findObj_own hh ha rfl (by rw[hl,hv])) Vp h
def Cd{pl:Sem Bool}{Q:Value×B2->Shared->Prop}(X:K.In s.heap)(I:vB s.heap x dx C mA)(hg:A7 K C name=true)
  (hf:gn K (.ref C) name=some (some (.ref f))) (ht:A8 K (.ref f)=true) (hv:mA name=none) (h:Q (.ref f,[.ref x]) s) :
  wpAny (model prog w) A (getMethod (.ref x) name pl) Q E s:=by
 obtain⟨od,J,hl⟩:=I.look;exact PySem.W.method_fn X J (Ba hg).1 (Ba hg).2 hf (beq_iff_eq.mp ht) (by show(wU name od).map (·.isSome)=some false;rw[hl,hv];rfl) h
def Fl{ns:Bi}{Q:Unit->Shared->Prop}(X:K.In s.heap)(I:vB s.heap x dx C mA)
  (hs:gn K (.ref C) "__setattr__" = some (some (.builtin "object.__setattr__"))) (hp:Bb K C=true) (ht:Bc K C name=some none) (hh:wV K C=true)
  (hw:PySem.Within mA ns) (hsz:ns.length<=sizeLine)
  (h:∀h',vB h' x dx C (λy=>if y=name then some v else mA y)->Heap.SameBut dx s.heap h'->Q () {s with heap:=h',toks:=s.toks+2}) :
  wpAny (model prog w) A (setAttr (.ref x) name v) Q E s:=by
 obtain⟨od,J,hl⟩:=I.look;refine PySem.W.set_plain X J hs (PySem.W.osa_open (s:={s with toks:=s.toks+1}) (r:=none) X J hp ht λb=>?_)
 obtain⟨cd,hc,U6⟩:=PySem.W.any_some hh;have hx:s.heap.get? x=some ⟨.ref C,some dx,.plain,#[]⟩:=I.obj;refine wpAny_bind (wpAny_pure (wpAny_bind (wpAny_bind (wpAny_loadPart hx (wpAny_bind (PySem.W.Looks.here (s:={s with toks:=s.toks+1}) (PySem.W.looks_clsIn X hc) ?_))))))
 rw[U6];refine wpAny_pure (a:=some dx) (wpAny_bind (wpAny_pure (wpAny_bind ?_)));refine wpAny_nsSet1 (s:={s with toks:=s.toks+1}) I.ns λh' Uo AY=>?_
 obtain⟨oD,esD,epD,Zz,ZA,ZC⟩:=Uo.count (PySem.Within.cons name v hw);refine wpAny_bind (wpAny_lookBehind Zz (by rw[ZA];exact pastItsLine_dict (gx ZC (by rw[cU];omega))) ?_)
 exact wpAny_pure (h _ ⟨(AY.2 _ (Ne.symm I.ne)).trans I.obj,Uo,I.ne⟩ AY)
def Ce{R:Result->Shared->Prop}{vs:B2}{kw:List (Str×Value)}(X:K.In s.heap)(hm:A9 K C=true)
  (hi:gn K (.ref C) "__init__" = some (some (.ref f))) (hf:PySem.W.typeIn K (.ref f)=some (.type "function"))
  (h:codeAny (model prog w) (A.under (.builtin "type.__call__" ⟨.ref C::vs,kw⟩)) (.call (.ref f) ⟨.ref (s.heap.objs.size+1)::vs,kw⟩) (PySem.W.InitBack (s.heap.objs.size+1) R)
   {s with heap:=(s.heap.push qm).push (r_ C s.heap.objs.size)}) :
  codeAny (model prog w) A (.call (.ref C) ⟨vs,kw⟩) R s:=by
 obtain⟨hh,g,d,t,os⟩:=s;exact PySem.W.make_core (PySem.W.makes_of X hm) (PySem.W.looks_findIn X hi) (λself=>PySem.W.bind_fn X self hf) (.inl rfl) h
end
def cW(f:Str)(v:V):List (Str×V)->List (Str×V)
 |[]=>[(f,v)]
 |(g,x)::r=>if g=f then(g,v)::r else(g,x)::cW f v r
theorem kN(f g:Str)(v:V):∀fs:List (Str×V),(cW f v fs).lookup g=if g=f then some v else fs.lookup g
 |[]=>by
  show k8 g [(f,v)]=_;by_cases h:g=f
  ·have hb:(g == f)=true:=beq_iff_eq.mpr h
   simp only[k8,hb,if_pos h]
  ·have hb:(g == f)=false:=beq_eq_false_iff_ne.mpr h
   simp only[k8,hb,if_neg h]
 |(k,x)::r=>by
  have ih:=kN f g v r;rw[show cW f v ((k,x)::r)=(if k=f then(k,v)::r else(k,x)::cW f v r)from rfl]
  by_cases hk:k=f
  ·rw[if_pos hk]
   by_cases h:g=k
   ·have hb:(g == k)=true:=beq_iff_eq.mpr h
    simp only[k8,hb,if_pos (h.trans hk)]
   ·have hb:(g == k)=false:=beq_eq_false_iff_ne.mpr h
    simp only[k8,hb,if_neg (λe:g=f=>h (e.trans hk.symm))]
  ·rw[if_neg hk]
   by_cases h:g=k
   ·have hb:(g == k)=true:=beq_iff_eq.mpr h
    simp only[k8,hb,if_neg (λe:g=f=>hk (h.symm.trans e))]
   ·have hb:(g == k)=false:=beq_eq_false_iff_ne.mpr h
    simp only[k8,hb];exact ih
theorem ki(f:Str)(v:V):∀fs:List (Str×V),f∈(cW f v fs).map (·.1)/\∀g,g∈fs.map (·.1)->g∈(cW f v fs).map (·.1)
 |[]=>⟨by simp[cW],λg h=>by simp at h⟩
 |(k,x)::r=>by
  obtain⟨i1,i2⟩:=ki f v r;rw[show cW f v ((k,x)::r)=(if k=f then(k,v)::r else(k,x)::cW f v r)from rfl]
  by_cases hk:k=f
  ·rw[if_pos hk]
   subst hk;exact⟨by simp,λg h=>by simpa using h⟩
  ·rw[if_neg hk]
   refine⟨?_,λg h=>?_⟩
   ·rw[dO]
    exact dX _ i1
   ·rw[dO]at h ⊢
    rcases cA.mp h with e|e
    ·exact cA.mpr (.inl e)
    ·exact dX _ (i2 g e)
theorem kO(f:Str)(v:V):∀fs:List (Str×V),(cW f v fs).length<=fs.length+1
 |[]=>by simp[cW]
 |(k,x)::r=>by
  have ih:=kO f v r;rw[show cW f v ((k,x)::r)=(if k=f then(k,v)::r else(k,x)::cW f v r)from rfl]
  by_cases hk:k=f
  ·rw[if_pos hk,cU,cU];omega
  ·rw[if_neg hk,cU,cU];omega
def iS.some_of{v:V}{o:D1}(r:iS (some v) o):∃u,o=some u/\RelV v u:=by
 cases o with
 |none=>exact(show False from r).elim
 |some u=>exact⟨u,rfl,r⟩
def iS.none_of{o:D1}(r:iS none o):o=none:=by
 cases o with
 |none=>rfl
 |some u=>exact(show False from r).elim
def zZ{v:V}{u:Value}(r:RelV v u):Iu u=true:=by
 cases v with
 |non=>cases(show u=Value.none from r);rfl
 |bl b=>cases(show u=Value.bool b from r);rfl
 |int i=>obtain⟨t,e⟩:=(show ∃t,u=Value.int i t from r);cases e;rfl
 |str x=>obtain⟨t,e⟩:=(show ∃t,u=Value.str x t from r);cases e;rfl
 |byt b=>obtain⟨t,e⟩:=(show ∃t,u=Value.bytes b t from r);cases e;rfl
 |flt b=>obtain⟨t,e⟩:=(show ∃t,u=Value.float b t from r);cases e;rfl
 |ref a=>cases(show u=Value.ref a from r);rfl
 |ty n=>cases(show u=Value.type n from r);rfl
section
variable{fs pA:List (Str×V)}
def lH(bL:jq P w H h)(e:H a=some (.ins C dx fs)):∃mA,vB h a dx C mA/\(∀f,iS (fs.lookup f) (mA f))/\PySem.Within mA (fs.map (·.1))/\fs.length<=1000/\H dx=some (.own a):=by
 obtain⟨d,z,ne,ob,mA,n,r,q⟩:=(show cK P w H h a (.ins C dx fs)from bL a _ e);exact⟨mA,⟨ob,n,ne⟩,r,q,z,d⟩
end
structure pF(K:bz)(C:Addr):Prop where
 pg:A7 K C Str.empty=true
 hd:wV K C=true
 po:Bb K C=true
 sa:gn K (.ref C) "__setattr__" = some (some (.builtin "object.__setattr__"))
def pF.get{K:bz}{C:Addr}(c:pF K C)(f:Str):A7 K C f=true:=c.pg
def eA(K:bz)(C:Addr)(f:Str):Prop:=gn K (.ref C) f=some none
def eA.PJ{K:bz}{C:Addr}{f:Str}(n:eA K C f):Bc K C f=some none:=by
 unfold Bc;rw[show gn K (.ref C) f=some none from n];rfl
structure Meth(K:bz)(C:Addr)(m:Str)(f:Addr):Prop where
 at_:gn K (.ref C) m=some (some (.ref f))
 fn:A8 K (.ref f)=true
 kp:oj K (.ref f)=true
section
variable{X:Cx}{σ:St}{fs:List (Str×V)}{f:Str}{v:V}
def mi{b:Bool}{Q:Value->Shared->Prop}(I:Inv X ae σ H s)(e:H a=some (.ins C dx fs))(c:pF X.K C)(n:eA X.K C f)(l:fs.lookup f=some v)
  (h:∀u s',Inv X ae σ H s'->RelV v u->Q u s'):wpAny (model X.prog X.w) A (getAttr (.ref a) f b) Q E s:=by
 obtain⟨mA,O,r,_,_,_⟩:=lH I.bL e;obtain⟨u,hu,ru⟩:=iS.some_of (v:=v) (o:=mA f) (by rw[<- l];exact r f)
 exact get_map I.j6 O (c.get f) c.hd n hu (zZ ru) (h u _ (I.tok _) ru)
def mj{m:Str}{g:Addr}{pl:Sem Bool}{Q:Value×B2->Shared->Prop}(I:Inv X ae σ H s)(e:H a=some (.ins C dx fs))(c:pF X.K C)(k:Meth X.K C m g)(l:fs.lookup m=none)
  (h:Q (.ref g,[.ref a]) s):wpAny (model X.prog X.w) A (getMethod (.ref a) m pl) Q E s:=by
 obtain⟨mA,O,r,_,_,_⟩:=lH I.bL e;have hn:mA m=none:=iS.none_of (by rw[<- l];exact r m)
 exact Cd I.j6 O (c.get m) k.at_ k.fn hn h
def ml{y:V}{u:Value}{Q:Unit->Shared->Prop}(I:Inv X ae σ H s)(e:H a=some (.ins C dx fs))(c:pF X.K C)(n:eA X.K C f)(hl:fs.length<1000)(ry:RelV y u)
  (h:∀s',Inv X ae σ (upd H a (.ins C dx (cW f y fs))) s'->Q () s'):wpAny (model X.prog X.w) A (setAttr (.ref a) f u) Q E s:=by
 obtain⟨mA,O,r,wi,_,ho⟩:=lH I.bL e;have hz:(fs.map (·.1)).length<=sizeLine:=by rw[bK,sizeLine_eq];omega
 refine Fl I.j6 O c.sa c.po n.PJ c.hd wi hz λh' O' sb=>h _ ?_;have hd:∃o,h'.get? dx=some o:=let⟨o,_,_,e',_⟩:=O'.ns;⟨o,e'⟩;refine I.write (x:=a) (e:=dx) (by rw[e];exact True.intro) (.inr ho) (λb q hb z=>(sb.2 b hb).trans z) hd ?_
 refine⟨by rw[aq O.ne];exact ho,?_,O.ne,O'.obj,_,O'.ns,λg=>?_,λg hg=>?_⟩
 ·have:=kO f y fs;omega
 ·show iS ((cW f y fs).lookup g) (if g=f then some u else mA g)
  rw[kN];by_cases q:g=f
  ·rw[if_pos q,if_pos q];exact ry
  ·rw[if_neg q,if_neg q];exact r g
 ·by_cases q:g=f
  ·rw[q];exact(ki f y fs).1
  ·refine(ki f y fs).2 g (wi g λz=>hg ?_)
   show(if g=f then some u else mA g)=none
   rw[if_neg q];exact z
def Inv.made(I:Inv X ae σ H s):Inv X ae σ (upd (upd H s.heap.objs.size (.own (s.heap.objs.size+1))) (s.heap.objs.size+1) (.ins C s.heap.objs.size []))
  {s with heap:=(s.heap.push qm).push (r_ C s.heap.objs.size)}:=by
 have e1:(s.heap.push qm).get? s.heap.objs.size=some qm:=Heap.get?_push_size s.heap rfl;have e2:((s.heap.push qm).push (r_ C s.heap.objs.size)).get? (s.heap.objs.size+1)=some (r_ C s.heap.objs.size):=by
  have:=Heap.get?_push_size (s.heap.push qm) (o:=r_ C s.heap.objs.size) rfl
  rwa [Heap.size_push]at this
 have e3:(s.heap.push qm).Ns s.heap.objs.size (λ_=>none):=⟨qm,#[],_,e1,rfl,(λe he=>absurd he (by simp)),λ_=>rfl⟩
 have I1:=I.laid (a:=s.heap.objs.size) (o:=.own (s.heap.objs.size+1)) (h':=s.heap.push qm) (t':=s.toks) (λb u q=>Heap.get?_push_of_some _ q) (c_ _) ⟨_,e1⟩;refine I1.laid (a:=s.heap.objs.size+1) (o:=.ins C s.heap.objs.size []) (t':=s.toks) (λb u q=>Heap.get?_push_of_some _ q) (BI (Heap.size_push _ _)) ?_;have ne:s.heap.objs.size≠s.heap.objs.size+1:=eF (sC _);refine⟨by rw[aq ne,aj],jz _,ne,e2,λ_=>none,(Heap.Ns1.of_empty e3).at λo q=>Heap.get?_push_of_some _ q,λ_=>True.intro,λy hy=>absurd rfl hy⟩
def Fo{prog:Program}{w:World}{env:Env}{e:Expr}{f:Str}{pos:Pos}{s:Shared}{Q:Value->Shared->Prop}(hb:attributeBase e f env (eval e env)=eval e env)
  (h:wpAny (model prog w) A (eval e env) (λo s₁=>wpAny (model prog w) A (getAttr o f true) Q E s₁) E s):wpAny (model prog w) A (eval (.Attribute e f pos) env) Q E s:=
 Attribute_any_ h (by rw[arm_eval_Attribute,hb])
end
def Vq(K:bz)(ta:TE)(f:Str):TE:=λσ H Q=>ta σ H λx H1=>∃a C dx fs v,x=.ref a/\H1 a=some (.ins C dx fs)/\pF K C/\eA K C f/\fs.lookup f=some v/\Q v H1
def PK(K:bz)(ta tv:TE)(f:Str):TS:=λD σ H=>tv σ H λy H1=>ta σ H1 λx H2=>∃a C dx fs,x=.ref a/\H2 a=some (.ins C dx fs)/\pF K C/\eA K C f/\fs.length<1000 /\
 D.nx σ (upd H2 a (.ins C dx (cW f y fs)))
def PL(X:Cx)(op:Operator)(rd:V->V->Hp->VK->Prop):Prop:=
 ∀(ae:dJ)(s:Shared)(σ:St)(H:Hp)(x y:V)(u v:Value)(Q:VK),Inv X ae σ H s->RelV x u->RelV y v->rd x y H Q->wpAny (model X.prog X.w) X.A (inplaceOp op u v) (EP X ae σ Q) X.xe s
def Fp(K:bz)(ta tv:TE)(rd:V->V->Hp->VK->Prop)(f:Str):TS:=λD σ H=>ta σ H λx H1=>∃a C dx fs v,x=.ref a/\H1 a=some (.ins C dx fs)/\pF K C/\eA K C f/\fs.lookup f=some v /\
 tv σ H1 λy H2=>rd v y H2 λz H3=>∃Up pA,H3 a=some (.ins C Up pA)/\pA.length<1000/\D.nx σ (upd H3 a (.ins C Up (cW f z pA)))
section
variable{X:Cx}{value:Expr}{f:Str}{cy oH:Pos}{ta tv:TE}
def Cf(he:PE X e ta)(hb:attributeBase e f X.env (eval e X.env)=eval e X.env):PE X (.Attribute e f pos) (Vq X.K ta f):=by
 intro ae s σ H Q I h;refine Fo hb (bX (he ae s σ H _ I h) λu s1 zz=>?_);obtain⟨x,H1,I1,rx,a,C,dx,fs,v,ex,ea,c,n,l,q⟩:=zz;subst ex
 obtain rfl:u=Value.ref a:=rx
 exact mi I1 ea c n l λu' s2 I2 ru=>⟨v,H1,I2,ru,q⟩
def vC(ha:PE X o ta)(hv:PE X value tv)(hs:swapsWith value (some (.Attribute o f cy)) pos.line X.env=pure false):PS X (.Assign [.Attribute o f cy] value pos) (PK X.K ta tv f):=by
 intro ae s σ H D I h;refine plainObj_wpAny_Assign_Attribute (bX (hv ae s σ H _ I h) λu s1 ⟨y,H1,I1,ry,q⟩=>bX (ha ae s1 σ H1 _ I1 q) λov s2 ⟨x,H2,I2,rx,a,C,dx,fs,ex,ea,c,n,l,q2⟩=>?_) hs;subst ex
 obtain rfl:ov=Value.ref a:=rx
 exact ml I2 ea c n l ry λs3 I3=>⟨σ,_,I3,q2⟩
def z3{op:Operator}{rd:V->V->Hp->VK->Prop}(ha:PE X o ta)(hv:PE X value tv)(ZD:PL X op rd):PS X (.AugAssign (.Attribute o f oH) op value pos) (Fp X.K ta tv rd f):=by
 intro ae s σ H D I h;refine wpAny_AugAssign_AttributeAny (bX (ha ae s σ H _ I h) λov s1 zz=>?_);obtain⟨x,H1,I1,rx,a,C,dx,fs,v,ex,ea,c,n,l,q⟩:=zz;subst ex
 obtain rfl:ov=Value.ref a:=rx
 refine mi I1 ea c n l λu s2 I2 ru=>bX (hv ae s2 σ H1 _ I2 q) λw3 s3 ⟨y,H2,I3,ry,q3⟩=>bX (ZD ae s3 σ H2 v y u w3 _ I3 ru ry q3) λw4 s4 zz=>?_;obtain⟨z,H3,I4,rz,Up,pA,ZE,l',q4⟩:=zz;exact ml I4 ZE c n l' rz λs5 I5=>⟨σ,_,I5,q4⟩
def Vr:V->V->Hp->VK->Prop:=λx y H Q=>∃i j,x=.int i/\y=.int j/\Q (.int (i+j)) H
def Lu:PL X .Add Vr:=by
 rintro ae s σ H x y u v Q I rx ry ⟨i,j,rfl,rfl,q⟩
 obtain⟨t,rfl⟩:=(show ∃t,u=Value.int i t from rx);obtain⟨t',rfl⟩:=(show ∃t',v=Value.int j t' from ry);exact PyProof.Rows.iadd_int ⟨.int (i+j),H,I.tok _,⟨_,rfl⟩,q⟩
end
section
variable{X:Cx}{σ:St}{Q:Value->Shared->Prop}{c:Value}{b:Bool}
inductive iT(K:bz)(H:Hp):V->Value->Prop where
 |non:iT K H .non (.type "NoneType")
 |bl (x:Bool):iT K H (.bl x) (.type "bool")
 |int (i:Int):iT K H (.int i) (.type "int")
 |str (x:Str):iT K H (.str x) (.type "str")
 |flt (x:UInt64):iT K H (.flt x) (.type "float")
 |lst {a:Addr} {xs:List V} (e:H a=some (.lst xs)):iT K H (.ref a) (.type "list")
 |iL {a:Addr} {o:Obj} {xs:List V} (e:H a=some (.iL o (.lst xs))):iT K H (.ref a) (.type "list")
 |tup {a:Addr} {xs:List V} (e:lh K H a xs):iT K H (.ref a) (.type "tuple")
 |dK {a:Addr} {aS:List (Key×V)} (e:H a=some (.dK aS)):iT K H (.ref a) (.type "dict")
 |dT {a:Addr} {aS:List (List Key×V)} (e:H a=some (.dT aS)):iT K H (.ref a) (.type "dict")
 |ins {a C dx:Addr} {fs:List (Str×V)} (e:H a=some (.ins C dx fs)) (cl:pF K C) (ha:gn K (.ref C) "__class__" = some (some (.builtin "object.__class__")))
   (hn:Bd K (.builtin "object.__class__") "__get__" = some (some (.builtin "getset_descriptor.__get__"))) (Lv:Be K (.builtin "object.__class__")=some true)
   (hm:Bf K C (.type "object")=some true):iT K H (.ref a) (.ref C)
def pG{x:V}{u t:Value}(I:Inv X ae σ H s)(rx:RelV x u)(ty:iT X.K H x t)(e:sd X.K t c=some b)(h:∀tk,Q (.bool b) {s with toks:=tk}) :
  wpAny (model X.prog X.w) A (call (.builtin "isinstance") [u,c]) Q E s:=by
 cases ty with
 |non=>cases(show u=Value.none from rx);exact lP PySem.W.kitx_none I.j6 True.intro e (λz=>nomatch z) h
 |bl y=>cases(show u=Value.bool y from rx);exact lP PySem.W.kitx_bool I.j6 True.intro e (λz=>nomatch z) h
 |int i=>obtain⟨t,q⟩:=(show ∃t,u=Value.int i t from rx);cases q;exact lP PySem.W.kitx_int I.j6 True.intro e (λz=>nomatch z) h
 |str y=>obtain⟨t,q⟩:=(show ∃t,u=Value.str y t from rx);cases q;exact lP PySem.W.kitx_str I.j6 True.intro e (λz=>nomatch z) h
 |flt y=>obtain⟨t,q⟩:=(show ∃t,u=Value.float y t from rx);cases q;exact lP PySem.W.kitx_float I.j6 True.intro e (λz=>nomatch z) h
 | @lst a xs ea=>
  cases(show u=Value.ref a from rx);obtain⟨_,_,n,_,h1⟩:=(show cK X.prog X.w H s.heap a (.lst xs)from I.bL a _ ea);exact lP Iv I.j6 ⟨_,h1,rfl⟩ e (λz=>nomatch z) h
 | @iL a ob xs ea=>
  cases(show u=Value.ref a from rx);obtain⟨_,_,_,n,_,h1⟩:=(show cK X.prog X.w H s.heap a (.iL ob (.lst xs))from I.bL a _ ea);exact lP Iv I.j6 ⟨_,h1,rfl⟩ e (λz=>nomatch z) h
 | @tup a xs ea=>
  cases(show u=Value.ref a from rx);obtain⟨_,_,p,_⟩:=I.tuple ea;obtain⟨o,h1,h2,_⟩:=p;exact lP PySem.W.kitx_tuple I.j6 ⟨o,h1,h2⟩ e (λz=>nomatch z) h
 | @dK a aS ea=>
  cases(show u=Value.ref a from rx);obtain⟨_,_,vs,_,p⟩:=(show cK X.prog X.w H s.heap a (.dK aS)from I.bL a _ ea);obtain⟨o,es,ep,h1,h2,_⟩:=p;exact lP Iw I.j6 ⟨o,h1,h2.1⟩ e (λz=>nomatch z) h
 | @dT a aS ea=>
  cases(show u=Value.ref a from rx);obtain⟨_,_,xs,_,o,es,ep,h1,h2,_⟩:=(show cK X.prog X.w H s.heap a (.dT aS)from I.bL a _ ea);exact lP Iw I.j6 ⟨o,h1,h2.1⟩ e (λz=>nomatch z) h
 | @ins a C dx fs ea cl ha hn Lv hm=>
  cases(show u=Value.ref a from rx);obtain⟨mA,O,_⟩:=lH I.bL ea;obtain⟨od,J,_⟩:=O.look;exact lP (PySem.W.kitx_own (cl.get _) cl.hd ha hn Lv hm) I.j6 J e (λz=>nomatch z) h
end
structure b8(k:Nat)(A:Around):Prop where
 hd:A.handled=none
 dp:A.depth+3*k+5<recursionLimit
 un:A.units+16*k+200<cLine
def b8.mono{j k:Nat}{A:Around}(r:b8 k A)(h:j<=k):b8 j A:=⟨r.hd,by have:=r.dp;omega,by have:=r.un;omega⟩
theorem b8.deeper{k:Nat}{A:Around}(r:b8 (k+1) A)(env:Env):b8 k (A.deeper env):=
 ⟨r.hd,by have:=r.dp;show A.depth+1+3*k+5<_;omega,by have:=r.un;show A.units+3+16*k+200<_;omega⟩
def vD{A:Around}{C:Addr}{us:B2}{kw:List (Str×Value)}:(A.under (.builtin "type.__call__" ⟨.ref C::us,kw⟩)).depth=A.depth+1:=by
 first|rfl|simp[Around.under,Code.weight,Code.isCreation,Code.isGuard,Code.isCaller,Code.frames,Code.isFrame,guardIds]
def vE{A:Around}{C:Addr}{us:B2}{kw:List (Str×Value)}:(A.under (.builtin "type.__call__" ⟨.ref C::us,kw⟩)).units=A.units+1:=by
 first|rfl|simp[Around.under,Code.cUnits,Code.frames,Code.isFrame]
def b8.make{k:Nat}{A:Around}(r:b8 (k+1) A)(C:Addr)(us:B2)(kw:List (Str×Value)):b8 k (A.under (.builtin "type.__call__" ⟨.ref C::us,kw⟩)):=
 ⟨r.hd,by have:=r.dp;rw[vD];omega,by have:=r.un;rw[vE];omega⟩
theorem b8.depth{k:Nat}{A:Around}(r:b8 k A):A.depth<recursionLimit:=by have:=r.dp;omega
theorem b8.units{k:Nat}{A:Around}(r:b8 k A):A.units+64<cLine:=by have:=r.un;omega
def Fq:TA:=λ_ H Q=>Q [] H
def PM(ta:TE)(tr:TA):TA:=λσ H Q=>ta σ H λx H1=>tr σ H1 λxs H2=>Q (x::xs) H2
section
variable{X:Cx}{te:TE}{t:TA}
def cj:PA X [] Fq:=λ_ _ _ _ H Q I h=>Calls.spliced_nil ⟨[],H,I,.nil,h⟩
def aW(ha:PE X e te)(hr:PA X es t)(hs:starEach (e::es) X.env=(false,eval e X.env)::starEach es X.env:=by rfl):PA X (e::es) (PM te t):=by
 intro pos ae s σ H Q I h;rw[hs];show wpAny _ _ (spliced ((false,eval e X.env)::backTo pos (starEach es X.env))) _ _ s;refine Calls.spliced_cons (bX (ha ae s σ H _ I h) λu s1 zz=>?_);obtain⟨x,H1,I1,r1,q1⟩:=zz;exact bX (hr pos ae s1 σ H1 _ I1 q1) λus s2 ⟨xs,H2,I2,r2,q2⟩=>⟨x::xs,H2,I2,.cons r1 r2,q2⟩
def Vs(t:TA):TE:=λσ H Q=>t σ H λxs H1=>xs.length<=sizeLine/\∀p,H1 p=none->Q (.ref p) (upd H1 p (.tup xs))
def Vt(t:TA):TE:=λσ H Q=>t σ H λxs H1=>xs.length<=sizeLine/\∀p,H1 p=none->Q (.ref p) (upd H1 p (.lst xs))
def Lw{x1}(h:PA X es t):PE X (.Tuple es x1 pos) (Vs t):=by
 intro ae s σ H Q I hq;refine wpAny_Tuple_spliced (bX (h pos ae s σ H _ I hq) λus s1 ⟨xs,H1,I1,r,z,q⟩=>⟨by rw[<- r.length];exact z,?_⟩)
 have hf:H1 s1.heap.objs.size=none:=I1.bL.fresh (c_ _);refine⟨.ref s1.heap.objs.size,upd H1 s1.heap.objs.size (.tup xs),I1.laid (t':=s1.toks) (λb u e=>Heap.get?_push_of_some _ e) (c_ _) ?_,rfl,q _ hf⟩;exact⟨z,us,r,⟨_,Heap.get?_push_size _ rfl,rfl,_,rfl⟩⟩
def Cg(h:PA X es t):PE X (.List es pos) (Vt t):=by
 intro ae s σ H Q I hq;refine wpAny_List_spliced (bX (h pos ae s σ H _ I hq) λus s1 ⟨xs,H1,I1,r,z,q⟩=>⟨by rw[<- r.length];exact z,?_⟩)
 have hf:H1 s1.heap.objs.size=none:=I1.bL.fresh (c_ _);refine⟨.ref s1.heap.objs.size,upd H1 s1.heap.objs.size (.lst xs),I1.laid (t':=s1.toks) (λb u e=>Heap.get?_push_of_some _ e) (c_ _) ?_,rfl,q _ hf⟩;exact⟨z,us,0,r,Heap.get?_push_size _ rfl⟩
end
abbrev Sp:=List V->Hp->VK->XK->Prop
abbrev A0:=List Env->Hp->Shared->XK->Value->Shared->Prop
structure vG(P:Program)(w:World)(K:bz)(mg:Str->D1)(base:Heap)(A:Around)(outer:List Env)(s:Shared)(H:Hp):Prop where
 frames:A.frames=some outer
 mod:Mod K mg base
 bs:∀b o,base.get? b=some o->s.heap.get? b=some o/\H b=none
 bsz:base.objs.size<=s.heap.objs.size
 k_:s.heap.FunFrames base outer
 frf:∀b∈B3 outer,H b=none
 bL:jq P w H s.heap
 bare:AllBare s.gens
def CE(outer:List Env)(P:Program)(w:World)(H:Hp)(s:Shared)(Q:VK)(u:Value)(s':Shared):Prop:=
 ∃v H',s'.os=s.os/\AllBare s'.gens/\Un (B3 outer) [] H H' s.heap s'.heap/\jq P w H' s'.heap/\RelV v u/\Q v H'
def CR(CX:A0)(outer:List Env)(P:Program)(w:World)(H:Hp)(s:Shared)(Q:VK)(E:XK)(r:Result)(s':Shared):Prop:=
 match r with
 |.ok (.ret u)=>CE outer P w H s Q u s'
 |.ok _=>False
 |.error e=>CX outer H s E e s'
structure dh(P:Program)(w:World)(K:bz)(mg:Str->D1)(base:Heap)(CX:A0)(k:Nat)(f:Addr)(fd:FuncData)(ps:Bi)(sp:Sp):Prop where
 len:∀vs H Q E,sp vs H Q E->vs.length=ps.length
 run:∀(A:Around)(outer:List Env)(s:Shared)(H:Hp)(args:Args)(us:B2)(vs:List V)(Q:VK)(E:XK),b8 k A->vG P w K mg base A outer s H->BindsTo s fd args (ps.zip us)->Vals vs us->sp vs H Q E ->
  codeAny (model P w) A (.call (.ref f) args) (CR CX outer P w H s Q E) s
def dh.imp{P:Program}{w:World}{K:bz}{mg:Str->D1}{base:Heap}{CX:A0}{k:Nat}{f:Addr}{fd:FuncData}{ps:Bi}{sp XR:Sp}(F:dh P w K mg base CX k f fd ps sp)
  (h:∀vs H Q E,XR vs H Q E->sp vs H Q E):dh P w K mg base CX k f fd ps XR:=
 ⟨λvs H Q E q=>F.len vs H Q E (h _ _ _ _ q),λA outer s H args us vs Q E hr he hb hv hs=>F.run A outer s H args us vs Q E hr he hb hv (h _ _ _ _ hs)⟩
def vG.make{P:Program}{w:World}{K:bz}{mg:Str->D1}{base:Heap}{A:Around}{outer:List Env}{s:Shared}{H:Hp}(e:vG P w K mg base A outer s H)(C:Addr)(us:B2)(kw:List (Str×Value)) :
  vG P w K mg base (A.under (.builtin "type.__call__" ⟨.ref C::us,kw⟩)) outer s H:=⟨by first|exact e.frames|(simpa[Around.under,Code.envs,Code.isFrame,pushEnvs]using e.frames),e.mod,e.bs,e.bsz,e.k_,e.frf,e.bL,e.bare⟩
section
variable{X:Cx}{σ:St}{s':Shared}
def Inv.PN(I:Inv X ae σ H s):vG X.prog X.w X.K X.mg X.base X.A X.stack s H:=
 ⟨I.ok.frames,I.ok.mod,I.bs,gx I.ok.bsz I.sz,I.stack,I.xA,I.bL,I.bare⟩
def Inv.after{Q:VK}{u:Value}(I:Inv X ae σ H s)(h:CE X.stack X.prog X.w H s Q u s'):EP X ae σ Q u s':=by
 obtain⟨v,H',os,bare,un,bL,r,q⟩:=h;obtain⟨hh,g,d,t,ZF⟩:=s'
 obtain rfl:ZF=s.os:=os
 exact⟨v,H',I.call (h':=hh) (g':=g) (d':=d) (t':=t) (ch:=[]) un bL bare (λb z=>absurd z (by simp)),r,q⟩
end
def JL(sp:Sp)(gf:List V)(E:XK)(t:TA):TE:=λσ H Q=>t σ H λvs H1=>sp (vs++gf) H1 Q E
def xN(C:Addr)(m:Str)(sp:Sp)(gf:List V)(E:XK)(ta:TE)(t:TA):TE:=λσ H Q=>ta σ H λx H1=>∃a dx fs,x=.ref a/\H1 a=some (.ins C dx fs)/\fs.lookup m=none /\
 t σ H1 λvs H2=>sp (x::(vs++gf)) H2 Q E
def PQ(C:Addr)(sp:Sp)(gf:List V)(E:XK)(t:TA):TE:=λσ H Q=>t σ H λvs H1=>∀x dx,H1 x=none->H1 dx=none->dx≠x ->
 sp (.ref x::(vs++gf)) (upd (upd H1 dx (.own x)) x (.ins C dx [])) (λv H2=>v=.non/\Q (.ref x) H2) E
def Binds(K:bz)(fd:FuncData)(ps:Bi)(ds:B2):Prop:=
 ∀(s:Shared)(us:B2),K.In s.heap->(us++ds).length=ps.length->BindsTo s fd ⟨us,[]⟩ (ps.zip (us++ds))
def Binds.all{K:bz}{fd:FuncData}{ps:Bi}(h:∀us:B2,us.length=ps.length->bindArgs fd ⟨us,[]⟩=pure (ps.zip us)):Binds K fd ps []:=λs us _ hl=>by
 rw[cJ]at hl ⊢;exact .of_eq (h us hl)
def Passes(CX:A0)(X:Cx)(E:XK):Prop:=∀(ae:dJ)(σ:St)(H:Hp)(s:Shared)(e:Value)(s':Shared),Inv X ae σ H s->CX X.stack H s E e s'->X.xe e s'
section
variable{X:Cx}{CX:A0}{k:Nat}{fd:FuncData}{ps:Bi}{sp:Sp}{gf:List V}{ds:B2}{E:XK}{x m:Str}{bF:Pos}{ta:TE}{t:TA}
def qF{ae:dJ}{σ:St}{H:Hp}{s:Shared}{Q:VK}{us:B2}{vs:List V}(F:dh X.prog X.w X.K X.mg X.base CX k f fd ps sp)(hr:b8 k X.A)(hb:Binds X.K fd ps ds)(hd:Vals gf ds)(hx:Passes CX X E)
  (I:Inv X ae σ H s) (r:Vals vs us) (h:sp (vs++gf) H Q E):wpAny (model X.prog X.w) X.A (call (.ref f) us) (EP X ae σ Q) X.xe s:=by
 have r2:Vals (vs++gf) (us++ds):=r.append hd;have hl:(us++ds).length=ps.length:=by rw[<- r2.length];exact F.len _ _ _ _ h
 refine wpAny_call (codeAny_mono (F.run X.A X.stack s H ⟨us,[]⟩ (us++ds) (vs++gf) Q E hr I.PN (hb s us I.j6 hl) r2 h) λr s' hq=>?_);cases r with
 |error e=>exact hx ae σ H s e s' I hq
 |ok fl=>
  cases fl with
  |ret u=>exact I.after hq
  |next=>exact False.elim hq
  |brk=>exact False.elim hq
  |cont=>exact False.elim hq
def Fv(F:dh X.prog X.w X.K X.mg X.base CX k f fd ps sp)(hr:b8 k X.A)(hg:Gl X x)(hm:X.mg x=some (.ref f))(hk:oj X.K (.ref f)=true)(hb:Binds X.K fd ps ds)(hd:Vals gf ds)(hx:Passes CX X E)
  (ha:PA X (e::es) t) (mq:cu x:=by decide) (he:starEach (e::es) X.env=(false,eval e X.env)::starEach es X.env:=by rfl) (hpl:(backTo pos (starEach es X.env)).any (·.1)=false:=by rfl) :
  PE X (.Call (.Name x p) (e::es) [] pos) (JL sp gf E t):=by
 intro ae s σ H Q I h;refine wpAny_Call_Name_kw (jC I hg hm ?_ mq);refine Bg (h₀:=X.base) I.ok.mod.kin hk (bX (ha pos ae s σ H _ I h) λus s1 ⟨vs,H1,I1,r,q⟩=>⟨I1.j6,?_⟩) he hpl;exact qF F hr hb hd hx I1 r q
def Ci(F:dh X.prog X.w X.K X.mg X.base CX k f fd ps sp)(hr:b8 k X.A)(hg:Gl X x)(hm:X.mg x=some (.ref f))(hk:oj X.K (.ref f)=true)(hb:Binds X.K fd ps ds)(hd:Vals gf ds)(hx:Passes CX X E)
  (mq:cu x:=by decide):PE X (.Call (.Name x p) [] [] pos) (JL sp gf E Fq):=by
 intro ae s σ H Q I h;refine wpAny_Call_Name_kw (jC I hg hm ?_ mq);exact Bh I.j6 hk (qF (us:=[]) F hr hb hd hx I .nil h)
def Fw{pl:Sem Bool}(he:PE X o ta)(c:pF X.K C)(hm:Meth X.K C m f)(F:dh X.prog X.w X.K X.mg X.base CX k f fd ps sp)(hr:b8 k X.A)(hb:Binds X.K fd ps ds)(hd:Vals gf ds)(hx:Passes CX X E)(ha:PA X (e::es) t)
  (Vf:starEach (e::es) X.env=(false,eval e X.env)::starEach es X.env:=by rfl) (hpl:(backTo pos (starEach es X.env)).any (·.1)=false:=by rfl)
  (ht:eval (.Call (.Attribute o m bF) (e::es) [] pos) X.env=(do
   let ov <- eval o X.env
   standAt bF.atName
   let(f,first) <- holding [ov] (getMethod ov m pl)
   callWith pos f first (backTo pos (starEach (e::es) X.env)) (backToKw pos (keywordEach [] X.env))):=by rfl) :
  PE X (.Call (.Attribute o m bF) (e::es) [] pos) (xN C m sp gf E ta t):=by
 intro ae s σ H Q I h;refine Iz (pl:=pl) (bX (he ae s σ H _ I h) λu s1 ⟨x,H1,I1,rx,a,dx,fs,ex,ea,l,q⟩=>?_) ht;subst ex
 obtain rfl:u=Value.ref a:=rx
 refine mj I1 ea c hm l ?_;refine Bg (first:=[.ref a]) (h₀:=X.base) I.ok.mod.kin hm.kp (bX (ha pos ae s1 σ H1 _ I1 q) λus s2 ⟨vs,H2,I2,r,q2⟩=>⟨I2.j6,?_⟩) Vf hpl
 exact qF (us:=.ref a::us) (vs:=.ref a::vs) F hr hb hd hx I2 (.cons rfl r) q2
def Cj{pl:Sem Bool}(he:PE X o ta)(c:pF X.K C)(hm:Meth X.K C m f)(F:dh X.prog X.w X.K X.mg X.base CX k f fd ps sp)(hr:b8 k X.A)(hb:Binds X.K fd ps ds)(hd:Vals gf ds)(hx:Passes CX X E)
  (ht:eval (.Call (.Attribute o m bF) [] [] pos) X.env=(do
   let ov <- eval o X.env
   standAt bF.atName
   let(f,first) <- holding [ov] (getMethod ov m pl)
   callWith pos f first (backTo pos (starEach [] X.env)) (backToKw pos (keywordEach [] X.env))):=by rfl) :
  PE X (.Call (.Attribute o m bF) [] [] pos) (xN C m sp gf E ta Fq):=by
 intro ae s σ H Q I h;refine Iz (pl:=pl) (bX (he ae s σ H _ I h) λu s1 ⟨x,H1,I1,rx,a,dx,fs,ex,ea,l,q⟩=>?_) ht;subst ex
 obtain rfl:u=Value.ref a:=rx
 refine mj I1 ea c hm l ?_;exact Bh (first:=[.ref a]) I1.j6 hm.kp (qF (us:=[.ref a]) (vs:=[.ref a]) F hr hb hd hx I1 (.cons rfl .nil) q)
structure Mk(K:bz)(C f:Addr):Prop where
 makes:A9 K C=true
 init:gn K (.ref C) "__init__" = some (some (.ref f))
 fn:A8 K (.ref f)=true
 kp:oj K (.ref C)=true
def Cm{ae:dJ}{σ:St}{H:Hp}{s:Shared}{Q:VK}{us:B2}{vs:List V}(M:Mk X.K C f)(F:dh X.prog X.w X.K X.mg X.base CX k f fd ps sp)(hr:b8 (k+1) X.A)(hb:Binds X.K fd ps ds)(hd:Vals gf ds)
  (hx:Passes CX X E) (I:Inv X ae σ H s) (r:Vals vs us)
  (h:∀x dx,H x=none->H dx=none->dx≠x->sp (.ref x::(vs++gf)) (upd (upd H dx (.own x)) x (.ins C dx [])) (λv H2=>v=.non/\Q (.ref x) H2) E) :
  wpAny (model X.prog X.w) X.A (call (.ref C) us) (EP X ae σ Q) X.xe s:=by
 have hq:=h (s.heap.objs.size+1) s.heap.objs.size (I.bL.fresh (BL _)) (I.bL.fresh (c_ _)) (eF (sC _));have I2:=Inv.made (C:=C) I;have r2:Vals (V.ref (s.heap.objs.size+1)::(vs++gf)) (Value.ref (s.heap.objs.size+1)::(us++ds)):=.cons rfl (r.append hd);have hl:(Value.ref (s.heap.objs.size+1)::us++ds).length=ps.length:=by
  have e:=r2.length;rw[F.len _ _ _ _ hq]at e;exact e.symm
 refine wpAny_call (Ce (f:=f) I.j6 M.makes M.init (beq_iff_eq.mp M.fn) (codeAny_mono (F.run _ X.stack _ _ ⟨Value.ref (s.heap.objs.size+1)::us,[]⟩ (Value.ref (s.heap.objs.size+1)::(us++ds)) _ _ E (hr.make C us [])
  (I2.PN.make C us []) (hb _ (Value.ref (s.heap.objs.size+1)::us) I2.j6 hl) r2 hq) λr s' Cn=>?_))
 cases r with
 |error e=>exact hx ae σ _ _ e s' I2 Cn
 |ok fl=>
  cases fl with
  |ret u=>
   obtain⟨v,H',I3,rv,ev,q3⟩:=I2.after Cn;subst ev;exact⟨rv,⟨V.ref (s.heap.objs.size+1),H',I3,rfl,q3⟩⟩
  |next=>exact False.elim Cn
  |brk=>exact False.elim Cn
  |cont=>exact False.elim Cn
def qG(M:Mk X.K C f)(F:dh X.prog X.w X.K X.mg X.base CX k f fd ps sp)(hr:b8 (k+1) X.A)(hg:Gl X x)(hm:X.mg x=some (.ref C))(hb:Binds X.K fd ps ds)(hd:Vals gf ds)(hx:Passes CX X E)
  (ha:PA X (e::es) t) (mq:cu x:=by decide) (he:starEach (e::es) X.env=(false,eval e X.env)::starEach es X.env:=by rfl) (hpl:(backTo pos (starEach es X.env)).any (·.1)=false:=by rfl) :
  PE X (.Call (.Name x p) (e::es) [] pos) (PQ C sp gf E t):=by
 intro ae s σ H Q I h;refine wpAny_Call_Name_kw (jC I hg hm ?_ mq);refine Bg (h₀:=X.base) I.ok.mod.kin M.kp (bX (ha pos ae s σ H _ I h) λus s1 ⟨vs,H1,I1,r,q⟩=>⟨I1.j6,?_⟩) he hpl;exact Cm M F hr hb hd hx I1 r q
end
section
variable{X:Cx}{CX:A0}{k:Nat}{fd:FuncData}{ps ks:Bi}{sp:Sp}{E:XK}{x m:Str}{bF ZG:Pos}{kws:List Keyword}{te ta:TE}{t tk:TA}{nm:Option Str}
variable{g:B2->B2->B2}{gV:List V->List V->List V}
end
structure fk(N P:Bi)(sc:Scope):Prop where
 kind:sc.kind=.function
 co:sc.isCoroutine=false
 gen:sc.isGenerator=false
 nd:N.Nodup
 pre:N.take P.length=P
 par:∀x∈P,sc.names.lookup x=some .local\/sc.names.lookup x=some .cell
 nofree:∀y∈sc.names,y.2≠.free
theorem pH{kindOf:Str->Option NameKind}{x:Str}:∀{binds:List (Str×Value)}{m:Str->D1},(∀v,(x,v)∉binds)->bindL kindOf binds m x=m x
 |[],_,_=>rfl
 |(n,v)::r,m,h=>by
  unfold bindL;rw[pH λw hw=>h w (dX _ hw)];split
  ·have:x≠n:=by rintro rfl;exact h v ee
   simp[this]
  ·rfl
theorem pI{kindOf:Str->Option NameKind}{x:Str}:∀{binds:List (Str×Value)}{m:Str->D1},(∀v,(x,v)∉binds)->bindC kindOf binds m x=m x
 |[],_,_=>rfl
 |(n,v)::r,m,h=>by
  unfold bindC;rw[pI λw hw=>h w (dX _ hw)];split
  ·rfl
  ·have:x≠n:=by rintro rfl;exact h v ee
   simp[this]
theorem pJ{kindOf:Str->Option NameKind}{x:Str}{v:Value}:∀{P:Bi}{vs:B2}{i:Nat}{m:Str->D1},P.Nodup->P[i]?=some x->vs[i]?=some v->kindOf x=some .local ->
  bindL kindOf (P.zip vs) m x=some v
 |[],_,_,_,_,h,_,_=>by simp at h
 |_::_,[],_,_,_,_,h,_=>by simp at h
 |p::P,w::vs,0,m,nd,h1,h2,hk=>by
  simp at h1 h2;subst h1;subst h2;show bindL kindOf ((p,w)::P.zip vs) m p=_;unfold bindL;rw[pH λv hv=>(lQ.mp nd).1 (Bq hv).1,if_pos hk];simp
 |p::P,w::vs,i+1,m,nd,h1,h2,hk=>by
  show bindL kindOf ((p,w)::P.zip vs) m x=_;unfold bindL;exact pJ (i:=i) (lQ.mp nd).2 (by simpa using h1) (by simpa using h2) hk
theorem pK{kindOf:Str->Option NameKind}{x:Str}{v:Value}:∀{P:Bi}{vs:B2}{i:Nat}{m:Str->D1},P.Nodup->P[i]?=some x->vs[i]?=some v->kindOf x≠some .local ->
  bindC kindOf (P.zip vs) m x=some v
 |[],_,_,_,_,h,_,_=>by simp at h
 |_::_,[],_,_,_,_,h,_=>by simp at h
 |p::P,w::vs,0,m,nd,h1,h2,hk=>by
  simp at h1 h2;subst h1;subst h2;show bindC kindOf ((p,w)::P.zip vs) m p=_;unfold bindC;rw[pI λv hv=>(lQ.mp nd).1 (Bq hv).1,if_neg hk];simp
 |p::P,w::vs,i+1,m,nd,h1,h2,hk=>by
  show bindC kindOf ((p,w)::P.zip vs) m x=_;unfold bindC;exact pK (i:=i) (lQ.mp nd).2 (by simpa using h1) (by simpa using h2) hk
def start(N:Bi)(vs:List V):St:=vs.map some++dM (N.length-vs.length) none
def kj(CX:A0)(P:Program)(w:World)(K:bz)(mg:Str->D1)(base:Heap)(N:Bi)(qual:Str)(scope:Scope)(f:Addr)(cd:Value)(A:Around)(outer:List Env)(s:Shared)(H:Hp)(E:XK):Cx where
 prog:=P
 w:=w
 K:=K
 mg:=mg
 base:=base
 A:=A.deeper (envOfC qual scope s.heap.objs.size f cd)
 N:=N
 s₀:=s
 H₀:=H
 env:=envOfC qual scope s.heap.objs.size f cd
 outer:=outer
 stack:=envOfC qual scope s.heap.objs.size f cd::outer
 ex:=[]
 calm:=true
 fn:=λ_=>true
 pn:=[]
 xe:=λe s'=>wpAny (model P w) (A.deeper (envOfC qual scope s.heap.objs.size f cd)) (leaving (envOfC qual scope s.heap.objs.size f cd) e) (λ_ PR=>CX outer H s E e PR) (λe' PR=>CX outer H s E e' PR) s'
def sO{sc:Scope}{n:Nat}{x:Str}(h:sc.names.lookup x=some .cell):∃c,(cellsFrom n sc.names []).lookup x=some c:=by
 have q:=IA sc.names n [] (.inl h);exact Ju.mp q
def pL{CX:A0}{P:Program}{w:World}{K:bz}{mg:Str->D1}{base:Heap}{N ps:Bi}{qual:Str}{scope:Scope}{f:Addr}{cd:Value}{A:Around}{outer:List Env}{s s1:Shared}{H:Hp}{E:XK}{us:B2}{vs:List V}
  (S:fk N ps scope) (hd:A.handled=none) (e0:vG P w K mg base A outer s H) (hl:vs.length=ps.length) (r:Vals vs us)
  (x:InCallC s s.heap.objs.size (bindL (envOfC qual scope s.heap.objs.size f cd).kindOf (ps.zip us) λ_=>none) (cellsFrom (s.heap.objs.size+1) scope.names []) (bindC (envOfC qual scope s.heap.objs.size f cd).kindOf (ps.zip us) λ_=>none) s1) :
  Inv (kj CX P w K mg base N qual scope f cd A outer s H E) [] (start N vs) H s1:=by
 have hpl:ps.length<=N.length:=by have:=congrArg vh S.pre;rw[lT]at this;omega
 obtain⟨h1,tk,rfl,hk⟩:=x.done;have PU:∀b:Addr,b∉(kj CX P w K mg base N qual scope f cd A outer s H E).ex:=λb z=>absurd (show b∈([]:BM)from z) (by simp)
 refine⟨⟨e0.mod,S.kind,rfl,rfl,c_ _,λy z c h1 h2=>?_,λy hy=>?_,λy c _ h=>?_,λ_=>hd,Around.frames_deeper e0.frames,.inr ⟨rfl,rfl⟩,λb z=>absurd z (PU b),e0.bs,e0.bsz,λb _ _=>PU b,λb z=>absurd z (PU b),e0.k_,e0.frf⟩,
  rfl,e0.bare,Un.kept hk,⟨_,x.toInCall.ns,λi y v h1 h2 h3=>?_⟩,λy c h=>⟨_,x.cell y c h⟩,e0.bL.fresh (c_ _),λy c h=>?_,λp hp=>absurd (show p∈([]:dJ)from hp) (by simp),e0.bL.kept hk,?_⟩
 ·exact name_of_addr x.apart (PySem.mem_of_lookup h1) (PySem.mem_of_lookup h2)
 ·have hy:scope.names.lookup y=some .cell\/scope.names.lookup y=some .free:=hy
  rcases hy with hy|hy
  ·exact sO hy
  ·exact absurd rfl (S.nofree _ (PySem.mem_of_lookup hy))
 ·exact BN (x.above y c (PySem.mem_of_lookup h))
 ·have hi:i<vs.length:=by
   unfold start at h2;by_cases hi:i<vs.length
   ·exact hi
   ·rw[eT (by simpa using hi)]at h2
    rw[vj]at h2;split at h2<;>cases h2
  have ha:vs[i]?=some v:=by
   unfold start at h2;rw[gp (by simpa using hi),fJ]at h2
   cases e:vs[i]? with
   |none=>rw[e]at h2;cases h2
   |some a=>rw[e]at h2;cases h2;rfl
  obtain⟨u,hu,rv⟩:=r.get ha;have hp:ps[i]?=some y:=by
   rw[<- S.pre,List.getElem?_take_of_lt (by omega)];exact h1
  have XS:ps.Nodup:=by rw[<- S.pre];exact S.nd.sublist (List.take_sublist _ _)
  refine⟨u,rv,?_⟩;rcases S.par y (i8 hp)with k|k
  ·exact .inl ⟨k,pJ XS hp hu k⟩
  ·obtain⟨c,e⟩:=sO (n:=s.heap.objs.size+1) k
   refine .inr ⟨.inl k,c,e,?_⟩;have q:=x.cell y c e;rw[pK XS hp hu (by show scope.names.lookup y≠_;rw[k];decide)]at q
   exact q
 ·exact e0.bL.fresh (BN (x.above y c (PySem.mem_of_lookup h)))
 ·unfold start
  show _=N.length;rw[b9,bK,i9];omega
def PV{CX:A0}{P:Program}{w:World}{K:bz}{mg:Str->D1}{base:Heap}{k:Nat}{f:Addr}{name qual:Str}{params:Arguments}{body:Ee}{scope:Scope}{dV kV doc pm gU ct oc:Value}{an od:Option Addr}
  {z4:Array D1} {N ps:Bi} {sp:Sp} (lk:K.lookup f=some ⟨oc,od,.func (se name qual params body scope dV kV doc pm an gU ct),z4⟩) (lG:wW K gU qual=true) (S:fk N ps scope)
  (len:∀vs H Q E,sp vs H Q E->vs.length=ps.length)
  (sP:∀(A:Around)(outer:List Env)(s:Shared)(H:Hp)(vs:List V)(Q:VK)(E:XK),b8 k (A.deeper (envOfC qual scope s.heap.objs.size f gU))->sp vs H Q E ->
   ∃t,jB (kj CX P w K mg base N qual scope f gU A outer s H E) body t/\t {nx:=λ_ H'=>Q .non H',rt:=Q} (start N vs) H) :
  dh P w K mg base CX (k+1) f (se name qual params body scope dV kV doc pm an gU ct) ps sp:=by
 refine⟨len,λA outer s H args us vs Q E hr e0 hb r Fx=>?_⟩;have hl:=len _ _ _ _ Fx;have KX:K.In s.heap:=e0.mod.kin.keeps λb o e=>(e0.bs b o e).1;have lim:s.heap.NoLimit:=e0.mod.nolimit.keeps λb o e=>(e0.bs b o e).1;have PX:∀y∈ps.zip us,scope.names.lookup y.1=some .local\/(scope.names.lookup y.1=some .cell/\((cellsFrom (s.heap.objs.size+1) scope.names []).lookup y.1).isSome=true):=λ⟨n,v⟩ hy=>by
  rcases S.par n (Bq hy).1 with q|q
  ·exact .inl q
  ·exact .inr ⟨q,IA _ _ _ (.inl q)⟩
 refine codeAny_call_function hr.depth (KX _ _ lk) rfl S.co S.gen rfl (IB KX lG) (hb _ _ _ _ ?_);refine wpAny_newFunctionEnv_cells S.kind PX λenv he s1 x=>?_;subst he;refine⟨lim.keeps x.toInCall.keep,codeAny_func ?_⟩;obtain⟨t,ht,hq⟩:=sP A outer s H vs Q E (hr.deeper _) Fx;have I:Inv (kj CX P w K mg base N qual scope f gU A outer s H E) [] (start N vs) H s1:=pL S hr.hd e0 hl r x;refine wpAny_mono (ht [] s1 (start N vs) H _ I hq) (λfl s' hs=>?_) λe s' hs=>hs;have fin:∀{σ':St}{H':Hp}{v:V}{u:Value},Inv (kj CX P w K mg base N qual scope f gU A outer s H E) [] σ' H' s'->RelV v u->Q v H'->CE outer P w H s Q u s':=
  λ{σ' H' v u} J rv q=>⟨v,H',J.os,J.bare,J.base,J.bL,rv,q⟩
 cases fl with
 |ret u=>
  obtain⟨v,σ',H',J,rv,q⟩:=hs;exact fin J rv q
 |next=>
  obtain⟨σ',H',J,q⟩:=hs;exact fin (v:=V.non) (u:=Value.none) J rfl q
 |brk=>
  obtain⟨_,_,_,q⟩:=hs;exact False.elim q
 |cont=>
  obtain⟨_,_,_,q⟩:=hs;exact False.elim q
section
variable{X:Cx}{x:Str}{t:TA}{id T:String}{r:List V->Hp->VK->Prop}
def Vu(r:List V->Hp->VK->Prop)(t:TA):TE:=λσ H Q=>t σ H λvs H1=>r vs H1 Q
def iu(hc:eX X (.builtin id) r)(hg:Gl X x)(hm:X.mg x=none)(hv:bootBuiltins x=some (.builtin id))(ha:PA X (e::es) t)(hn:x ≠ "__name__" := by decide)(mq:cu x:=by decide)
  (he:starEach (e::es) X.env=(false,eval e X.env)::starEach es X.env:=by rfl) (hpl:(backTo pos (starEach es X.env)).any (·.1)=false:=by rfl):PE X (.Call (.Name x p) (e::es) [] pos) (Vu r t):=by
 intro ae s σ H Q I h;refine wpAny_Call_Name_kw (gb I hg hm hv ?_ hn mq);exact PyProof.Rows.callWith_builtin1 (bX (ha pos ae s σ H _ I h) λus s1 ⟨vs,H1,I1,r1,q1⟩=>hc ae s1 σ H1 vs us Q I1 r1 q1) he hpl
def gy(hc:eX X (.type T) r)(hg:Gl X x)(hm:X.mg x=none)(hv:bootBuiltins x=some (.type T))(ha:PA X (e::es) t)(hn:x ≠ "__name__" := by decide)(mq:cu x:=by decide)
  (he:starEach (e::es) X.env=(false,eval e X.env)::starEach es X.env:=by rfl) (hpl:(backTo pos (starEach es X.env)).any (·.1)=false:=by rfl):PE X (.Call (.Name x p) (e::es) [] pos) (Vu r t):=by
 intro ae s σ H Q I h;refine wpAny_Call_Name_kw (gb I hg hm hv ?_ hn mq);exact zL (bX (ha pos ae s σ H _ I h) λus s1 ⟨vs,H1,I1,r1,q1⟩=>hc ae s1 σ H1 vs us Q I1 r1 q1) he hpl
end
end L2
namespace HT
open PySem PyProof.Rows
section
open PySem.SeqAt
open PySem.AutoSeq1 (wpAny_loadPart')
open PySem.MeetsSeq PySem.MeetsSeq2 PySem.MeetsSeq3
end
section
variable{prog:Program}{w:World}{A:Around}{E:Value->Shared->Prop}{s:Shared}
def gz(n d:Nat):D2->Nat
 |none=>d
 |some v=>if v<0 then(v+(n:Int)).toNat else min v.toNat n
end
end HT
namespace L2
open PySem PySem.Spec PyProof.Rows
abbrev TO:=St->Hp->(D2->Hp->Prop)->Prop
def PO(X:Cx)(e:Option Expr)(t:TO):Prop:=
 ∀(ae:dJ)(s:Shared)(σ:St)(H:Hp)(Q:D2->Hp->Prop),Inv X ae σ H s->t σ H Q ->
  wpAny (model X.prog X.w) X.A (evalPart e X.env) (λu s'=>∃o H',Inv X ae σ H' s'/\IsPart u o/\Q o H') X.xe s
def Fy:TO:=λ_ H Q=>Q none H
def PY(t:TE):TO:=λσ H Q=>t σ H λx H1=>∃i,x=.int i/\Q (some i) H1
def intsAre_of{ns:Dx}:∀{us:B2},Vals (ns.map V.int) us->IntsAre us ns:=by
 induction ns with
 |nil=>intro us r;rw[wY]at r;cases r;exact .nil
 |cons n ns ih=>
  intro us r;rw[dO]at r;cases r with
  |cons r1 r2=>
   obtain⟨t,e⟩:=r1;subst e;exact .cons n t (ih r2)
variable{X:Cx}
section
variable{e:Expr}{te:TE}{lo hi:Option Expr}{tl th:TO}{pos p2:Pos}
def Fz:PO X none Fy:=by
 intro ae s σ H Q I h;rw[evalPart_none];exact wpAny_pure ⟨none,H,I,.none,h⟩
def FA(h:PE X e te):PO X (some e) (PY te):=by
 intro ae s σ H Q I hw;rw[evalPart_some];refine bX (h ae s σ H _ I hw) λu s1 zz=>?_;obtain⟨x,H1,I1,r1,q1⟩:=zz;obtain⟨i,rfl,q⟩:=q1;obtain⟨t,rfl⟩:=r1;exact⟨some i,H1,I1,.int i t,q⟩
def JM(X:Cx)(r:V->D2->D2->Hp->VK->Prop):Prop:=
 ∀(ae:dJ)(s:Shared)(σ:St)(H:Hp)(x:V)(v vl vu:Value)(lo hi:D2)(sl:Addr)(Q:VK),Inv X ae σ H s->RelV x v->s.heap.IsSliceOf sl vl vu .none->IsPart vl lo->IsPart vu hi->r x lo hi H Q ->
  ∃T id,typeLookup (.type T) "__getitem__" = pure (some (.builtin id))/\s.TypeIs v T/\wpAny (model X.prog X.w) X.A (getItem v (.ref sl)) (EP X ae σ Q) X.xe s
def JM.or{r r':V->D2->D2->Hp->VK->Prop}(h:JM X r)(h':JM X r'):JM X (λx lo hi H Q=>r x lo hi H Q\/r' x lo hi H Q):=by
 intro ae s σ H x v vl vu lo hi sl Q I rx hs pl pu q;rcases q with q|q
 ·exact h ae s σ H x v vl vu lo hi sl Q I rx hs pl pu q
 ·exact h' ae s σ H x v vl vu lo hi sl Q I rx hs pl pu q
def ZH(r:V->D2->D2->Hp->VK->Prop)(te:TE)(tl th:TO):TE:=λσ H Q=>te σ H λx H1=>tl σ H1 λl H2=>th σ H2 λu H3=>r x l u H3 Q
def sQ{r:V->D2->D2->Hp->VK->Prop}(hr:JM X r)(he:PE X e te)(hl:PO X lo tl)(hu:PO X hi th):PE X (.Subscript e (.Slice lo hi none p2) pos) (ZH r te tl th):=by
 intro ae s σ H Q I h;refine Subscript_ (bX (he ae s σ H _ I h) λv s1 zz=>?_);obtain⟨x,H1,I1,r1,q1⟩:=zz;refine wpAny_Slice (bX (hl ae s1 σ H1 _ I1 q1) λvl s2 ⟨l,H2,I2,pl,q2⟩=>bX (hu ae s2 σ H2 _ I2 q2) λvu s3 zz=>?_);obtain⟨u,H3,I3,pu,q3⟩:=zz;rw[evalPart_none];refine wpAny_pure ?_;have I4:Inv X ae σ H3 {s3 with heap:=s3.heap.push {cls:=.type "slice",data:=.fields #[vl,vu,.none]}}:=I3.kept (t':=s3.toks) λb ob q=>Heap.get?_push_of_some _ q
 obtain⟨T,id,hT,ht,hg⟩:=hr ae {s3 with heap:=s3.heap.push {cls:=.type "slice",data:=.fields #[vl,vu,.none]}} σ H3 x v vl vu l u s3.heap.objs.size Q I4 r1 (Heap.IsSliceOf.new ..) pl pu q3
 show wpAny (model X.prog X.w) X.A (subscriptTail e (.Slice lo hi none p2) v (.ref s3.heap.objs.size)) (EP X ae σ Q) X.xe {s3 with heap:=s3.heap.push {cls:=.type "slice",data:=.fields #[vl,vu,.none]}}
 exact tail_any (ops:=[.ref s3.heap.objs.size,v]) ht hT hg (by with_unfolding_all rfl)
def z5(xs:List V)(lo hi:D2):List V:=(xs.drop (HT.gz xs.length 0 lo)).take (HT.gz xs.length xs.length hi-HT.gz xs.length 0 lo)
def sR(xs:List V)(lo hi:D2):(z5 xs lo hi).length<=xs.length:=by
 unfold z5;rw[lT,iR];omega
end
def FF(n:Nat)(i:Int):Option Nat:=if 0<=i then(if i<n then some i.toNat else none)else if -(n:Int)<=i then some (i+n).toNat else none
def Co{α:Type}(xs:List α)(i:Int):Option α:=(FF xs.length i).bind λj=>xs[j]?
def xO{n:Nat}{i:Int}{j:Nat}(h:FF n i=some j):seqIndex? i n=some j/\j<n/\-(n:Int)<=i/\i<n:=by
 unfold FF at h;by_cases h0:0<=i
 ·rw[if_pos h0]at h
  by_cases h1:i<n
  ·rw[if_pos h1]at h
   have e:i.toNat=j:=kg.inj h;exact⟨by rw[seqIndex_of h0 h1,e],by omega,by omega,h1⟩
  ·rw[if_neg h1]at h;cases h
 ·rw[if_neg h0]at h
  by_cases h1:-(n:Int)<=i
  ·rw[if_pos h1]at h
   have e:(i+n).toNat=j:=kg.inj h;exact⟨by rw[seqIndex_neg (by omega) h1,e],by omega,h1,by omega⟩
  ·rw[if_neg h1]at h;cases h
def qH{α:Type}{xs:List α}{i:Int}{v:α}(h:Co xs i=some v):∃j,seqIndex? i xs.length=some j/\xs[j]?=some v/\j<xs.length/\-(xs.length:Int)<=i/\i<xs.length:=by
 unfold Co at h;cases e:FF xs.length i with
 |none=>rw[e]at h;cases h
 |some j=>
  rw[e]at h;obtain⟨h1,h2,h3,h4⟩:=xO e;exact⟨j,h1,h,h2,h3,h4⟩
def iM(b:Expr):Prop:=∀o i,subscripted b false o i=operate [o,i] (getItem o i)
def FH(X:Cx)(r:R2):Prop:=
 ∀(value slice:Expr)(ae:dJ)(s:Shared)(σ:St)(H:Hp)(x y:V)(v u:Value)(Q:VK),Inv X ae σ H s->RelV x v->RelV y u->r x y H Q ->
  subscripted slice false v u=operate [v,u] (getItem v u)->wpAny (model X.prog X.w) X.A (subscriptTail value slice v u) (EP X ae σ Q) X.xe s
def vH(X:Cx)(id:String)(r:V->List V->Hp->VK->Prop):Prop:=
 ∀(ae:dJ)(s:Shared)(σ:St)(H:Hp)(x:V)(xs:List V)(v:Value)(us:B2)(Q:VK),Inv X ae σ H s->RelV x v->Vals xs us->r x xs H Q ->
  wpAny (model X.prog X.w) X.A (call (.builtin id) (v::us)) (EP X ae σ Q) X.xe s
section
variable{a b:Expr}{ta tb:TE}{pos:Pos}
def FH.or{r r':R2}(h:FH X r)(h':FH X r'):FH X (λx y H Q=>r x y H Q\/r' x y H Q):=by
 intro value slice ae s σ H x y v u Q I rx ry q hs;rcases q with q|q
 ·exact h value slice ae s σ H x y v u Q I rx ry q hs
 ·exact h' value slice ae s σ H x y v u Q I rx ry q hs
def JN{r:R2}(hr:FH X r)(ha:PE X a ta)(hb:PE X b tb)(hs:iM b):PE X (.Subscript a b pos) (OD r ta tb):=by
 intro ae s σ H Q I h;exact Subscript_ (Li ha hb I h λv u s2 x y H2 I2 rx ry q=>hr a b ae s2 σ H2 x y v u Q I2 rx ry q (hs _ _))
def PZ(K:bz):R2:=λx y H Q=>∃p xs i v,x=.ref p/\y=.int i/\cV K H p xs/\Co xs i=some v/\Q v H
def P0(K:bz):R2:=λx y H Q=>∃p xs i v,x=.ref p/\y=.int i/\lh K H p xs/\Co xs i=some v/\Q v H
def P1:R2:=λx y H Q=>∃z i c,x=.str z/\y=.int i/\z.length<=sizeLine/\Co z.cps.toList i=some c/\Q (.str ⟨#[c]⟩) H
def xP:FH X (PZ X.K):=by
 intro value slice ae s σ H x y v u Q I rx ry h hs;obtain⟨p,xs,i,z,rfl,rfl,hq,he,q⟩:=h;cases rx;obtain⟨t,rfl⟩:=ry;obtain⟨its,r,pl,hz⟩:=I.list hq;obtain⟨j,h1,h2,h3,h4,h5⟩:=qH he;obtain⟨w,ew,vI⟩:=r.get h2;have hl:=r.length;have hn:=kh;have fin:EP X ae σ Q w s:=⟨z,H,I,vI,q⟩;by_cases h0:0<=i
 ·have hj:i.toNat=j:=by
   rw[seqIndex_of h0 h5]at h1;exact kg.inj h1
  exact item_listR pl.isList h0 (by omega) (by rw[hj];simpa using ew) fin hs
 ·have hj:(i+(its.toArray.size:Int)).toNat=j:=by
   rw[seqIndex_neg (by omega) h4]at h1
   rw[ck,<- hl];exact kg.inj h1
  exact subscriptTail_builtinR (x:=w) pl.isList.typeIs slot_list_getitem.lookup
   (wpAny_getItem_list_neg (Q:=λr s'=>r=w/\EP X ae σ Q r s') pl.isList (by omega) (by rw[ck]<;>omega) (by omega) (by rw[hj];simpa using ew) ⟨rfl,fin⟩) hs
def Lx:FH X (P0 X.K):=by
 intro value slice ae s σ H x y v u Q I rx ry h hs;obtain⟨p,xs,i,z,rfl,rfl,hq,he,q⟩:=h;cases rx;obtain⟨t,rfl⟩:=ry;obtain⟨its,r,pl,hz⟩:=I.tuple hq;obtain⟨j,h1,h2,h3,h4,h5⟩:=qH he;obtain⟨w,ew,vI⟩:=r.get h2;have hl:=r.length;have hn:=kh;have fin:EP X ae σ Q w s:=⟨z,H,I,vI,q⟩;exact subscriptTail_builtinR (x:=w) pl.typeIs slot_tuple_getitem.lookup
  (getItem_tuple (j:=j) (Q:=λr s'=>r=w/\EP X ae σ Q r s') pl (by omega) (by omega) (by rw[ck,<- hl];exact h1) (by simpa using ew) ⟨rfl,fin⟩) hs
def Ly:FH X P1:=by
 intro value slice ae s σ H x y v u Q I rx ry h hs;obtain⟨z,i,c,rfl,rfl,hz,he,q⟩:=h;obtain⟨t,rfl⟩:=rx;obtain⟨t',rfl⟩:=ry;obtain⟨j,h1,h2,h3,h4,h5⟩:=qH he;have hl:z.cps.toList.length=z.length:=by simp[Str.length]
 rw[hl]at h1 h4 h5;have hn:=kh;exact tail_any (typeIs_str s z t) slot_str_getitem.lookup (getItem_str (c:=c) (by
  have e1:decide (i < -(2^63:Int))=false:=decide_eq_false (by omega)
  have e2:decide (i ≥ 2^63)=false:=decide_eq_false (by omega)
  rw[e1,e2,Bool.or_false]) (by rw[h1];simpa using h2) ⟨.str ⟨#[c]⟩,H,I.tok _,⟨_,rfl⟩,q⟩) hs
def XT(K:bz):R2:=λx y H Q=>PZ K x y H Q\/P0 K x y H Q\/P1 x y H Q
def Lz:FH X (XT X.K):=xP.or (Lx.or Ly)
def vJ(its:B2)(n j:Nat)(u:Value):Obj.mapSeq (·.setIfInBounds j u) {cls:=.type "list",data:=.seq its.toArray n}={cls:=.type "list",data:=.seq (its.set j u).toArray n}:=by
 simp[Obj.mapSeq]
theorem Inv.lst{ae:dJ}{σ:St}{H:Hp}{s:Shared}{p:Addr}{xs:List V}(I:Inv X ae σ H s)(h:H p=some (.lst xs)) :
  ∃(its:B2)(n:Nat),Vals xs its/\s.heap.get? p=some {cls:=.type "list",data:=.seq its.toArray n}/\xs.length<=sizeLine:=by
 obtain⟨z,its,n,r,e⟩:=I.bL p _ h;exact⟨its,n,r,e,z⟩
def Inv.LA{ae:dJ}{σ:St}{H:Hp}{s:Shared}{p:Addr}{xs ys:List V}{its its':B2}{n n':Nat}{f:Obj->Obj}(I:Inv X ae σ H s)(h:H p=some (.lst xs))
  (ho:s.heap.get? p=some {cls:=.type "list",data:=.seq its.toArray n}) (hf:f {cls:=.type "list",data:=.seq its.toArray n}={cls:=.type "list",data:=.seq its'.toArray n'}) (r:Vals ys its') (hz:ys.length<=sizeLine) (t:Nat) :
  Inv X ae σ (upd H p (.lst ys)) {s with heap:=s.heap.update p f,toks:=t}:=by
 have e:(s.heap.update p f).get? p=some {cls:=.type "list",data:=.seq its'.toArray n'}:=by
  rw[Heap.get?_update_self f ho (by rw[hf]<;>rfl),hf]
 refine I.write (x:=p) (e:=p) (by rw[h];trivial) (.inl rfl) (λb u hb q=>(Heap.get?_update_other _ _ (Ne.symm hb)).trans q) ⟨_,e⟩ ?_
 exact⟨hz,its',n',r,e⟩
def P4:V->V->V->Hp->(Hp->Prop)->Prop:=λo i v H Q=>∃p xs k j,o=.ref p/\i=.int k/\H p=some (.lst xs)/\FF xs.length k=some j/\Q (upd H p (.lst (xs.set j v)))
def set_list:Pd X P4:=by
 intro ae s σ H o i v ov iv u Q I ro ri rv h;obtain⟨p,xs,k,j,rfl,rfl,hp,hj,q⟩:=h;cases ro;obtain⟨t,rfl⟩:=ri;obtain⟨its,n,r,ho,hz⟩:=I.lst hp;obtain⟨h1,h2,h3,h4⟩:=xO hj;have hl:=r.length;have hn:=kh;have I':Inv X ae σ (upd H p (.lst (xs.set j v))) {s with heap:=s.heap.update p (Obj.mapSeq (·.setIfInBounds j u))}:=
  I.LA hp ho (vJ its n j u) (r.set rv j) (by rw[e_];exact hz) s.toks
 by_cases h0:0<=k
 ·have hk:k.toNat=j:=by
   rw[seqIndex_of h0 h4]at h1;exact kg.inj h1
  exact PySem.W.ki_setAt ho h0 (by omega) (by rw[ck,<- hl];exact h4) (by rw[hk];exact⟨_,I',q⟩)
 ·have hk:(k+(its.toArray.size:Int)).toNat=j:=by
   rw[seqIndex_neg (by omega) h3]at h1
   rw[ck,<- hl];exact kg.inj h1
  exact PySem.W.ki_setBack ho (by omega) (by rw[ck,<- hl];exact h3) (by omega) (by rw[hk];exact⟨_,I',q⟩)
def qI(lo hi:D2)(n:Nat):(sliceBounds lo hi none n).1=((HT.gz n 0 lo:Nat):Int)/\(sliceBounds lo hi none n).2.1=((HT.gz n n hi:Nat):Int)/\(sliceBounds lo hi none n).2.2=1:=by
 refine⟨?_,?_,rfl⟩
 ·cases lo with
  |none=>simp[sliceBounds,HT.gz]
  |some i=>
   simp only[sliceBounds,HT.gz,Jv,show(1:Int) > 0 by decide,if_true]
   by_cases h:i<0
   ·simp only[h,if_true]<;>omega
   ·simp only[h,if_false]<;>omega
 ·cases hi with
  |none=>simp[sliceBounds,HT.gz]
  |some i=>
   simp only[sliceBounds,HT.gz,Jv,show(1:Int) > 0 by decide,if_true]
   by_cases h:i<0
   ·simp only[h,if_true]<;>omega
   ·simp only[h,if_false]<;>omega
def oJ(its:B2)(lo hi:D2):slicePick its.toArray lo hi none=((its.drop (HT.gz its.length 0 lo)).take (HT.gz its.length its.length hi-HT.gz its.length 0 lo)).toArray:=by
 obtain⟨h1,h2,h3⟩:=qI lo hi its.toArray.size;unfold slicePick;rw[h1,h2,h3];simp only[sliceRange_one,pick_run,ck]<;>rfl
def P5(K:bz):V->D2->D2->Hp->VK->Prop:=λx lo hi H Q=>∃a xs,x=.ref a/\cV K H a xs/\∀p,H p=none->Q (.ref p) (upd H p (.lst (z5 xs lo hi)))
def FI:JM X (P5 X.K):=by
 intro ae s σ H x v vl vu lo hi sl Q I rx hs pl pu h;obtain⟨a,xs,rfl,hx,q⟩:=h;cases rx;obtain⟨its,r,ht,hz⟩:=I.list hx;have bZ:=r.length;refine⟨"list",_,slot_list_getitem.lookup,ht.isList.typeIs,?_⟩;refine wpAny_getItem_list_slice ht.isList hs pl pu .none (by simp) ?_ (by rw[ck]<;>omega)
 rw[oJ,<- bZ];refine⟨.ref s.heap.objs.size,_,I.laid (t':=s.toks) (o:=.lst (z5 xs lo hi)) (λb ob q=>Heap.get?_push_of_some _ q) (c_ _) ?_,rfl,q _ (I.bL.fresh (c_ _))⟩;exact⟨gx (sR xs lo hi) hz,_,0,(r.drop (HT.gz xs.length 0 lo)).take (HT.gz xs.length xs.length hi-HT.gz xs.length 0 lo),Heap.get?_push_size _ rfl⟩
def eG:V->Bool
 |.non=>true
 |.bl _=>true
 |.int _=>true
 |.str _=>true
 |_=>false
def EX:V->V->Bool
 |.non,.non=>true
 |.bl a,.bl b=>a == b
 |.bl a,.int b=>(if a then 1 else 0) == b
 |.int a,.bl b=>a == (if b then 1 else 0)
 |.int a,.int b=>a == b
 |.str a,.str b=>a == b
 |_,_=>false
def Cp{A:Around}{s:Shared}{y x:V}{u v:Value}(ry:RelV y u)(rx:RelV x v)(fy:eG y=true)(fx:eG x=true):SeqAt.EqAt A s u v (EX y x):=by
 cases y with
 |non=>
  cases ry;cases x with
  |non=>cases rx;exact SeqAt.EqAt.same _
  |bl b=>cases rx;exact SeqAt.EqAt.none_bool b
  |int b=>obtain⟨t,rfl⟩:=rx;exact SeqAt.EqAt.none_int b t
  |str b=>obtain⟨t,rfl⟩:=rx;exact SeqAt.EqAt.none_str b t
  |_=>exact absurd (show false=true from fx) dP
 |bl a=>
  cases ry;cases x with
  |non=>cases rx;exact SeqAt.EqAt.bool_none a
  |bl b=>cases rx;exact SeqAt.EqAt.bool_bool a b
  |int b=>obtain⟨t,rfl⟩:=rx;exact SeqAt.EqAt.bool_int a b t
  |str b=>obtain⟨t,rfl⟩:=rx;exact SeqAt.EqAt.bool_str a b t
  |_=>exact absurd (show false=true from fx) dP
 |int a=>
  obtain⟨t',rfl⟩:=ry;cases x with
  |non=>cases rx;exact SeqAt.EqAt.int_none a t'
  |bl b=>cases rx;exact SeqAt.EqAt.int_bool a t' b
  |int b=>obtain⟨t,rfl⟩:=rx;exact SeqAt.EqAt.int_int a t' b t
  |str b=>obtain⟨t,rfl⟩:=rx;exact SeqAt.EqAt.int_str a t' b t
  |_=>exact absurd (show false=true from fx) dP
 |str a=>
  obtain⟨t',rfl⟩:=ry;cases x with
  |non=>cases rx;exact SeqAt.EqAt.str_none a t'
  |bl b=>cases rx;exact SeqAt.EqAt.str_bool a t' b
  |int b=>obtain⟨t,rfl⟩:=rx;exact SeqAt.EqAt.str_int a t' b t
  |str b=>obtain⟨t,rfl⟩:=rx;exact SeqAt.EqAt.str_str a t' b t
  |_=>exact absurd (show false=true from fx) dP
 |_=>exact absurd (show false=true from fy) dP
def vK(x:V)(u:Value):Bool:=match u with
 |.none=>EX .non x
 |.bool b=>EX (.bl b) x
 |.int i _=>EX (.int i) x
 |.str z _=>EX (.str z) x
 |_=>false
def Cq{x y:V}{u:Value}(r:RelV y u)(f:eG y=true):vK x u=EX y x:=by
 cases y with
 |non=>cases r;rfl
 |bl b=>cases r;rfl
 |int i=>obtain⟨t,rfl⟩:=r;rfl
 |str z=>obtain⟨t,rfl⟩:=r;rfl
 |_=>exact absurd (show false=true from f) dP
theorem jF{x:V}:∀{xs:List V}{us:B2},Vals xs us->xs.all eG=true->us.any (vK x)=xs.any λy=>EX y x
 |_,_,.nil,_=>rfl
 |y::xs,u::us,.cons r t,f=>by
  rw[fh,dq]at f;rw[qo,qo,Cq r f.1,jF t f.2]
theorem iw{A:Around}{s:Shared}{x:V}{v:Value}(rx:RelV x v)(fx:eG x=true):∀{xs:List V}{us:B2},Vals xs us->xs.all eG=true->∀u∈us,SeqAt.EqAt A s u v (vK x u)
 |_,_,.nil,_=>λu hu=>by cases hu
 |y::xs,u::us,.cons r t,f=>λu' hu=>by
  rw[fh,dq]at f;rcases cA.mp hu with rfl|hu
  ·rw[Cq r f.1];exact Cp r rx f.1 fx
  ·exact iw rx fx t f.2 u' hu
def Vv(x:V)(xs:List V):Bool:=xs.any λy=>EX y x
def Uq(K:bz)(neg:Bool):R2:=λx y H Q=>∃p xs,y=.ref p/\(cV K H p xs\/lh K H p xs)/\eG x=true/\xs.all eG=true/\Q (.bl (if neg then !Vv x xs else Vv x xs)) H
def z6:gc X (compareOp .In) (Uq X.K false):=by
 intro ae s σ H x y v u Q I rx ry h;obtain⟨p,xs,rfl,hq,fx,fs,q⟩:=h;cases ry;rcases hq with hq|hq
 ·obtain⟨its,r,pl,hz⟩:=I.list hq
  refine SeqAt.in_listAt (vK x) pl.isList (λw hw=>iw rx fx r fs w (by simpa using hw)) ⟨.bl _,H,I,rfl,?_⟩
  rw[show its.toArray.any (vK x)=its.any (vK x) by simp,jF r fs]
  exact q
 ·obtain⟨its,r,pl,hz⟩:=I.tuple hq
  refine SeqAt.in_tupleAt (vK x) pl (λw hw=>iw rx fx r fs w (by simpa using hw)) ⟨.bl _,H,I,rfl,?_⟩
  rw[show its.toArray.any (vK x)=its.any (vK x) by simp,jF r fs]
  exact q
def qJ:gc X (compareOp .NotIn) (Uq X.K true):=by
 intro ae s σ H x y v u Q I rx ry h;obtain⟨p,xs,rfl,hq,fx,fs,q⟩:=h;cases ry;rcases hq with hq|hq
 ·obtain⟨its,r,pl,hz⟩:=I.list hq
  refine SeqAt.notIn_listAt (vK x) pl.isList (λw hw=>iw rx fx r fs w (by simpa using hw)) ⟨.bl _,H,I,rfl,?_⟩
  rw[show its.toArray.any (vK x)=its.any (vK x) by simp,jF r fs]
  exact q
 ·obtain⟨its,r,pl,hz⟩:=I.tuple hq
  refine SeqAt.notIn_tupleAt (vK x) pl (λw hw=>iw rx fx r fs w (by simpa using hw)) ⟨.bl _,H,I,rfl,?_⟩
  rw[show its.toArray.any (vK x)=its.any (vK x) by simp,jF r fs]
  exact q
def gG:eX X (.type "list") (λxs H Q=>∃p ys,xs=[.ref p]/\(cV X.K H p ys\/lh X.K H p ys)/\∀l,H l=none->Q (.ref l) (upd H l (.lst ys))):=by
 intro ae s σ H xs us Q I r h;obtain⟨p,ys,rfl,hq,q⟩:=h;obtain⟨u,rfl,rx⟩:=vals1 r;cases rx;have fin:∀(its:B2),Vals ys its->ys.length<=sizeLine->∀(h':Heap)(c':Nat),(∀b o',s.heap.get? b=some o'->h'.get? b=some o') ->
   h'.get? s.heap.objs.size=some {cls:=.type "list",dict:=none,data:=.seq its.toArray c',slots:=#[]}->EP X ae σ Q (.ref s.heap.objs.size) {s with heap:=h'}:=λits r' hz h' c' kp e=>
  ⟨.ref s.heap.objs.size,_,I.laid (t':=s.toks) kp (c_ _) (show cK X.prog X.w _ h' _ (.lst ys)from⟨hz,its,c',r',e⟩),rfl,q _ (I.bL.fresh (c_ _))⟩
 rcases hq with hq|hq
 ·obtain⟨its,r',pl,hz⟩:=I.list hq
  have bZ:=r'.length;obtain⟨o,ho,hc,n,hd⟩:=pl.isList;exact call_list_seq p (.inl rfl) ho hc hd (λh' c' kp e=>fin its r' hz h' c' kp e) (by simp only[ck]<;>omega)
 ·obtain⟨its,r',pl,hz⟩:=I.tuple hq
  have bZ:=r'.length;obtain⟨o,ho,hc,n,hd⟩:=pl;exact call_list_seq p (.inr rfl) ho hc hd (λh' c' kp e=>fin its r' hz h' c' kp e) (by simp only[ck]<;>omega)
def Vw(K:bz)(T:String)(x:V)(H:Hp):Prop:=match x with
 |.str _=>T = "str"
 |.int _=>T = "int"
 |.ref p=>(T = "list" /\ ∃xs,cV K H p xs)\/(T = "tuple" /\ ∃o,K.lookup p=some o/\o.cls=.type "tuple" /\ o.dict=none) \/
   (T = "dict" /\ ((∃aS,H p=some (.dK aS))\/∃aS,H p=some (.dT aS)))\/(T = "set" /\ ∃S n,H p=some (.set S n))
 |_=>False
def Cr{ae:dJ}{σ:St}{H:Hp}{s:Shared}{T:String}{x:V}{v:Value}(I:Inv X ae σ H s)(r:RelV x v)(ty:Vw X.K T x H) :
  s.TypeIs v T/\∀a,v=.ref a->∃ob,s.heap.get? a=some ob/\ob.dict=none:=by
 cases x with
 |str z=>
  obtain⟨t,rfl⟩:=r;cases(show T = "str"from ty);exact⟨typeIs_str s z t,λ_ e=>nomatch e⟩
 |int i=>
  obtain⟨t,rfl⟩:=r;cases(show T = "int"from ty);exact⟨typeIs_int s i t,λ_ e=>nomatch e⟩
 |ref p=>
  cases r;rcases ty with⟨rfl,xs,hq⟩|⟨rfl,o,hk,hc,hd⟩|⟨rfl,hk⟩|⟨rfl,S,n,hk⟩
  ·obtain⟨its,_,pl,_⟩:=I.list hq
   refine⟨pl.isList.typeIs,λa e=>?_⟩;cases e;obtain⟨o,n,e,c,hd,_⟩:=pl;exact⟨o,e,hd⟩
  ·refine⟨⟨o,I.j6 p o hk,hc⟩,λa e=>?_⟩
   cases e;exact⟨o,I.j6 _ o hk,hd⟩
  ·have z:∃o,s.heap.get? p=some o/\o.ExactDict:=by
    rcases hk with⟨aS,hk⟩|⟨aS,hk⟩
    ·obtain⟨_,_,_,_,o,_,_,e,ex,_⟩:=I.bL p _ hk
     exact⟨o,e,ex⟩
    ·obtain⟨_,_,_,_,o,_,_,e,ex,_⟩:=I.bL p _ hk
     exact⟨o,e,ex⟩
   obtain⟨o,e,ex⟩:=z;refine⟨⟨o,e,ex.1⟩,λa e2=>?_⟩;cases e2;exact⟨o,e,ex.2.1⟩
  ·obtain⟨o,_,_,_,e,ex,_⟩:=I.bL p _ hk
   refine⟨⟨o,e,ex.1⟩,λa e2=>?_⟩;cases e2;exact⟨o,e,ex.2.1⟩
 |_=>exact False.elim ty
def Vx(K:bz)(T:String)(r:V->List V->Hp->VK->Prop)(to:TE):TE:=λσ H Q=>to σ H λx H1=>Vw K T x H1/\r x [] H1 Q
def XU(K:bz)(T:String)(r:V->List V->Hp->VK->Prop)(to:TE)(t:TA):TE:=λσ H Q=>to σ H λx H1=>Vw K T x H1/\t σ H1 λxs H2=>r x xs H2 Q
variable{o e:Expr}{es:Bz}{to:TE}{t:TA}{name:Str}{bF cC:Pos}{T id:String}{r:V->List V->Hp->VK->Prop}
def LB(pa:PlainAttrs T)(slot:Slot T name id)(P6:typeOf (.builtin id)=pure (.type "method_descriptor"))(hm:vH X id r)(ho:PE X o to)
  (sU:attributeBase o name X.env (eval o X.env)=eval o X.env:=by rfl) (cL:(bF.endLine == cC.line)=true:=by rfl):PE X (.Call (.Attribute o name bF) [] [] cC) (Vx X.K T r to):=by
 intro ae s σ H Q I h;refine wpAny_Call_method0_late sU cL (bX (ho ae s σ H _ I h) λv s1 zz=>?_);obtain⟨x,H1,I1,r1,ty,q1⟩:=zz;obtain⟨h1,h2⟩:=Cr I1 r1 ty;exact⟨T,id,pa,slot,P6,h1,h2,Calls.callWith_builtin rfl (PySem.evalArgs_none (hm ae s1 σ H1 x [] v [] Q I1 r1 .nil q1))⟩
def pM(pa:PlainAttrs T)(slot:Slot T name id)(P6:typeOf (.builtin id)=pure (.type "method_descriptor"))(hm:vH X id r)(ho:PE X o to)(ha:PA X (e::es) t)
  (sU:attributeBase o name X.env (eval o X.env)=eval o X.env:=by rfl)
  (Vy:((backTo cC (starEach (e::es) X.env)).all (λx=>!x.1)&&(backToKw cC (keywordEach [] X.env)).all (λx=>x.1.isSome)
   && decide ((e::es).length+([]:List Keyword).length+(if([]:List Keyword).isEmpty then 0 else 1)<30))=true:=by rfl)
  (cL:(bF.endLine == cC.line)=true:=by rfl) (hs:starEach (e::es) X.env=(false,eval e X.env)::starEach es X.env:=by rfl) (LC:(backTo cC (starEach es X.env)).any (·.1)=false:=by rfl) :
  PE X (.Call (.Attribute o name bF) (e::es) [] cC) (XU X.K T r to t):=by
 intro ae s σ H Q I h;refine wpAny_Call_method_late sU Vy cL rfl (bX (ho ae s σ H _ I h) λv s1 zz=>?_);obtain⟨x,H1,I1,r1,ty,q1⟩:=zz;obtain⟨h1,h2⟩:=Cr I1 r1 ty;refine⟨T,id,pa,slot,P6,h1,h2,?_⟩;have hA:=ha cC ae s1 σ H1 _ I1 q1;rw[hs]at hA ⊢;refine Calls.callWith_builtin (by show(false ||(backTo cC (starEach es X.env)).any (·.1))=false;rw[LC]<;>rfl) (Calls.evalArgs_plain ?_)
 exact bX hA λus s2 ⟨vs,H2,I2,r2,q2⟩=>hm ae s2 σ H2 x vs v us Q I2 r1 r2 q2
end
def Ur(X:Cx)(id:String)(r:V->List V->Hp->VK->Prop):Prop:=
 ∀(ae:dJ)(s:Shared)(σ:St)(H:Hp)(x:V)(xs:List V)(v:Value)(us:B2)(Q:VK),Inv X ae σ H s->RelV x v->Vals xs us->r x xs H Q ->
  wpAny (model X.prog X.w) X.A (call (.builtin id) (v::us)) (EP X ae σ Q) X.xe s
def Vals.one:∀{x:V}{us:B2},Vals [x] us->∃u,us=[u]/\RelV x u
 |_,_,.cons r .nil=>⟨_,rfl,r⟩
def Vals.two:∀{x y:V}{us:B2},Vals [x,y] us->∃u v,us=[u,v]/\RelV x u/\RelV y v
 |_,_,_,.cons r (.cons q .nil)=>⟨_,_,rfl,r,q⟩
def Vals.zero:∀{us:B2},Vals [] us->us=[]
 |_,.nil=>rfl
theorem Vals.dropLast{xs:List V}{us:B2}(h:Vals xs us):Vals xs.dropLast us.dropLast:=by
 induction h with
 |nil=>exact .nil
 |cons r t ih=>
  cases t with
  |nil=>exact .nil
  |cons q t'=>exact .cons r ih
theorem Vals.eraseIdx:∀{xs:List V}{us:B2}(i:Nat),Vals xs us->Vals (xs.eraseIdx i) (us.eraseIdx i)
 |_,_,_,.nil=>.nil
 |_,_,0,.cons _ t=>t
 |_,_,i+1,.cons r t=>.cons r (Vals.eraseIdx i t)
theorem Vals.rep{xs:List V}{us:B2}(h:Vals xs us):∀k:Nat,Vals (dM k xs).flatten (dM k us).flatten
 |0=>.nil
 |k+1=>by
  rw[ju,ju,jv,jv];exact Vals.append h (Vals.rep h k)
def vL{α:Type}(l:List α):l.eraseIdx (l.length-1)=l.dropLast:=by
 induction l with
 |nil=>rfl
 |cons a r ih=>
  cases r with
  |nil=>rfl
  |cons b r=>
   have e:(a::b::r).length-1=((b::r).length-1)+1:=by
    have h1:(a::b::r).length=r.length+2:=rfl;have h2:(b::r).length=r.length+1:=rfl;omega
   rw[e,List.eraseIdx_cons_succ,ih]
   all_goals rfl
theorem pO{α:Type}:∀(l:List α)(i:Nat),(l.eraseIdx i).length<=l.length
 |[],_=>c_ _
 |_::_,0=>BL _
 |_::r,i+1=>Nat.succ_le_succ (pO r i)
theorem foldl_rep(its:B2):∀(k:Nat)(bx:B2),
  Br (λx1 x2=>x1++x2) bx.toArray (dM k its.toArray)=(bx++(dM k its).flatten).toArray
 |0,bx=>by simp
 |k+1,bx=>by
  have e:bx.toArray++its.toArray=(bx++its).toArray:=by simp
  have e2:(bx++its)++(dM k its).flatten=bx++(dM (k+1) its).flatten:=by
   rw[ju,jv,fK]
  rw[<- e2,<- foldl_rep its k (bx++its),<- e,ju,ou]
section
variable{ae:dJ}{σ:St}{H:Hp}{s:Shared}{l b:Addr}{xs ys zs:List V}
def Inv.FJ{its its':B2}{n:Nat}{f:Array Value->Array Value}{t':Nat}(I:Inv X ae σ H s)(hH:H l=some (.lst xs))
  (e:s.heap.get? l=some {cls:=.type "list",data:=.seq its.toArray n}) (hf:f its.toArray=its'.toArray) (hv:Vals ys its') (hz:ys.length<=sizeLine) :
  Inv X ae σ (upd H l (.lst ys)) {s with heap:=s.heap.update l (Obj.mapSeq f),toks:=t'}:=by
 have q:=PySem.IsL.update e f;rw[hf]at q;refine I.write (x:=l) (e:=l) (by rw[hH];exact trivial) (.inl rfl) (λb' u hb hu=>(Heap.get?_update_other s.heap (Obj.mapSeq f) (Ne.symm hb)).trans hu) ⟨_,q⟩ ?_
 exact⟨hz,its',_,hv,q⟩
def Inv.z7{its:B2}{t':Nat}(I:Inv X ae σ H s)(hv:Vals ys its)(hz:ys.length<=sizeLine) :
  Inv X ae σ (upd H s.heap.objs.size (.lst ys)) {s with heap:=s.heap.push {cls:=.type "list",data:=.seq its.toArray},toks:=t'}:=
 I.laid (λ_ _ q=>Heap.get?_push_of_some _ q) (c_ _) ⟨hz,its,0,hv,Heap.get?_push_size _ rfl⟩
theorem Inv.fresh(I:Inv X ae σ H s):H s.heap.objs.size=none:=I.bL.fresh (c_ _)
def Inv.sV(I:Inv X ae σ H s)(hH:H l=some (.lst xs)):xs.length<=sizeLine/\∃(its:B2)(n:Nat),Vals xs its/\xs.length=its.length/\s.heap.get? l=some {cls:=.type "list",data:=.seq its.toArray n}:=by
 obtain⟨z,its,n,r,e⟩:=I.bL l _ hH;exact⟨z,its,n,r,r.length,e⟩
def sW{n:Nat}(h:n<=sizeLine):Builtin.List.listTooLong n=false:=by
 unfold Builtin.List.listTooLong;exact decide_eq_false (by omega)
end
section
def FN:V->List V->Hp->VK->Prop:=λx vs H Q=>∃l xs y,x=.ref l/\vs=[y]/\H l=some (.lst xs)/\xs.length<sizeLine/\Q .non (upd H l (.lst (xs++[y])))
def km:Ur X "list.append" FN:=by
 intro ae s σ H x vs v us Q I rx rv h;obtain⟨l,xs,y,rfl,rfl,hH,hz,q⟩:=h;cases rx;obtain⟨u,rfl,ru⟩:=rv.one;obtain⟨z,its,n,r,hl,e⟩:=I.sV hH;refine call_meets F.slot_list_append ⟨_,e,rfl⟩ F.entry_list_append (F.args_list_append_2 _ _) (PySem.list_append l its.toArray n u (by rw[ck];omega)) ⟨e,?_⟩
 refine⟨.non,_,I.FJ (its':=its++[u]) hH e (by simp) (r.append (.cons ru .nil)) ?_,rfl,q⟩
 rw[b9,zG];omega
def FP:V->List V->Hp->VK->Prop:=λx vs H Q=>∃l b xs zs,x=.ref l/\vs=[.ref b]/\H l=some (.lst xs)/\H b=some (.lst zs)/\xs.length+zs.length<=sizeLine/\Q .non (upd H l (.lst (xs++zs)))
def z8:Ur X "list.extend" FP:=by
 intro ae s σ H x vs v us Q I rx rv h;obtain⟨l,b,xs,zs,rfl,rfl,hH,hB,hz,q⟩:=h;cases rx;obtain⟨u,rfl,ru⟩:=rv.one;cases ru;obtain⟨z,its,n,r,hl,e⟩:=I.sV hH;obtain⟨z2,vM,n2,r2,FQ,e2⟩:=I.sV hB;have hsz:its.toArray.size+vM.toArray.size<=sizeLine:=by rw[ck,ck];omega
 have Cs:¬ (!its.toArray.isEmpty&&Builtin.List.listTooLong (its.toArray.size+vM.toArray.size))=true:=by
  rw[sW hsz,BR];exact dP
 refine call_meets F.slot_list_extend ⟨_,e,rfl⟩ F.entry_list_extend (F.args_list_extend_2 _ _)
  (AutoSeq1.list_extend_list_list_0 l its.toArray n b vM.toArray n2 Cs (by rw[ck];omega) (by omega)) ⟨e,e2,?_⟩
 refine⟨.non,_,I.FJ (its':=its++vM) hH e (by simp) (r.append r2) ?_,rfl,q⟩
 rw[b9];omega
def Vz:V->List V->Hp->VK->Prop:=λx vs H Q=>∃l xs y,x=.ref l/\vs=[]/\H l=some (.lst xs)/\xs[xs.length-1]?=some y/\Q y (upd H l (.lst xs.dropLast))
def LF:Ur X "list.pop" Vz:=by
 intro ae s σ H x vs v us Q I rx rv h;obtain⟨l,xs,y,rfl,rfl,hH,hy,q⟩:=h;cases rx;have ZI:=rv.zero;subst ZI;obtain⟨z,its,n,r,hl,e⟩:=I.sV hH;obtain⟨u,hu,ru⟩:=r.get hy;have ZJ:its.toArray[its.toArray.size-1]?=some u:=by
  show its.toArray[its.length-1]?=some u;rw[<- Array.getElem?_toList,<- hl];exact hu
 refine call_meets F.slot_list_pop ⟨_,e,rfl⟩ F.entry_list_pop (F.args_list_pop_1 _) (MeetsSeq.list_pop_last l its.toArray n u ZJ (by rw[ck];omega)) ⟨e,?_⟩
 refine⟨y,_,I.FJ (its':=its.dropLast) hH e ?_ r.dropLast ?_,ru,q⟩
 ·show its.toArray.eraseIdxIfInBounds (its.toArray.size-1)=its.dropLast.toArray
  rw[ck,IF,vL]
 ·rw[List.length_dropLast]
  omega
def LG:V->List V->Hp->VK->Prop:=λx vs H Q=>∃l xs i k y,x=.ref l/\vs=[.int i]/\H l=some (.lst xs)/\-(2^63)<=i/\i<2^63/\seqIndex? i xs.length=some k/\xs[k]?=some y/\Q y (upd H l (.lst (xs.eraseIdx k)))
def Ct:Ur X "list.pop" LG:=by
 intro ae s σ H x vs v us Q I rx rv h;obtain⟨l,xs,i,k,y,rfl,rfl,hH,h1,h2,hk,hy,q⟩:=h;cases rx;obtain⟨u,rfl,ru⟩:=rv.one;obtain⟨t,rfl⟩:=ru;obtain⟨z,its,n,r,hl,e⟩:=I.sV hH;obtain⟨w,hw,vI⟩:=r.get hy;refine call_meets F.slot_list_pop ⟨_,e,rfl⟩ F.entry_list_pop (F.args_list_pop_2 _ _)
  (MeetsSeq.list_pop_at l its.toArray n i t k w (fitsIndex_both h1 h2) (by rw[ck,<- hl];exact hk) (by rw[<- Array.getElem?_toList];exact hw) (by rw[ck];omega)) ⟨e,?_⟩
 refine⟨y,_,I.FJ (its':=its.eraseIdx k) hH e ?_ (r.eraseIdx k) ?_,vI,q⟩
 ·show its.toArray.eraseIdxIfInBounds k=(its.eraseIdx k).toArray
  rw[IF]
 ·have:=pO xs k
  omega
def P7:R2:=λx y H Q=>∃l b xs zs,x=.ref l/\y=.ref b/\H l=some (.lst xs)/\H b=some (.lst zs)/\xs.length+zs.length<=sizeLine/\∀p,H p=none->Q (.ref p) (upd H p (.lst (xs++zs)))
def LH:gc X (binaryOp .Add) P7:=by
 intro ae s σ H x y v u Q I rx ry h;obtain⟨l,b,xs,zs,rfl,rfl,hH,hB,hz,q⟩:=h;cases rx;cases ry;obtain⟨z,its,n,r,hl,e⟩:=I.sV hH;obtain⟨z2,vM,n2,r2,FQ,e2⟩:=I.sV hB;refine PySem.P.add_list e e2 ?_ (by rw[ck,ck];omega)
 have ea:its.toArray++vM.toArray=(its++vM).toArray:=by simp
 rw[ea];exact⟨.ref _,_,I.z7 (t':=s.toks) (r.append r2) (by rw[b9];omega),rfl,q _ I.fresh⟩
def P8:R2:=λx y H Q=>∃l k xs,x=.ref l/\y=.int k/\H l=some (.lst xs)/\-(2^63)<=k/\k<2^63/\xs.length*k.toNat<=sizeLine /\
 ∀p,H p=none->Q (.ref p) (upd H p (.lst (dM k.toNat xs).flatten))
def len_rep{α:Type}(xs:List α)(k:Nat):(dM k xs).flatten.length=k*xs.length:=by
 induction k with
 |zero=>simp
 |succ k ih=>rw[ju,jv,b9,ih,Jh,Nat.add_comm]
def Cu:gc X (binaryOp .Mult) P8:=by
 intro ae s σ H x y v u Q I rx ry h;obtain⟨l,k,xs,rfl,rfl,hH,h1,h2,hz,q⟩:=h;cases rx;obtain⟨t,rfl⟩:=ry;obtain⟨z,its,n,r,hl,e⟩:=I.sV hH;have bZ:its.toArray.size*k.toNat<=sizeLine:=by rw[ck,<- hl];exact hz
 have VA:¬ its.toArray.size*k.toNat > (2^63-1)/8:=by
  have:(sizeLine:Nat)<=(2^63-1)/8:=by decide
  omega
 have VB:¬ (!Builtin.List.listFitsIndex k)=true:=by
  rw[fitsIndex_both h1 h2];exact dP
 have Cs:¬ Builtin.List.listTooLong (its.toArray.size*k.toNat)=true:=by
  rw[sW bZ];exact dP
 have VC:Br (λx1 x2=>x1++x2) #[] (dM (if its.toArray.isEmpty=true then 0 else k.toNat) its.toArray)=(dM k.toNat its).flatten.toArray:=by
  have f0:∀m:Nat,Br (λx1 x2=>x1++x2) #[] (dM m its.toArray)=(dM m its).flatten.toArray:=λm=>by
   have:=foldl_rep its m []
   rw[jw]at this;exact this
  rw[f0];cases its with
  |nil=>simp
  |cons a r'=>rw[if_neg (by simp)]
 refine wpAny_binaryOp_repeat_ref (T := "list") (U := "int") (by decide) ⟨_,e,rfl⟩ (λs'=>typeIs_int s' k t) noFill_list_mul F.fills_int_mul F.slot_int_rmul repeat_list F.slot_int_index.lookup
  (call_meets F.slot_int_rmul (typeIs_int s k t) F.entry_int_rmul (F.args_int_rmul_2 _ _) (int___rmul___int_list k t l its.toArray n)
   ⟨e,rfl,⟨_,e,rfl⟩,call_meets F.slot_list_mul ⟨_,e,rfl⟩ F.entry_list_mul (F.args_list_mul_2 _ _) (AutoListH.list___mul___list_int_3 l its.toArray n k t VB VA Cs) ⟨e,?_⟩⟩)
 rw[VC];exact⟨.ref _,_,I.z7 (t':=s.toks) (r.rep k.toNat) (by rw[len_rep,Ji];exact hz),rfl,q _ I.fresh⟩
end
section
variable{prog:Program}{w:World}{A:Around}{E:Value->Shared->Prop}{s:Shared}
set_option maxRecDepth 100000 in
end
section
end
end L2
namespace Att
open PySem PySem.W PySem.Calls PyProof.Rows
def lj{P:Params}{h:Heap}:∀(ns:Dx)(vs:B2),WellAll P h vs (ns.map WData.int)->IntsAre vs ns:=by
 intro ns
 induction ns with
 |nil=>
  intro vs w;rw[wY]at w;cases w;exact .nil
 |cons n ns ih=>
  intro vs w;rw[dO]at w;cases w with
  |cons a b=>
   cases a;exact .cons _ _ (ih _ b)
def z9{l:OpenLaw}{n:Nat}(hn:l.most=some n){P:Params}{h:Heap}{args:List WData}{vals:B2}
  (FU:l.row.toRowW.claim.pre args=true) (LI:WellAll P h vals args) :
  ∃a vs ns,vals=[Value.ref a]/\args=[WData.list (ns.map WData.int)]/\h.get? a=some {cls:=.type "list",data:=.seq vs.toArray}/\IntsAre vs ns/\ns.length<=n:=by
 have ZK:WShape.hasAll [] args [.list .int]=true:=(pre_splitW FU).1;have hc:l.pre.holds [] {args:=args}=true:=(pre_splitW FU).2;obtain⟨d,r,rfl,h1,h2⟩:=hasAllW_cons ZK
 obtain rfl:=hasAllW_nil h2
 obtain⟨xs,rfl,h3⟩:=hasW_list h1;obtain⟨ns,rfl⟩:=items_int h3;have bZ:ns.length<=n:=by
  unfold OpenLaw.pre at hc;have h4:(WTm.not (.lt (.lit (.int (n:Int))) (.len (.arg 0)))).holds [] {args:=[.list (ns.map .int)]}=true:=by
   have h4:=(holds_andW hc).1;rw[hn]at h4;exact h4
  have h5:=condW_of h4 (w_not (w_lt w_lit (w_len_list (w_arg rfl))));rw[bK]at h5;refine Nat.le_of_not_lt λq=>?_;have q':(n:Int)<((ns.length:Nat):Int):=by omega
  first
   |(rw[decide_eq_true q']at h5;exact absurd h5 (by decide))
   |(simp at h5;omega)
 cases LI with
 |cons w1 w2=>
  cases w2;cases w1 with
  |list ho hall=>exact⟨_,_,ns,rfl,rfl,ho,lj ns _ hall,bZ⟩
def z_(l:OpenLaw)(args:List WData):l.row.toRowW.claim.post args (.bool true) args=true:=
 postW_of (r:=l.row.toRowW) (X:=(true == true))
  (show WShape.has [] (.bool true) .bool=true by first|rfl|decide|simp[WShape.has,WShape.arms,WShape.armsAll])
  (show(WTm.eq .res (.lit (.bool true))).value [] {args:=args,res:=some (.bool true),after:=args}=some (.bool (true == true))from w_eq_bool (w_res rfl) w_lit) rfl
section
variable{prog:Program}{w:World}{A:Around}{E:Value->Shared->Prop}{s:Shared}{K:Frag}
end
end Att
namespace L2
open PySem PySem.Spec PyProof.Rows
theorem pP:∀{vs:B2}{ns:Dx},IntsAre vs ns->Vals (ns.map V.int) vs
 |_,_,.nil=>.nil
 |_,_,.cons n t h=>.cons ⟨t,rfl⟩ (pP h)
def LJ(H:Hp):Prop:=∀b,H b=none\/∃o xs,H b=some (.iL o (.lst xs))
def Cv{P:Program}{w:World}{K:bz}{mg mb:Str->D1}{CX:A0}{k:Nat}{fa a:Addr}{fd:FuncData}{x:Str}{sp:Sp}{s₁:Shared}{vs:B2}{ns:Dx}
  (KX:K.In s₁.heap) (nY:s₁.heap.Ns mainGlobals mg) (hb:s₁.heap.Ns builtinsNs mb) (ZL:∀x:Str,x ≠ "__name__" -> mb x=bootBuiltins x) (VD:s₁.heap.NoLimit) (hg:s₁.gens=#[])
  (ha:s₁.heap.get? a=some {cls:=.type "list",data:=.seq vs.toArray}) (hi:IntsAre vs ns) (hl:ns.length<=sizeLine) (hr:b8 k callerA)
  (F:∀base:Heap,K.In base->base.Ns mainGlobals mg->dh P w K mg base CX k fa fd [x] sp) (P9:∀(s:Shared)(u:Value),BindsTo s fd ⟨[u],[]⟩ [(x,u)])
  (Fx:∀H:Hp,LJ H->cV K H a (ns.map V.int)->sp [.ref a] H (λv _=>v=.bl true) λ_ _ _=>False)
  (ZM:∀H e s',CX [] H s₁ (λ_ _ _=>False) e s'->False) :
  codeAny (model P w) callerA (.call (.ref fa) ⟨[.ref a],[]⟩) (λr s'=>r=.ok (.ret (.bool true))/\OldK s₁.heap s'.heap/\s'.os=s₁.os/\AllBare s'.gens) s₁:=by
 have rv:=pP hi;have VE:=hi.length;have core:∀H:Hp,LJ H->cV K H a (ns.map V.int)->jq P w H s₁.heap->(∀b,H b≠none->b=a)->(H a≠none->K.lookup a=none) ->
   codeAny (model P w) callerA (.call (.ref fa) ⟨[.ref a],[]⟩) (λr s'=>r=.ok (.ret (.bool true))/\OldK s₁.heap s'.heap/\s'.os=s₁.os/\AllBare s'.gens) s₁:=by
  intro H hO hS bL hA hK;have xQ:∀{b:Addr}{o:Obj},s₁.heap.get? b=some o->H b=none->(qz s₁.heap H).get? b=some o:=λe n=>B0 e n;have PU:∀{b:Addr}{o:Obj}{es:Array DictEntry}{ep:Nat},s₁.heap.get? b=some o->o.data=.dict es ep->H b=none:=λ{b o es ep} e d=>by
   cases q:H b with
   |none=>rfl
   |some u=>
    have e':b=a:=hA b (by rw[q];simp)
    subst e';rw[ha]at e;cases e;have d':Data.seq vs.toArray _=Data.dict es ep:=d;cases d'
  have Us:∀{b:Addr}{m:Str->D1},s₁.heap.Ns b m->(qz s₁.heap H).Ns b m:=λ{b m} ⟨o,es,ep,e,d,r⟩=>⟨o,es,ep,xQ e (PU e d),d,r⟩;have XW:K.In (qz s₁.heap H):=λb o e=>xQ (KX b o e) (by
   cases q:H b with
   |none=>rfl
   |some u=>
    have e':b=a:=hA b (by rw[q];simp)
    subst e';rw[hK (by rw[q];simp)]at e;cases e)
  have hM:Mod K mg (qz s₁.heap H):=⟨XW,Us nY,⟨mb,Us hb,ZL⟩,let⟨mc,h1,h2⟩:=VD;⟨mc,Us h1,h2⟩⟩;have e0:vG P w K mg (qz s₁.heap H) callerA [] s₁ H:=⟨rfl,hM,λb o e=>E6 e,BI (zP _ _),trivial,λb hb=>absurd (show b∈([]:BM)from hb) (by simp),bL,.of_eq hg⟩
  refine codeAny_mono ((F _ XW (Us nY)).run callerA [] s₁ H ⟨[.ref a],[]⟩ [.ref a] [.ref a] _ _ hr e0 (P9 s₁ (.ref a)) (.cons rfl .nil) (Fx H hO hS)) λr s' h=>?_;cases r with
  |error e=>exact(ZM H e s' h).elim
  |ok fl=>
   cases fl with
   |next=>exact False.elim h
   |brk=>exact False.elim h
   |cont=>exact False.elim h
   |ret u=>
    obtain⟨v,H',os,bare,un,VF,r',q⟩:=h;have q':v=.bl true:=q;subst q'
    obtain rfl:u=Value.bool true:=r'
    refine⟨rfl,OldK.of_keep λb o e=>?_,os,bare⟩;cases q:H b with
    |none=>exact un.keep b o e q (by intro z;exact absurd (show b∈([]:BM)from z) (by simp)) (by simp)
    |some u=>
     rcases hO b with z|⟨ob,xs,z⟩
     ·rw[q]at z;cases z
     ·have z2:=un.qy b ob _ z
      obtain⟨e1,_⟩:=bL b _ z;obtain⟨e2,_⟩:=VF b _ z2;rw[e]at e1;cases e1;exact e2
 cases hk:K.lookup a with
 |some o=>
  have e:=KX a o hk;rw[ha]at e;cases e;refine core (λ_=>none) (λ_=>.inl rfl) (.inr ⟨_,vs.toArray,_,hk,rfl,rfl,rfl,by rw[ck,VE];exact hl,by simpa using rv⟩) (λb u z=>by have z':(none:Option HO)=some u:=z;cases z') (λb z=>absurd rfl z) λz=>absurd rfl z
 |none=>
  refine core (λb=>if b=a then some (.iL {cls:=.type "list",data:=.seq vs.toArray} (.lst (ns.map V.int)))else none) (λb=>?_) (.inl (.inr ⟨{cls:=.type "list",data:=.seq vs.toArray},if_pos rfl⟩)) (λb u z=>?_) (λb z=>?_) λ_=>hk
  ·by_cases hb:b=a
   ·exact .inr ⟨_,_,if_pos hb⟩
   ·exact .inl (if_neg hb)
  ·by_cases hb:b=a
   ·have z':=(if_pos hb).symm.trans z
    cases z';subst hb;exact⟨ha,by rw[bK];exact hl,vs,_,rv,ha⟩
   ·have z':=(if_neg hb).symm.trans z
    cases z'
  ·by_cases hb:b=a
   ·exact hb
   ·exact absurd (if_neg hb) z
def inClass(s:Stmt)(j:Nat):Stmt:=match s with
 |.ClassDef _ _ _ body _ _ _ _ _ _ _=>body.getD j (.Pass ⟨0,0,0,0⟩)
 |_=>.Pass ⟨0,0,0,0⟩
def jG(s:Stmt):Arguments:=match s with
 |.FunctionDef _ a _ _ _ _ _ _ _ _=>a
 |_=>{posonlyargs:=[],args:=[],vararg:=none,kwonlyargs:=[],kw_defaults:=[],kwarg:=none,defaults:=[]}
def bA(s:Stmt):Ee:=match s with
 |.FunctionDef _ _ b _ _ _ _ _ _ _=>b
 |_=>[]
def aD(s:Stmt):Scope:=match s with
 |.FunctionDef _ _ _ _ _ _ sc _ _ _=>sc
 |_=>{kind:=.function,names:=[],isGenerator:=false,isCoroutine:=false}
abbrev ko:A0:=λ_ _ _ _ _ _=>False
abbrev E0:XK:=λ_ _ _=>False
def mw{X:Cx}:Passes ko X E0:=λ_ _ _ _ _ _ _ h=>h.elim
section
variable{P:Program}{w:World}{K:bz}{mg:Str->D1}{base:Heap}
end
section
variable{X:Cx}
end
def sX{A B:Prop}(h:B):if false=true then A else B:=by
 rw[if_neg dP];exact h
def sY{A B:Prop}(h:A):if true=true then A else B:=by
 rw[if_pos rfl];exact h
def aM(H H':Hp):Prop:=∀b o,H b=some o->H' b=some o
def aM.refl(H:Hp):aM H H:=λ_ _ h=>h
def aM.trans{H H1 H2:Hp}(a:aM H H1)(b:aM H1 H2):aM H H2:=λc o h=>b c o (a c o h)
def aM.free{H H':Hp}(e:aM H H'){l:Addr}(h:H' l=Jw):H l=Jw:=by
 cases q:H l with
 |none=>rfl
 |some o=>
  rw[e l o q]at h;cases h
def aM.seq{K:bz}{H H':Hp}{a:Addr}{xs:List V}(e:aM H H')(h:cV K H a xs):cV K H' a xs:=by
 rcases h with(h|⟨o,h⟩)|h
 ·exact .inl (.inl (e _ _ h))
 ·exact .inl (.inr ⟨o,e _ _ h⟩)
 ·exact .inr h
end L2
set_option maxHeartbeats 400000
namespace L2
open PySem PySem.Spec PyProof.Rows
def Aa{prog:Program}{w:World}{A:Around}{R:Result->Shared->Prop}{s:Shared}{elt target iter:Expr}{ifs:Bz}{scope:Scope}{pos:Pos}{it bx:Value}{env:Env}(I:Nat->Shared->Prop)
  (turn:∀n s,I n s->wpAny (model prog w) A (pyNext it) (λr s₁=>match r with
   |none=>R (.ok .next) s₁
   |some v=>wpAny (model prog w) A (letOwnedTupleGo target it v) (λ_ s₀=>wpAny (model prog w) A (assign target env v) (λ_ s₂=>
     wpAny (model prog w) A (forIn ifs true λc r=>if r=true then do let ok <- isTrue c env (eval c env);pure (ForInStep.yield ok)else pure (ForInStep.yield r)) (λok s₃=>
      if ok=true then wpAny (model prog w) A (eval elt env) (λx s₄=>
       wpAny (model prog w) A (call (.builtin "list.append") [bx,x]) (λ_ s₅=>∃m,m<n/\I m s₅) (λ_ _=>False) s₄) (λ_ _=>False) s₃
      else ∃m,m<n/\I m s₃) (λ_ _=>False) s₂) (λ_ _=>False) s₀) (λ_ _=>False) s₁) (λ_ _=>False) s)
  (n:Nat) (h:I n s):codeAny (model prog w) A (.compLoop (.ListComp elt [⟨target,iter,ifs,0⟩] scope pos) 0 it bx env) R s:=by
 refine codeAny_loop rfl I (λn s hI=>?_) n h;show wpAny _ A ((compTurn (.ListComp elt [⟨target,iter,ifs,0⟩] scope pos) 0 it bx env).onRaise (λx=>do noteFrame x env;theTreesLotGoes x)) _ _ s
 refine wpAny_noted ?_;rw[compTurn_list];refine wpAny_bind (wpAny_standAt (wpAny_bind (wpAny_mono (turn n s hI) (λr s₁ h₁=>?_) λ_ _ h'=>h'.elim)));cases r with
 |none=>exact wpAny_pure h₁
 |some v=>
  refine wpAny_bind (wpAny_mono h₁ (λ_ s₀ h₀=>wpAny_bind (wpAny_mono h₀ (λ_ s₂ h₂=>wpAny_bind (wpAny_mono h₂ (λok s₃ h₃=>?_) λ_ _ h'=>h'.elim)) λ_ _ h'=>h'.elim)) λ_ _ h'=>h'.elim);cases ok with
  |false=>exact wpAny_pure ⟨rfl,h₃⟩
  |true=>
   exact wpAny_bind (wpAny_bind (wpAny_mono h₃ (λx s₄ h₄=>wpAny_bind (wpAny_mono h₄ (λ_ s₅ h₅=>wpAny_pure (wpAny_pure ⟨rfl,h₅⟩)) λ_ _ h'=>h'.elim)) λ_ _ h'=>h'.elim))
theorem gh(env:Env):∀(names:List (Str×NameKind))(bx:List (Str×Addr)),(∀p∈names,p.2=.free->∃c,env.cells.lookup p.1=some c)->(∀x c,bx.lookup x=some c->env.cells.lookup x=some c) ->
  ∃cl,(forIn names bx λ(p:Str×NameKind) (cs:List (Str×Addr))=>if p.2 == .free then do let c <- cellOf env p.1;pure (ForInStep.yield ((p.1,c)::cs))else pure (ForInStep.yield cs):Sem (List (Str×Addr)))=pure cl /\
   (∀x c,cl.lookup x=some c->env.cells.lookup x=some c)/\(∀x c,bx.lookup x=some c->∃c',cl.lookup x=some c')/\(∀p∈names,p.2=.free->∃c,cl.lookup p.1=some c)
 |[],bx,_,ha=>⟨bx,rfl,ha,λx c e=>⟨c,e⟩,λ_ h=>nomatch h⟩
 |(n,k)::r,bx,hn,ha=>by
  by_cases hk:k=.free
  ·subst hk
   obtain⟨c,hc⟩:=hn (n,.free) ee rfl;have Ut:∀x d,((n,c)::bx).lookup x=some d->env.cells.lookup x=some d:=λx d e=>by
    rw[i_]at e;cases hx:x == n with
    |true=>rw[hx]at e;have hx:=eq_of_beq hx;subst hx;cases e;exact hc
    |false=>rw[hx]at e;exact ha x d e
   obtain⟨cl,e,h1,h2,h3⟩:=gh env r ((n,c)::bx) (λp hp=>hn p (dX _ hp)) Ut;have self:∃c',cl.lookup n=some c':=h2 n c (by rw[i_];simp)
   refine⟨cl,?_,h1,λx d hx=>?_,λp hp hf=>?_⟩
   ·rw[Bj]
    show((do let c <- cellOf env n;pure (ForInStep.yield ((n,c)::bx))) >>= _)=_
    unfold cellOf;rw[hc];exact e
   ·cases hx':x == n with
    |true=>have:=eq_of_beq hx';subst this;exact self
    |false=>exact h2 x d (by rw[i_,hx'];exact hx)
   ·rcases cA.mp hp with rfl|hp
    ·exact self
    ·exact h3 p hp hf
  ·obtain⟨cl,e,h1,h2,h3⟩:=gh env r bx (λp hp=>hn p (dX _ hp)) ha
   refine⟨cl,?_,h1,h2,λp hp hf=>?_⟩
   ·rw[Bj]
    have hb:(k == NameKind.free)=false:=by simpa using hk
    show((if(k == NameKind.free)=true then _ else pure (ForInStep.yield bx)) >>= _)=_
    rw[hb];exact e
   ·rcases cA.mp hp with rfl|hp
    ·exact absurd hf hk
    ·exact h3 p hp hf
def oK{scope:Scope}{env:Env}(h:∀p∈scope.names,p.2=.free->∃c,env.cells.lookup p.1=some c) :
  ∃cl,closureFor scope env=pure cl/\(∀x c,cl.lookup x=some c->env.cells.lookup x=some c)/\∀p∈scope.names,p.2=.free->∃c,cl.lookup p.1=some c:=by
 obtain⟨cl,e,h1,_,h3⟩:=gh env scope.names [] h (λ_ _ e=>nomatch e);refine⟨cl,?_,h1,h3⟩;unfold closureFor;exact(congrArg (λz:Sem (List (Str×Addr))=>z >>= λcs=>pure cs) e)
abbrev Cx.block(X:Cx)(N:Bi)(scope:Scope)(cl:List (Str×Addr))(C:Addr)(fp:BM)(s:Shared)(H:Hp):Cx where
 prog:=X.prog
 w:=X.w
 K:=X.K
 mg:=X.mg
 base:=X.base
 A:=X.A
 N:=N
 s₀:=s
 H₀:=H
 env:=compEnvC scope cl C X.env
 outer:=X.stack
 stack:=X.stack
 ex:=fp
 fn:=λ_=>false
 calm:=X.calm
 pn:=[]
 xe:=λ_ _=>False
inductive fM(X:Cx)(scope:Scope):B1->Bi->Prop where
 |nil:fM X scope [] []
 |cons {j:Nat} {x:Str} {js:B1} {xs:Bi}:X.N[j]?=some x->scope.names.lookup x=some .free->X.env.kindOf x=some .cell->fM X scope js xs->fM X scope (j::js) (x::xs)
theorem fM.get{X:Cx}{scope:Scope}:∀{js:B1}{xs:Bi},fM X scope js xs->∀{i:Nat}{x:Str},xs[i]?=some x->∃j,js[i]?=some j/\X.N[j]?=some x/\scope.names.lookup x=some .free/\X.env.kindOf x=some .cell
 |_,_,.nil,_,_,e=>by simp at e
 |_,_,.cons h1 h2 h3 _,0,_,e=>by simp at e;subst e;exact⟨_,rfl,h1,h2,h3⟩
 |_,_,.cons _ _ _ t,i+1,_,e=>by
  obtain⟨j,a,b⟩:=t.get (i:=i) (by simpa using e)
  exact⟨j,by simpa using a,b⟩
theorem fM.length{X:Cx}{scope:Scope}:∀{js:B1}{xs:Bi},fM X scope js xs->js.length=xs.length
 |_,_,.nil=>rfl
 |_,_,.cons _ _ _ t=>by simp[t.length]
def cQ(k:Nat)(js:B1)(σ:St):St:=dM k none++js.map λj=>(σ[j]?).join
theorem eY{env:Env}(hk:env.scope.kind=.function):∀{names:List (Str×NameKind)}{x:Str},names.lookup x=some .free->env.kindOf x=some .cell ->
  (names.map λ(n,k)=>if(k == NameKind.free&&env.scope.kind == .function&&env.kindOf n == some .cell)then(n,NameKind.cell)else(n,k)).lookup x=some .cell
 |[],_,h,_=>by simp at h
 |(n,k)::r,x,h,hc=>by
  have ih:=@eY env hk r x;show k8 x ((if(k == NameKind.free&&env.scope.kind == .function&&env.kindOf n == some .cell)=true then(n,NameKind.cell)else(n,k))::_)=_
  cases hx:x == n with
  |true=>
   have e:=eq_of_beq hx;subst e;simp only[i_,hx]at h;cases h;rw[if_pos (by rw[hk,hc];rfl)]
   simp[i_]
  |false=>
   simp only[i_,hx]at h;by_cases hq:(k == NameKind.free&&env.scope.kind == .function&&env.kindOf n == some .cell)=true
   ·rw[if_pos hq];simp only[i_,hx];exact ih h hc
   ·rw[if_neg hq];simp only[i_,hx];exact ih h hc
theorem fP{env:Env}:∀{names:List (Str×NameKind)}{x:Str},(∀p∈names,p.2≠.cell) ->
  ((names.map λ(n,k)=>if(k == NameKind.free&&env.scope.kind == .function&&env.kindOf n == some .cell)then(n,NameKind.cell)else(n,k)).lookup x=some .cell \/
   (names.map λ(n,k)=>if(k == NameKind.free&&env.scope.kind == .function&&env.kindOf n == some .cell)then(n,NameKind.cell)else(n,k)).lookup x=some .free)->∃p∈names,p.1=x/\p.2=.free
 |[],_,_,h=>by simp at h
 |(n,k)::r,x,hn,h=>by
  have ih:=@fP env r x (λp hp=>hn p (dX _ hp));have h:k8 x ((if(k == NameKind.free&&env.scope.kind == .function&&env.kindOf n == some .cell)=true then(n,NameKind.cell)else(n,k))::(r.map λ(n,k)=>if(k == NameKind.free&&env.scope.kind == .function&&env.kindOf n == some .cell)then(n,NameKind.cell)else(n,k)))=some .cell \/
   k8 x ((if(k == NameKind.free&&env.scope.kind == .function&&env.kindOf n == some .cell)=true then(n,NameKind.cell)else(n,k))::(r.map λ(n,k)=>if(k == NameKind.free&&env.scope.kind == .function&&env.kindOf n == some .cell)then(n,NameKind.cell)else(n,k)))=some .free:=h
  cases hx:x == n with
  |true=>
   have e:=eq_of_beq hx;subst e;refine⟨(x,k),ee,rfl,?_⟩;by_cases hq:(k == NameKind.free&&env.scope.kind == .function&&env.kindOf x == some .cell)=true
   ·cases k<;>first|rfl|(simp at hq)
   ·rw[if_neg hq]at h
    simp only[i_,beq_self_eq_true]at h;rcases h with h|h
    ·cases h;exact absurd rfl (hn (x,.cell) ee)
    ·cases h;rfl
  |false=>
   have h':k8 x (r.map λ(n,k)=>if(k == NameKind.free&&env.scope.kind == .function&&env.kindOf n == some .cell)then(n,NameKind.cell)else(n,k))=some .cell \/
    k8 x (r.map λ(n,k)=>if(k == NameKind.free&&env.scope.kind == .function&&env.kindOf n == some .cell)then(n,NameKind.cell)else(n,k))=some .free:=by
    by_cases hq:(k == NameKind.free&&env.scope.kind == .function&&env.kindOf n == some .cell)=true
    ·rw[if_pos hq]at h;simp only[i_,hx]at h;exact h
    ·rw[if_neg hq]at h;simp only[i_,hx]at h;exact h
   obtain⟨p,hp,e1,e2⟩:=ih h';exact⟨p,dX _ hp,e1,e2⟩
structure fY(X:Cx)(scope:Scope):Prop where
 kind:scope.kind=.function
 nocell:∀p∈scope.names,p.2≠.cell
 names:∀p∈scope.names,p.2=.local->scope.names.lookup p.1=some .local
 frees:∀p∈scope.names,p.2=.free->X.env.kindOf p.1=some .cell
variable{X:Cx}{tg:Expr}
section
variable{ae:dJ}{σ:St}{H:Hp}{s:Shared}
def Inv.enter{ls fs:Bi}{js:B1}{scope:Scope}{cl:List (Str×Addr)}{fp:BM}{h₁:Heap}{tk:Nat}(I:Inv X ae σ H s)(S:fY X scope)(F:fM X scope js fs)
  (Ab:∀x c,cl.lookup x=some c->X.env.cells.lookup x=some c) (XX:∀p∈scope.names,p.2=.free->∃c,cl.lookup p.1=some c)
  (hf:∀b∈fp,lX X ae H b) (ZN:∀b∈fp,b<s.heap.objs.size) (nY:h₁.Ns s.heap.objs.size (λ_=>none)) (hk:∀b o,s.heap.get? b=some o->h₁.get? b=some o) :
  Inv (X.block (ls++fs) scope cl s.heap.objs.size fp s H) [] (cQ ls.length js σ) H {s with heap:=h₁,toks:=tk}:=by
 have ZO:∀x c,cl.lookup x=some c->c<s.heap.objs.size:=λx c e=>by
  obtain⟨v,q⟩:=I.cell x c (Ab x c e);exact q.lt
 refine⟨⟨I.ok.mod,?_,I.ok.glob,I.ok.blt,c_ _,λx y c h1 h2=>I.ok.inj x y c (Ab x c h1) (Ab y c h2),λx hx=>?_,(λx c hx=>by cases hx),I.ok.hd,I.ok.frames,.inl rfl,λb hb=>⟨eF (ZN b hb),λx c e=>(hf b hb).2.2.2.2.1 x c (Ab x c e)⟩,
  I.bs,gx I.ok.bsz I.sz,λb o e hb=>?_,λb hb z=>?_,I.stack,I.xA⟩,rfl,I.bare,Un.kept hk,⟨_,nY,λi x v e1 e2 e3=>?_⟩,λx c e=>?_,I.bL.fresh (c_ _),λx c e=>I.freeC x c (Ab x c e),λp hp=>absurd hp (by simp),I.bL.kept hk,?_⟩
 ·show(relabel scope X.env).kind=.function
  exact S.kind
 ·obtain⟨p,hp,e1,e2⟩:=fP (env:=X.env) S.nocell hx
  obtain⟨c,e⟩:=XX p hp e2;exact⟨c,by rw[<- e1];exact e⟩
 ·rcases(hf b hb).2.2.2.1 with z|z
  ·exact I.ok.noex b o e z
  ·exact absurd (ik (Heap.lt_size (I.ok.bs b o e).1) z) (oB _)
 ·rcases cA.mp (I.qA b z)with e|e
  ·exact(hf b hb).2.1 e
  ·exact(hf b hb).2.2.1 e
 ·-- a name of the block that has a value: one from around
  have hi:ls.length<=i:=by
   by_cases hi:i<ls.length
   ·unfold cQ at e2
    rw[gp (by simpa using hi),vj]at e2
    split at e2<;>cases e2
   ·omega
  have ZP:fs[i-ls.length]?=some x:=by
   have q:(ls++fs)[i]?=some x:=e1;rw[eT hi]at q;exact q
  obtain⟨j,hj,hN,XY,VG⟩:=F.get ZP;have OE:(σ[j]?).join=some v:=by
   unfold cQ at e2;rw[eT (by simpa using hi),fJ]at e2
   simp only[i9]at e2;rw[hj]at e2;simpa using e2
  have hσ:σ[j]?=some (some v):=by
   cases q:σ[j]? with
   |none=>rw[q]at OE;cases OE
   |some z=>rw[q]at OE;have OE:z=some v:=OE;rw[OE]
  obtain⟨m,_,hl⟩:=I.loc;obtain⟨u,r,l⟩:=hl j x v hN hσ (.inr (.inl VG));refine⟨u,r,.inr ⟨.inl (eY I.ok.kind XY VG),?_⟩⟩;rcases l with⟨z,_⟩|⟨_,c,e,q⟩
  ·have z':X.env.kindOf x=some .local:=z
   rw[VG]at z';cases z'
  ·obtain⟨c',e'⟩:=XX (x,.free) (PySem.mem_of_lookup XY) rfl
   have ec:=Ab x c' e';rw[e]at ec;have ec:=kg.inj ec;rw[<- ec]at e';obtain⟨o,ho,hd⟩:=q;exact⟨c,e',o,hk _ _ ho,hd⟩
 ·obtain⟨v,o,ho,hd⟩:=I.cell x c (Ab x c e)
  exact⟨v,o,hk _ _ ho,hd⟩
 ·unfold cQ
  show _=(ls++fs).length;rw[b9,i9,bK,b9,F.length]
end
section
def EY(X:Cx)(ifs:Bz)(t:TT):Prop:=
 ∀(ae:dJ)(s:Shared)(σ:St)(H:Hp)(Q:Bool->Hp->Prop),Inv X ae σ H s->t σ H Q ->
  wpAny (model X.prog X.w) X.A (forIn ifs true λc r=>if r=true then do let ok <- isTrue c X.env (eval c X.env);pure (ForInStep.yield ok)else pure (ForInStep.yield r)) (TP X ae σ Q) X.xe s
def VH:TT:=λ_ H Q=>Q true H
def FW:EY X [] VH:=λ_ _ _ H _ I h=>wpAny_tests_nil ⟨H,I,h⟩
def FY{c:Expr}{t:TT}(h:PT X c t):EY X [c] t:=λae s σ H Q I hw=>wpAny_tests_one (h ae s σ H Q I hw)
def dc:St->St->Prop
 |[],[]=>True
 |none::a,_::b=>dc a b
 |some v::a,some w::b=>v=w/\dc a b
 |_,_=>False
theorem dc.len:∀{a b:St},dc a b->a.length=b.length
 |[],[],_=>rfl
 |[],_::_,h=>h.elim
 |none::a,[],h=>h.elim
 |some _::a,[],h=>h.elim
 |none::a,x::b,h=>by simp[dc.len (a:=a) (b:=b) h]
 |some _::a,none::b,h=>h.elim
 |some _::a,some _::b,h=>by simp[dc.len (a:=a) (b:=b) h.2]
theorem dc.get:∀{a b:St},dc a b->∀(i:Nat)(v:V),a[i]?=some (some v)->b[i]?=some (some v)
 |[],[],_,_,_,e=>e
 |[],_::_,h,_,_,_=>h.elim
 |none::a,[],h,_,_,_=>h.elim
 |some _::a,[],h,_,_,_=>h.elim
 |none::a,x::b,h,0,v,e=>by simp at e
 |none::a,x::b,h,i+1,v,e=>by
  have:=dc.get (a:=a) (b:=b) h i v (by simpa using e)
  simpa using this
 |some _::a,none::b,h,_,_,_=>h.elim
 |some y::a,some z::b,h,0,v,e=>by have e1:=h.1;subst e1;simpa using e
 |some y::a,some z::b,h,i+1,v,e=>by
  have:=dc.get (a:=a) (b:=b) h.2 i v (by simpa using e)
  simpa using this
@[irreducible] def tComp(wi:TI)(k:Nat)(js:B1)(g:TG)(tt:TT)(te:TE):TE:=λσ H Q=>wi σ H λJ H1=>∀D,H1 D=none->∃W:Nat->Nat->List V->Hp->Prop,(∃m,W 0 m [] (upd H1 D (.lst []))) /\
 ∀i m ys H,W i m ys H->(J.stop i H/\Q (.ref D) H)\/(J.go i H/\∀x H',J.yld i H x H'->g x (cQ k js σ) H' λσ2 H2=>dc (cQ k js σ) σ2/\tt σ2 H2 λb H3=>
  if b=true then te σ2 H3 λy H4=>H4 D=some (.lst ys)/\ys.length<sizeLine/\∃m',m'<m/\W (i+1) m' (ys++[y]) (upd H4 D (.lst (ys++[y])))
  else ∃m',m'<m/\W (i+1) m' ys H3)
def pQ{scope:Scope}{ls fs:Bi}{js:B1}{tg iter elt:Expr}{ifs:Bz}{pos cy:Pos}{wi:TI}{g:TG}{tt:TT}{te:TE}{use:Option (Value->Sem Unit)}{Qo:Value->Shared->Prop}
  (hc:X.calm=true) (S:fY X scope) (F:fM X scope js fs) (hi:PI X tg iter wi)
  (hg:∀cl C fp s H,PG (X.block (ls++fs) scope cl C fp s H) tg g) (ht:∀cl C fp s H,EY (X.block (ls++fs) scope cl C fp s H) ifs tt) (he:∀cl C fp s H,PE (X.block (ls++fs) scope cl C fp s H) elt te)
  {ae:dJ} {s:Shared} {σ:St} {H:Hp} {Q:VK} (I:Inv X ae σ H s) (h:tComp wi ls.length js g tt te σ H Q)
  (fin:∀D C s' H' m,Inv X ae σ H' s'->lX X ae H' C->s'.heap.Ns C m->Q (.ref D) H'->compPost (model X.prog X.w) X.A X.xe use Qo (.ref D) C (.ok .next) s')
  (hs:∀x,foldedSetIterable iter X.env x=pure x) :
  wpAny (model X.prog X.w) X.A (comprehension (.ListComp elt [⟨tg,iter,ifs,0⟩] scope pos) scope X.env cy (newList []) false (eval iter X.env) use) Qo X.xe s:=by
 unfold tComp at h;obtain⟨cl,ZQ,h1,h2⟩:=oK (scope:=scope) (env:=X.env) (λp hp hf=>I.ok.has p.1 (.inl (S.frees p hp hf)));refine wpAny_comprehension_free rfl hs ZQ S.kind S.names (bX (hi ae s σ H _ I h) λv s1 q1=>bX q1 λVi s2 q2=>?_);obtain⟨it,fp,tn,J,H2,e,I2,T,Pp,f2,q⟩:=q2;subst e;refine wpAny_newObj_type (wpAny_newFunctionEnv S.nocell (by intro y hy;simp at hy) (λh₁ hns₁ hsb₁=>?_) S.kind)
 have I3:Inv X ae σ (upd H2 s2.heap.objs.size (.lst [])) {s2 with heap:=s2.heap.push {cls:=.type "list",dict:=none,data:=.seq ([]:B2).toArray}}:=I2.z7 (t':=s2.toks) .nil (jz _)
 obtain⟨W,⟨m0,w0⟩,step⟩:=q s2.heap.objs.size I2.fresh;dsimp only at hns₁ hsb₁ ⊢
 generalize OF:({s2 with heap:=s2.heap.push {cls:=.type "list",dict:=none,data:=.seq ([]:B2).toArray}}:Shared)=s3 at I3
 have XZ:s3.heap=s2.heap.push {cls:=.type "list",dict:=none,data:=.seq ([]:B2).toArray}:=by rw[<- OF]
 rw[<- XZ]at hns₁ hsb₁ ⊢;have old:∀b o,s3.heap.get? b=some o->h₁.get? b=some o:=λb o e=>hsb₁.extBut b o (eF (Heap.lt_size e)) (Heap.get?_push_of_some _ e);have up:∀b o,s2.heap.get? b=some o->s3.heap.get? b=some o:=λb o e=>by rw[XZ];exact Heap.get?_push_of_some _ e
 have ZR:∀b∈fp,b<s2.heap.objs.size:=λb hb=>by
  obtain⟨o,e,_⟩:=T.obj 0 _ Pp b hb;exact Heap.lt_size e
 have f3:∀b∈fp,lX X ae (upd H2 s2.heap.objs.size (.lst [])) b:=λb hb=>⟨by rw[aq (eF (ZR b hb))];exact(f2 b hb).1,(f2 b hb).2⟩
 have X0:∀b∈fp,b<s3.heap.objs.size:=λb hb=>by
  obtain⟨o,e,_⟩:=T.obj 0 _ Pp b hb;exact Heap.lt_size (up b o e)
 have I4:=I3.enter (ls:=ls) (h₁:=h₁) (tk:=s2.toks+([]:List (Str×Value)).length) S F h1 h2 f3 X0 (by simpa using hns₁) old
 have Uu:tn 0 h₁:=T.keep 0 _ _ Pp λb _ o e=>old b o (up b o e)
 generalize hC:s3.heap.objs.size=C at I4 hns₁ hsb₁ ⊢
 generalize hH3:upd H2 s2.heap.objs.size (.lst [])=H3 at I3 I4 f3 w0
 have vv:∀{H':Hp},(∀b∈fp,H' b=none)->∀b∈fp,lX (X.block (ls++fs) scope cl C fp s3 H3) [] H' b:=λhn b hb=>
  ⟨hn b hb,by rw[<- hC];exact eF (X0 b hb),λz=>(cA.mp (I3.qA b z)).elim (f3 b hb).2.1 (f3 b hb).2.2.1,.inl hb,λx c e=>(f3 b hb).2.2.2.2.1 x c (h1 x c e),λp hp=>absurd hp (by simp)⟩
 have AX:∀b∈fp,(b∈X.ex\/X.s₀.heap.objs.size<=b)/\b≠X.env.locals/\(∀x c,X.env.cells.lookup x=some c->c≠b)/\∀p∈X.pn++ae,p.1≠b:=λb hb=>⟨(f3 b hb).2.2.2.1,(f3 b hb).2.1,(f3 b hb).2.2.2.2.1,(f3 b hb).2.2.2.2.2⟩;have loop:∀s4:Shared,s4={s3 with heap:=h₁,toks:=s2.toks+([]:List (Str×Value)).length} ->
   codeAny (model X.prog X.w) X.A (.compLoop (.ListComp elt [⟨tg,iter,ifs,0⟩] scope pos) 0 (.ref it) (.ref s2.heap.objs.size) (compEnvC scope cl C X.env)) (compPost (model X.prog X.w) X.A X.xe use Qo (.ref s2.heap.objs.size) C) s4:=by
  rintro s4 rfl
  refine Aa (λn s'=>∃i ys H',Inv (X.block (ls++fs) scope cl C fp s3 H3) [] (cQ ls.length js σ) H' s'/\tn i s'.heap/\(∀b∈fp,H' b=none)/\W i n ys H') ?_ m0 ⟨0,[],H3,I4,Uu,λb hb=>(f3 b hb).1,w0⟩
  rintro n s5 ⟨i,ys,H5,I5,Ff,Ul,w5⟩
  rcases step i n ys H5 w5 with⟨stop,qf⟩|⟨go,nxt⟩
  ·refine bX (T.done (X.block (ls++fs) scope cl C fp s3 H3) rfl rfl rfl hc i [] s5 _ H5 (λ_ _=>False) I5 (vv Ul) Ff stop) λr s6 zz=>?_
   obtain⟨hr,I6⟩:=zz;subst hr;obtain⟨m,hm,_⟩:=id I6.loc;have J6:Inv X ae σ H5 s6:=I3.O4 (ch:=fp) I6.os I6.base I6.bL I6.bare AX;exact fin _ C s6 H5 m J6 (I3.oG (BI hC) I6.free) hm qf
  ·refine bX (T.item (X.block (ls++fs) scope cl C fp s3 H3) rfl rfl rfl hc i [] s5 _ H5 (λ_ _=>False) I5 (vv Ul) Ff go) λr s6 zz=>?_
   obtain⟨u,hr,h6⟩:=zz;subst hr;refine bX h6 λ_ s7 zz=>?_;obtain⟨x,H7,I7,r7,y7,VI,ZS⟩:=zz;have ZT:=I7.pinned (vv ZS) (T.obj _ _ VI);refine bX (hg cl C fp s3 H3 _ s7 _ H7 x u _ ZT r7 (nxt x H7 y7)) λ_ s8 zz=>?_;obtain⟨σ8,H8,I8,kp,q8⟩:=zz;have again:∀{s9:Shared}{H9:Hp},Inv (X.block (ls++fs) scope cl C fp s3 H3) ([]++lZ fp s7.heap) σ8 H9 s9 ->
     Inv (X.block (ls++fs) scope cl C fp s3 H3) [] (cQ ls.length js σ) H9 s9/\tn (i+1) s9.heap/\∀b∈fp,H9 b=none:=λ{s9 H9} I9=>by
    refine⟨I9.jE.weak kp.len kp.get,T.keep _ _ _ VI λb hb o e=>(I9.pin (b,o) (oq _ (oq _ (gF hb e)))).1,λb hb=>?_⟩;obtain⟨o,e,d⟩:=T.obj _ _ VI b hb;exact(I9.pin (b,o) (oq _ (oq _ (gF hb e)))).2.1
   refine bX (ht cl C fp s3 H3 _ s8 σ8 H8 _ I8 q8) λb s9 zz=>?_;obtain⟨H9,I9,q9⟩:=zz;cases b with
   |false=>
    obtain⟨m',hm,w9⟩:=q9;obtain⟨a1,a2,a3⟩:=again I9;exact⟨m',hm,i+1,ys,H9,a1,a2,a3,w9⟩
   |true=>
    refine bX (he cl C fp s3 H3 _ s9 σ8 H9 _ I9 q9) λxv ZU zz=>?_;obtain⟨y,X3,ZV,ZW,hD,hz,m',hm,VJ⟩:=zz;refine bX (km (X:=X.block (ls++fs) scope cl C fp s3 H3) _ ZU σ8 X3 (.ref s2.heap.objs.size) [y] (.ref s2.heap.objs.size) [xv] (λ_ X4=>X4=upd X3 s2.heap.objs.size (.lst (ys++[y]))) ZV rfl (.cons ZW .nil)
     ⟨_,ys,y,rfl,rfl,hD,hz,rfl⟩) λ_ s11 ⟨z,X4,I11,_,e11⟩=>?_
    subst e11;obtain⟨a1,a2,a3⟩:=again I11;exact⟨m',hm,i+1,ys++[y],_,a1,a2,a3,VJ⟩
 have ZX:({newEnv scope C X.env.globals cl X.env.qual none .none (some X.env) builtinsNs with scope:=relabel scope X.env}:Env)=compEnvC scope cl C X.env:=rfl
 exact codeAny_compStart_list (loop _ (by rw[<- OF])) (T.self X.A 0 _ _ _ Uu (loop _ (by rw[<- OF])))
variable{scope:Scope}{ls fs:Bi}{js:B1}{iter elt:Expr}{ifs:Bz}{pos:Pos}{wi:TI}{g:TG}{tt:TT}{te:TE}
def FZ(ls:Bi)(hc:X.calm=true)(S:fY X scope)(F:fM X scope js fs)(hi:PI X tg iter wi)
  (hg:∀cl C fp s H,PG (X.block (ls++fs) scope cl C fp s H) tg g) (ht:∀cl C fp s H,EY (X.block (ls++fs) scope cl C fp s H) ifs tt) (he:∀cl C fp s H,PE (X.block (ls++fs) scope cl C fp s H) elt te)
  (hs:∀x,foldedSetIterable iter X.env x=pure x:=by intro _;rfl):PE X (.ListComp elt [⟨tg,iter,ifs,0⟩] scope pos) (tComp wi ls.length js g tt te):=by
 intro ae s σ H Q I h;rw[eval_ListComp];refine pQ (use:=none) hc S F hi hg ht he I h ?_ hs;intro D C s' H' m J fC hm q;exact⟨m,hm,λh' Ac=>⟨.ref D,H',J.turned (t':=s'.toks) (it:=C) (λb o hb e=>(Ac.2 b hb).trans e) fC.1 fC.2.1 fC.2.2.2.1 fC.2.2.2.2.1 fC.2.2.2.2.2,rfl,q⟩⟩
def xR{i:Nat}{x:Str}{px Ad:Pos}(ls:Bi)(hc:X.calm=true)(hN:X.N.Nodup)(ZY:X.N[i]?=some x)(hx:Loc X.env.scope x)(S:fY X scope)(F:fM X scope js fs)(hi:PI X tg iter wi)
  (hg:∀cl C fp s H,PG (X.block (ls++fs) scope cl C fp s H) tg g) (ht:∀cl C fp s H,EY (X.block (ls++fs) scope cl C fp s H) ifs tt) (he:∀cl C fp s H,PE (X.block (ls++fs) scope cl C fp s H) elt te)
  (hs:∀x,foldedSetIterable iter X.env x=pure x:=by intro _;rfl) (hf:X.fn x=true\/X.env.scope.names.lookup x=some .local:=by first|exact .inl rfl|exact .inr rfl|assumption)
  (Uv:swapsWith (.ListComp elt [⟨tg,iter,ifs,0⟩] scope pos) (some (.Name x px)) Ad.line X.env=pure true:=by rfl) :
  PS X (.Assign [.Name x px] (.ListComp elt [⟨tg,iter,ifs,0⟩] scope pos) Ad) (λD σ H=>tComp wi ls.length js g tt te σ H λv H1=>D.nx (σ.set i (some v)) H1):=by
 intro ae s σ H D I h;rw[exec_Assign_Name_used _ _ _ _ Uv];refine wpAny_bind (wpAny_standAt (wpAny_bind ?_));show wpAny _ X.A (do let _ <- comprehension (.ListComp elt [⟨tg,iter,ifs,0⟩] scope pos) scope X.env _ (newList []) false (eval iter X.env) (some (assign (.Name x px) X.env))) _ _ s
 refine wpAny_bind (wpAny_mono (pQ (use:=some (assign (.Name x px) X.env)) (Qo:=λ_ s'=>SP X ae D .next s') hc S F hi hg ht he I h ?_ hs) (λ_ s' hq=>wpAny_pure (wpAny_pure hq)) λ_ _ e=>e)
 intro D' C s' H' m J fC hm q;show wpAny _ X.A (assign (.Name x px) X.env (.ref D')) _ _ _;refine wpAny_assign_Name (pC J hN ZY hx (show RelV (.ref D') (.ref D')from rfl) (λPR J' ⟨a,hsb,ha⟩=>?_) hf);have ne:C≠a:=by
  rcases ha with e|e
  ·rw[e];exact fC.2.1
  ·exact Ne.symm (fC.2.2.2.2.1 x a e)
 refine⟨m,hm.sameBut hsb ne,λh' Ac=>?_⟩;exact⟨_,H',J'.turned (t':=PR.toks) (it:=C) (λb o hb e=>(Ac.2 b hb).trans e) fC.1 fC.2.1 fC.2.2.2.1 fC.2.2.2.2.1 fC.2.2.2.2.2,q⟩
end
section
def Cw{P:Program}{w:World}{K:bz}{x:Str}{px:Pos}{it:Addr}{n:Nat}{Pv:Nat->Value->Prop}{St:Nat->Heap->Prop}(val:Nat->V->Prop)
  (W:∀A:Around,A.handled=none->Walks P w A it [it] [it] n Pv St) (hv:∀i v,Pv i v->∃y,RelV y v/\val i y)
  (ho:∀i h,St i h->∃o,h.get? it=some o/\∀v,o.data≠.cell v) (hk:∀i(h h':Heap),St i h->(∀o,h.get? it=some o->h'.get? it=some o)->St i h')
  (P_:∀(A:Around)(i:Nat)(s:Shared)(Q:Value->Shared->Prop)(E:Value->Shared->Prop),St i s.heap->Q (.ref it) s->wpAny (model P w) A (pyIter (.ref it)) Q E s) :
  Turn P w K (.Name x px) ⟨λi _=>i<n,λi H y H'=>H'=H/\val i y,λi _=>i=n⟩ [it] it St where
 mem:=by simp
 obj:=λi h st b hb=>by
  have e:b=it:=by simpa using hb
  subst e;exact ho i h st
 keep:=λi h h' st k=>hk i h h' st (k it (by simp))
 item:=by
  intro X hP hw hK hc i ae s σ H E I hf st hg;subst hP hw hK;obtain⟨f0,f1,f2,f3,f4,f5⟩:=hf it (by simp)
  refine(W X.A (I.ok.hd hc)).item i s _ _ hg st λv h' tk ZZ lY kk=>?_;obtain⟨y,ry,vy⟩:=hv i v ZZ;have I1:Inv X ae σ H {s with heap:=h',toks:=tk}:=I.turned (λb o hb e=>kk b o (by simpa using hb) e) f0 f1 f3 f4 f5
  exact⟨v,rfl,wpAny_pure ⟨y,H,I1,ry,⟨rfl,vy⟩,lY,λb hb=>(hf b hb).1⟩⟩
 done:=by
  intro X hP hw hK hc i ae s σ H E I hf st hg;subst hP hw hK;obtain⟨f0,f1,f2,f3,f4,f5⟩:=hf it (by simp)
  have hg:i=n:=hg;rw[hg]at st;exact(W X.A (I.ok.hd hc)).done s _ _ st λh' tk kk=>⟨rfl,I.turned (λb o hb e=>kk b o (by simpa using hb) e) f0 f1 f3 f4 f5⟩
 self:=P_
def X5(z:Str):It:=⟨λi _=>i<z.cps.size,λi H y H'=>H'=H/\∃c,z.cps[i]?=some c/\y=.str ⟨#[c]⟩,λi _=>i=z.cps.size⟩
def VL(tl:TE):TI:=λσ H R=>tl σ H λv H1=>∃z,v=.str z/\R (X5 z) H1
def LK{l:Expr}{tl:TE}{x:Str}{px:Pos}(hl:PE X l tl):PI X (.Name x px) l (VL tl):=by
 intro ae s σ H R I h;refine bX (hl ae s σ H _ I h) λv s1 zz=>?_;obtain⟨y,H1,I1,r1,q1⟩:=zz;obtain⟨z,rfl,q⟩:=q1;obtain⟨t,rfl⟩:=r1;have X6:∀b∈[s1.heap.objs.size],lX X ae H1 b:=λb hb=>by
  have e:b=s1.heap.objs.size:=by simpa using hb
  subst e;exact I1.oG (c_ _) (I1.bL.fresh (c_ _))
 have hv:∀i v,SignAt z i v->∃y,RelV y v/\∃c,z.cps[i]?=some c/\y=.str ⟨#[c]⟩:=λi v ⟨c,u,e,ev⟩=>⟨.str ⟨#[c]⟩,⟨u,ev⟩,c,e,rfl⟩;have Cy:∀(ty:String)(i:Nat)(h:Heap),h.IsStrIter s1.heap.objs.size ty z t i->∃o,h.get? s1.heap.objs.size=some o/\∀v,o.data≠.cell v:=λty i h ⟨o,e,_,d⟩=>⟨o,e,λv q=>by rw[d]at q;cases q⟩
 have kp:∀(ty:String)(i:Nat)(h h':Heap),h.IsStrIter s1.heap.objs.size ty z t i->(∀o,h.get? s1.heap.objs.size=some o->h'.get? s1.heap.objs.size=some o)->h'.IsStrIter s1.heap.objs.size ty z t i:=λty i h h' ⟨o,e,r⟩ k=>⟨o,k o e,r⟩;cases ha:z.cps.all (· < 128)
 ·refine wpAny_pyIter_wide ha ?_
  exact⟨s1.heap.objs.size,[s1.heap.objs.size],_,_,H1,rfl,I1.kept (t':=s1.toks) λb o e=>Heap.get?_push_of_some _ e,
   Cw (λi y=>∃c,z.cps[i]?=some c/\y=.str ⟨#[c]⟩) (λA hA=>Walks.strWide hA _ z t) hv (Cy _) (kp _) (λ_ _ _ _ _ st h=>wpAny_pyIter_striter_wide st h),⟨_,Heap.get?_push_size _ rfl,rfl,rfl⟩,X6,q⟩
 ·refine wpAny_pyIter_ascii ha ?_
  exact⟨s1.heap.objs.size,[s1.heap.objs.size],_,_,H1,rfl,I1.kept (t':=s1.toks) λb o e=>Heap.get?_push_of_some _ e,
   Cw (λi y=>∃c,z.cps[i]?=some c/\y=.str ⟨#[c]⟩) (λA hA=>Walks.strAscii hA _ z t) hv (Cy _) (kp _) (λ_ _ _ _ _ st h=>wpAny_pyIter_striter_ascii st h),⟨_,Heap.get?_push_size _ rfl,rfl,rfl⟩,X6,q⟩
def VM(hi:Int)(n:Nat):It:=⟨λi _=>i<n,λi H x H'=>H'=H/\x=.int (hi-i),λi _=>n<=i⟩
def Ae{P:Program}{w:World}{K:bz}(it:Addr)(hi:Int)(n:Nat):Turn P w K tg (VM hi n) [it] it (λi h=>IsRangeIter h it (hi+(i:Nat)*(-1)) ((n:Int)-(i:Nat)) (-1)) where
 mem:=by simp
 obj:=λi h st b hb=>by
  have e:b=it:=by simpa using hb
  subst e;exact⟨_,st,λv z=>by
   have z':Data.fields _=Data.cell v:=z;cases z'⟩
 keep:=λi h h' st k=>k it (by simp) _ st
 item:=by
  intro X hP hw hK hc i ae s σ H E I hf st hg;subst hP hw hK;obtain⟨f0,f1,f2,f3,f4,f5⟩:=hf it (by simp)
  have W:=Walks.range (prog:=X.prog) (w:=X.w) (I.ok.hd hc) it hi (-1) n;refine W.item i s _ _ hg st λv h' tk hv lY kk=>?_;obtain⟨t,rfl⟩:=hv;have I1:Inv X ae σ H {s with heap:=h',toks:=tk}:=I.turned (λb o hb e=>kk b o (by simpa using hb) e) f0 f1 f3 f4 f5
  refine⟨_,rfl,sM (s:={s with heap:=h',toks:=tk}) (n := "range_iterator") lY rfl rfl (by decide) ⟨.int (hi-i),H,I1,⟨t,?_⟩,⟨rfl,rfl⟩,lY,λb hb=>(hf b hb).1⟩⟩
  have e:hi+(i:Int)*(-1)=hi-i:=by omega
  rw[e]
 done:=by
  intro X hP hw hK hc i ae s σ H E I hf st hg;subst hP hw hK;obtain⟨f0,f1,f2,f3,f4,f5⟩:=hf it (by simp)
  exact wpAny_pyNext_range_end (I.ok.hd hc) st (by have:n<=i:=hg;omega) λh' eb=>⟨rfl,I.turned (t':=s.toks) (λb o hb e=>eb b o hb e) f0 f1 f3 f4 f5⟩
 self:=λ_ _ _ _ _ st h=>wpAny_pyIter_rangeiter st h
def Qa(ta:TA):TI:=λσ H R=>ta σ H λvs H1=>∃i:Int,vs=[.int i,.int (-1),.int (-1)]/\-1<=i/\i<2^30/\R (VM i (i+1).toNat) H1
def F0{a b c:Expr}{ta:TA}{p pos:Pos}(hg:Gl X "range")(hm:X.mg "range" = none)(ha:PA X [a,b,c] ta)(hs:starEach [a,b,c] X.env=[(false,eval a X.env),(false,eval b X.env),(false,eval c X.env)]:=by rfl)
  (AY:starEach [b,c] X.env=[(false,eval b X.env),(false,eval c X.env)]:=by rfl):PI X tg (.Call (.Name "range" p) [a,b,c] [] pos) (Qa ta):=by
 intro ae s σ H R I h;refine Call_ (gb I hg hm boot_range (zL (bX (ha pos ae s σ H _ I h) λus s1 ⟨vs,H1,I1,r1,q1⟩=>?_) (by rw[hs,AY]) (by rw[AY];rfl)))
 obtain⟨i,e,q1,q2,q⟩:=q1;subst e;cases r1 with
 |cons r rr=>
  cases rr with
  |cons r' rr=>
   cases rr with
   |cons r'' rr=>
    cases rr;obtain⟨t,rfl⟩:=r;obtain⟨t',rfl⟩:=r';obtain⟨X7,rfl⟩:=r'';refine call_range_3 (by decide) ?_ (.inl (PyProof.noPylong_small (by decide)))
    have X8:Builtin.Range.rangeSize i (-1) (-1)=i+1:=by
     unfold Builtin.Range.rangeSize;rw[if_neg (by decide)]
     split
     ·have e:-(-1:Int)=1:=rfl
      rw[e,Int.ediv_one];omega
     ·omega
    have Z3:Builtin.Range.small i (-1) (-1)=true:=by
     unfold Builtin.Range.small;rw[X8];simp[Builtin.Range.rangeFitsLong];omega
    refine wpAny_pyIter_range (IsRange.new ..) Z3 ?_
    generalize hh:s1.heap.push {cls:=.type "range",data:=.fields #[.int i t,.int (-1) t',.int (-1) X7]}=h2
    have I2:Inv X ae σ H1 {s1 with heap:=h2}:=I1.kept (t':=s1.toks) λb o e=>by rw[<- hh];exact Heap.get?_push_of_some _ e
    refine⟨h2.objs.size,[h2.objs.size],_,_,H1,rfl,I2.kept (t':=s1.toks) λb o e=>Heap.get?_push_of_some _ e,Ae _ i (i+1).toNat,?_,λb hb=>?_,q⟩
    ·have e1:i+((0:Nat):Int)*(-1)=i:=by omega
     have e2:(((i+1).toNat:Nat):Int)-((0:Nat):Int)=Builtin.Range.rangeSize i (-1) (-1):=by
      rw[X8];omega
     show IsRangeIter _ _ (i+((0:Nat):Int)*(-1)) ((((i+1).toNat:Nat):Int)-((0:Nat):Int)) (-1);rw[e1,e2];exact Heap.get?_push_size _ rfl
    ·have e:b=h2.objs.size:=by simpa using hb
     subst e;exact I2.oG (c_ _) (I2.bL.fresh (c_ _))
end
structure Uw(J:It)(src:List V)(I:Hp->Prop):Prop where
 go:∀i H,I H->i<src.length->J.go i H
 yld:∀i H x H',I H->i<src.length->J.yld i H x H'->H'=H/\src[i]?=some x
 stop:∀i H,I H->i=src.length->J.stop i H
def F8(z:Str):Uw (X5 z) (z.cps.toList.map λc=>V.str ⟨#[c]⟩) (λ_=>True):=
 ⟨λi H _ h=>by have h:i<(z.cps.toList.map λc=>V.str ⟨#[c]⟩).length:=h;rw[bK,Array.length_toList]at h;exact h,
  λi H x H' _ _ y=>by
  obtain⟨e,c,hc,ex⟩:=y;refine⟨e,?_⟩;rw[fJ,Array.getElem?_toList,hc,ex];rfl,
  λi H _ h=>by rw[bK,Array.length_toList]at h;exact h⟩
def pR(lo:Int)(n:Nat):Uw (Pj lo n) ((bM n).map λk=>V.int (lo+(k:Nat))) (λ_=>True):=
 ⟨λi H _ h=>by have h:i<((bM n).map λk=>V.int (lo+(k:Nat))).length:=h;rw[bK,qp]at h;exact h,
  λi H x H' _ hi y=>by
  obtain⟨e,ex⟩:=y;refine⟨e,?_⟩;have hi:i<n:=by rw[bK,qp]at hi;exact hi
  rw[fJ,wZ hi,ex];rfl,
  λi H _ h=>by rw[bK,qp]at h;exact BI h.symm⟩
section
def X_(K:bz)(a:Addr)(xs:List V):It:=⟨λi H=>i<xs.length/\cV K H a xs,λi H y H'=>H'=H/\xs[xs.length-1-i]?=some y,λi _=>i=xs.length⟩
def Cz{P:Program}{w:World}{K:bz}(a it:Addr)(xs:List V):Turn P w K tg (X_ K a xs) [it] it (λi h=>h.IsRevIter it a ((xs.length:Int)-1-(i:Int))) where
 mem:=by simp
 obj:=λi h st b hb=>by
  have e:b=it:=by simpa using hb
  subst e;obtain⟨o,e,c,d⟩:=st;exact⟨o,e,λv z=>by rw[d]at z;cases z⟩
 keep:=λi h h' st k=>st.at λo e=>k it (by simp) o e
 item:=by
  intro X hP hw hK hc i ae s σ H E I hf st hg;subst hP hw hK;obtain⟨hi,hq⟩:=hg;obtain⟨its,rv,p,hz⟩:=I.list hq;have hx:xs[xs.length-1-i]?=some (xs[xs.length-1-i]'(by omega)):=cX (by omega)
  obtain⟨u,hu,ru⟩:=rv.get hx;obtain⟨f0,f1,f2,f3,f4,f5⟩:=hf it (by simp)
  have e:(xs.length:Int)-1-(i:Int)=((xs.length-1-i:Nat):Int):=by omega
  rw[e]at st;refine wpAny_pyNext_rev_item st p.isList (x:=u) (by simpa using hu) λh' lY sb=>?_
  have I1:Inv X ae σ H {s with heap:=h'}:=I.turned (t':=s.toks) (λb o hb e=>(sb.2 b hb).trans e) f0 f1 f3 f4 f5
  have e2:((xs.length-1-i:Nat):Int)-1=(xs.length:Int)-1-((i+1:Nat):Int):=by omega
  rw[e2]at lY;obtain⟨o,eo,c,d⟩:=id lY;exact⟨u,rfl,sM (s:={s with heap:=h'}) eo c d (by decide) ⟨_,H,I1,ru,⟨rfl,hx⟩,lY,λb hb=>(hf b hb).1⟩⟩
 done:=by
  intro X hP hw hK hc i ae s σ H E I hf st hg;subst hP hw hK;obtain⟨f0,f1,f2,f3,f4,f5⟩:=hf it (by simp)
  have hg:i=xs.length:=hg;have e:(xs.length:Int)-1-(i:Int)=-1:=by omega
  rw[e]at st;exact wpAny_pyNext_rev_end (I.ok.hd hc) st λh' eb=>⟨rfl,I.turned (t':=s.toks) (λb o hb e=>eb b o hb e) f0 f1 f3 f4 f5⟩
 self:=λ_ _ _ _ _ st h=>wpAny_pyIter_revIter st h
def VN(K:bz)(ta:TA):TI:=λσ H R=>ta σ H λvs H1=>∃a xs,vs=[.ref a]/\cV K H1 a xs/\R (X_ K a xs) H1
def LO{a:Expr}{ta:TA}{p pos:Pos}(hg:Gl X "reversed")(hm:X.mg "reversed" = none)(ha:PA X [a] ta)(hs:starEach [a] X.env=[(false,eval a X.env)]:=by rfl):PI X tg (.Call (.Name "reversed" p) [a] [] pos) (VN X.K ta):=by
 intro ae s σ H R I h;refine Call_ (gb I hg hm PyProof.Rows.boot_reversed (zL (bX (ha pos ae s σ H _ I h) λus s1 ⟨vs,H1,I1,r1,q1⟩=>?_) hs rfl));obtain⟨l,xs,e,hq,q⟩:=q1;subst e;cases r1 with
 |cons r rr=>
  cases rr;cases r;obtain⟨its,rv,pl,hz⟩:=I1.list hq;have bZ:=rv.length;refine call_reversed_list pl.isList (wpAny_pyIter_revIter ⟨_,Heap.get?_push_size _ rfl,rfl,rfl⟩ ?_);refine⟨s1.heap.objs.size,[s1.heap.objs.size],_,_,H1,rfl,I1.kept (t':=s1.toks) λb o e=>Heap.get?_push_of_some _ e,Cz l _ xs,?_,λb hb=>?_,q⟩
  ·refine⟨_,Heap.get?_push_size _ rfl,rfl,?_⟩
   have e:((its.toArray.size:Nat):Int)-1=(xs.length:Int)-1-((0:Nat):Int):=by rw[ck,<- bZ];omega
   rw[<- e];rfl
  ·have e:b=s1.heap.objs.size:=by simpa using hb
   subst e;exact I1.oG (c_ _) (I1.bL.fresh (c_ _))
end
section
def oN:vH X "str.startswith" (λx vs H Q=>∃a b,x=.str a/\vs=[.str b]/\Q (.bl (Txt.startswith a b)) H):=by
 intro ae s σ H x vs v us Q I rx rv h;obtain⟨a,b,rfl,rfl,q⟩:=h;obtain⟨t,rfl⟩:=rx;obtain⟨u,rfl,⟨t',rfl⟩⟩:=rv.one;exact SC.startswith ⟨.bl _,H,I,rfl,q⟩
def sZ:vH X "str.endswith" (λx vs H Q=>∃a b,x=.str a/\vs=[.str b]/\Q (.bl (Txt.endswith a b)) H):=by
 intro ae s σ H x vs v us Q I rx rv h;obtain⟨a,b,rfl,rfl,q⟩:=h;obtain⟨t,rfl⟩:=rx;obtain⟨u,rfl,⟨t',rfl⟩⟩:=rv.one;exact SC.endswith ⟨.bl _,H,I,rfl,q⟩
def CA:vH X "str.find" (λx vs H Q=>∃a b i,x=.str a/\vs=[.str b,.int i]/\Q (.int (Txt.find3 a b i)) H):=by
 intro ae s σ H x vs v us Q I rx rv h;obtain⟨a,b,i,rfl,rfl,q⟩:=h;obtain⟨t,rfl⟩:=rx;obtain⟨u,u',rfl,⟨t',rfl⟩,⟨X7,rfl⟩⟩:=rv.two;exact SC.find3 ⟨.int _,H,I.tok _,⟨_,rfl⟩,q⟩
theorem my:∀{ys:Bi}{us:B2},Vals (ys.map V.str) us->StrsAre us ys
 |[],_,.nil=>.nil
 |y::ys,_,.cons ⟨t,e⟩ r=>by
  subst e;exact .cons y t (my (ys:=ys) r)
def F9:vH X "str.join" (λx vs H Q=>∃sep l ys,x=.str sep/\vs=[.ref l]/\cV X.K H l (ys.map V.str)/\(ys.map (·.length)).sum+ys.length*sep.length<=16777216/\Q (.str (Str.join sep ys)) H):=by
 intro ae s σ H x vs v us Q I rx rv h;obtain⟨sep,l,ys,rfl,rfl,hl,hz,q⟩:=h;obtain⟨t,rfl⟩:=rx;obtain⟨u,rfl,ru⟩:=rv.one;cases ru;obtain⟨its,r,p,_⟩:=I.list hl;refine join_list p.isList (ys:=ys) (by simpa using my r) hz λt' k=>?_
 have e:Txt.join sep ys=Str.join sep ys:=StrLaws.glued_eq_join sep ys;rw[e];exact⟨.str _,H,I.tok _,⟨_,rfl⟩,q⟩
def LP:JM X (λx lo hi H Q=>∃z,x=.str z/\z.length<=sizeLine/\Q (.str (Txt.slice z lo hi)) H):=by
 intro ae s σ H x v vl vu lo hi sl Q I rx hs pl pu h;obtain⟨z,rfl,hz,q⟩:=h;obtain⟨t,rfl⟩:=rx;refine⟨"str",_,F.slot_str_getitem.lookup,typeIs_str _ _ _,?_⟩;obtain⟨o,ho,hc,hd⟩:=hs;cases pl with
 |none=>
  cases pu with
  |none=>exact wpAny_getItem_str_slice (l:=none) (u:=none) (st:=none) ⟨o,ho,hc,hd⟩ rfl (post_val_or_str ⟨gx (Txt.slice_le z _ _) hz,λt' k=>⟨.str _,H,I.tok _,⟨_,rfl⟩,q⟩⟩)
  |int j tj=>exact wpAny_getItem_str_slice (l:=none) (u:=some (j,tj)) (st:=none) ⟨o,ho,hc,hd⟩ rfl (post_val_or_str ⟨gx (Txt.slice_le z _ _) hz,λt' k=>⟨.str _,H,I.tok _,⟨_,rfl⟩,q⟩⟩)
 |int i ti=>
  cases pu with
  |none=>exact wpAny_getItem_str_slice (l:=some (i,ti)) (u:=none) (st:=none) ⟨o,ho,hc,hd⟩ rfl (post_val_or_str ⟨gx (Txt.slice_le z _ _) hz,λt' k=>⟨.str _,H,I.tok _,⟨_,rfl⟩,q⟩⟩)
  |int j tj=>exact wpAny_getItem_str_slice (l:=some (i,ti)) (u:=some (j,tj)) (st:=none) ⟨o,ho,hc,hd⟩ rfl (post_val_or_str ⟨gx (Txt.slice_le z _ _) hz,λt' k=>⟨.str _,H,I.tok _,⟨_,rfl⟩,q⟩⟩)
def s_:gc X (compareOp .IsNot) (λx y H Q=>∃a b,x=.bl a/\y=.bl b/\Q (.bl (a != b)) H):=by
 intro ae s σ H x y v u Q I rx ry h;obtain⟨a,b,rfl,rfl,q⟩:=h;cases rx;cases ry;exact isnot_bool (ir I q rfl)
def tm:eX X (.builtin "isinstance") (λxs H Q=>∃x T t b,xs=[x,.ty T]/\iT X.K H x t/\sd X.K t (.type T)=some b/\Q (.bl b) H):=by
 intro ae s σ H xs us Q I r h;obtain⟨x,T,t,b,rfl,ty,e,q⟩:=h;obtain⟨u,u',rfl,ru,VO⟩:=vals2 r;cases VO;exact pG I ru ty e λtk=>⟨.bl b,H,I.tok _,rfl,q⟩
def mz{ks:Fh}{its:B2}(r:Vals (ks.map V.bl) its)(A:Around):TruthOf X.prog X.w A (λi v=>its.toArray[i]?=some v) (λi=>ks.getD i true):=by
 intro i v s Q E hv hQ;have hv:its[i]?=some v:=by simpa using hv
 have hi:i<ks.length:=by
  have h1:=(bD.mp hv).1;have h2:=r.length;rw[bK]at h2;omega
 obtain⟨u,e,ru⟩:=r.get (i:=i) (x:=.bl ks[i]) (by rw[fJ,cX hi];rfl)
 rw[hv]at e;cases e;cases ru;have g:ks.getD i true=ks[i]:=by rw[gq,cX hi];rfl
 have hQ:Q (ks.getD i true) s:=hQ;rw[g]at hQ;exact wpAny_truthy_bool hQ
def range_all(ks:Fh):(bM ks.length).all (λi=>ks.getD i true)=ks.all id:=by
 induction ks with
 |nil=>rfl
 |cons k ks ih=>
  rw[cU,w_,fh,IG,fh,<- ih];rfl
def range_any(ks:Fh):(bM ks.length).any (λi=>ks.getD i true)=ks.any id:=by
 induction ks with
 |nil=>rfl
 |cons k ks ih=>
  rw[cU,w_,qo,xf,qo,<- ih];rfl
def CB(hc:X.calm=true):eX X (.builtin "all") (λxs H Q=>∃(p:Addr)(ks:Fh),xs=[.ref p]/\cV X.K H p (ks.map V.bl)/\Q (.bl (ks.all id)) H):=by
 intro ae s σ H xs us Q I r h;obtain⟨p,ks,rfl,hp,q⟩:=h;obtain⟨u,rfl,ru⟩:=vals1 r;cases ru;obtain⟨its,rv,pl,hz⟩:=I.list hp;have bZ:=rv.length;rw[bK]at bZ;refine call_all_walk (wpAny_pyIter_list pl.isList ?_);have jr:p≠s.heap.objs.size:=let⟨_,e,_⟩:=pl.isList;eF (Heap.lt_size e);refine⟨s.heap.objs.size,_,[s.heap.objs.size],its.toArray.size,_,_,λi=>ks.getD i true,rfl,Walks.list (show X.A.in1.handled=none from I.ok.hd hc) s.heap.objs.size p jr its.toArray,⟨⟨_,Heap.get?_push_size _ rfl,rfl,rfl⟩,Heap.IsList.push pl.isList _⟩,mz rv _,λh' tk kk=>?_⟩;rw[ck,<- bZ,range_all];refine⟨.bl _,H,?_,rfl,q⟩;refine I.kept λb o e=>kk b o (λz=>?_) (Heap.get?_push_of_some _ e);have hb:b=s.heap.objs.size:=by simpa using z
 rw[hb]at e;exact oB _ (Heap.lt_size e)
def CF(hc:X.calm=true):eX X (.builtin "any") (λxs H Q=>∃(p:Addr)(ks:Fh),xs=[.ref p]/\cV X.K H p (ks.map V.bl)/\Q (.bl (ks.any id)) H):=by
 intro ae s σ H xs us Q I r h;obtain⟨p,ks,rfl,hp,q⟩:=h;obtain⟨u,rfl,ru⟩:=vals1 r;cases ru;obtain⟨its,rv,pl,hz⟩:=I.list hp;have bZ:=rv.length;rw[bK]at bZ;refine call_any_walk (wpAny_pyIter_list pl.isList ?_);have jr:p≠s.heap.objs.size:=let⟨_,e,_⟩:=pl.isList;eF (Heap.lt_size e);refine⟨s.heap.objs.size,_,[s.heap.objs.size],its.toArray.size,_,_,λi=>ks.getD i true,rfl,Walks.list (show X.A.in1.handled=none from I.ok.hd hc) s.heap.objs.size p jr its.toArray,⟨⟨_,Heap.get?_push_size _ rfl,rfl,rfl⟩,Heap.IsList.push pl.isList _⟩,mz rv _,λh' tk kk=>?_⟩;rw[ck,<- bZ,range_any];refine⟨.bl _,H,?_,rfl,q⟩;refine I.kept λb o e=>kk b o (λz=>?_) (Heap.get?_push_of_some _ e);have hb:b=s.heap.objs.size:=by simpa using z
 rw[hb]at e;exact oB _ (Heap.lt_size e)
theorem kP:∀{xs:List V}{us:B2},xs.length=us.length->(∀(i:Nat)x u,xs[i]?=some x->us[i]?=some u->RelV x u)->Vals xs us
 |[],[],_,_=>.nil
 |[],_::_,h,_=>by simp at h
 |_::_,[],h,_=>by simp at h
 |x::xs,u::us,h,k=>.cons (k 0 x u rfl rfl) (kP (by simpa using h) λi y w h1 h2=>k (i+1) y w (by simpa using h1) (by simpa using h2))
def Af:eX X (.type "range") (λxs H Q=>∃j,xs=[.int j]/\∀p,H p=none->Q (.ref p) (upd H p (.lE 0 j))):=by
 intro ae s σ H xs us Q I r h;obtain⟨j,rfl,q⟩:=h;obtain⟨u,rfl,⟨t,rfl⟩⟩:=vals1 r;refine call_range_1 ⟨.ref s.heap.objs.size,_,I.laid (o:=.lE 0 j) (λb o e=>Heap.get?_push_of_some _ e) (c_ _) ⟨_,_,_,Heap.get?_push_size _ rfl⟩,rfl,q _ I.fresh⟩
def oO(hc:X.calm=true):eX X (.type "list") (λxs H Q=>∃p hi,xs=[.ref p]/\H p=some (.lE 0 hi)/\0<=hi/\hi<=2^20/\∀l,H l=none->Q (.ref l) (upd H l (.lst ((bM hi.toNat).map λk=>V.int (k:Nat))))):=by
 intro ae s σ H xs us Q I r h;obtain⟨p,hi,rfl,hp,h0,h1,q⟩:=h;obtain⟨u,rfl,ru⟩:=vals1 r;cases ru;obtain⟨t,u,v,e⟩:=I.bL p _ hp;refine call_list_range (I.ok.hd hc) (a:=0) (b:=hi) (c:=1) (n:=hi.toNat) e (small_one (by omega) (by omega) (by omega) (by omega)) (by rw[rangeSize_one];split<;>omega) (by omega) λh' tk bx c' hk hl hit=>?_
 obtain⟨hsz,hit⟩:=hit;refine⟨.ref s.heap.objs.size,_,I.laid (o:=.lst ((bM hi.toNat).map λk=>V.int (k:Nat))) (λb o e=>hk b o e) (c_ _) ⟨?_,bx.toList,c',?_,by simpa using hl⟩,rfl,q _ I.fresh⟩
 ·rw[bK,qp,sizeLine_eq];omega
 ·refine kP (by rw[bK,qp,Array.length_toList,hsz]) λi x u hx hu=>?_
  have VP:i<hi.toNat:=by
   have:=(bD.mp hx).1
   rw[bK,qp]at this;exact this
  rw[fJ,wZ VP]at hx;cases hx;obtain⟨t,rfl⟩:=hit i u (by simpa using hu)
  exact⟨t,by congr 1;omega⟩
end
end L2
namespace K42
open PySem L2
noncomputable abbrev top(i:Nat):Stmt:=PySem.Challenge.pw_rowblade_k42_given_in_time.main.body.getD i (.Pass ⟨0,0,0,0⟩)
end K42
noncomputable section
namespace KH
open PySem PySem.W PySem.Calls PyProof.Rows L2 K42
abbrev pw:Program:=PySem.Challenge.pw_rowblade_k42_given_in_time
noncomputable abbrev r(a:Nat):Value:=.ref a
noncomputable abbrev O(c:Value)(d:Option Addr)(x:Data)(s:List D1):Obj:=⟨c,d,x,⟨s⟩⟩
abbrev W:=Params->Obj
abbrev Z:=Str×Nat×Value
noncomputable abbrev D(P:Params)(e:Z):DictEntry:=⟨PyData.keyHash P e.1,.str e.1 e.2.1,e.2.2⟩
abbrev fN(n q:Str)(s:Stmt)(g:Addr)(cl:List (Str×Addr))(dv kv doc pm:Value)(an:Option Addr)(cd ct:Value)(b:Addr):FuncData:=⟨n,q,jG s,.stmts (bA s),aD s,g,cl,dv,kv,doc,pm,an,cd,ct,b⟩
abbrev C(n q:Str)(t u L a b c g:Nat)(x:Addr)(B:Bool)(y:Addr)(k l m o:Value):W:=λ_=>O (.type "code") none (.fields ⟨[.str n t,.str q (t+1),.str "/claim/cut.py" (t+2),.int (k9 L) 0,.int (k9 a) 0,.int (k9 b) 0,.int (k9 c) 0,.int (k9 g) 0,r x,.bool B,.int (k9 181) 0,r y,k,l,m,o,.int (k9 u) 0,.int (k9 L) 0,.str "/claim/cut.py" (u+1)]⟩) []
abbrev cf(n q:Str)(t u L a x:Nat):W:=C n q t u L a 0 0 3 x true (x+1) .none (r (x+2)) (r (x+3)) (r (x+4))
abbrev cg(n:Str)(t u L a x:Nat):W:=cf n n t u L a x
abbrev cc(n:Str)(t L x:Nat):W:=C n n t (t+3) L 0 0 0 0 x false (x+1) .none .none .none .none
abbrev lt(b:Nat)(l:List (Nat×Nat)):W:=λ_=>O .none none (.fields ⟨(l.map λp=>[.int (k9 p.1) 0,.int (k9 b) 0,r p.2]).flatten⟩) []
abbrev fO(n q:Str)(s:Stmt)(m:Value)(c:Nat):W:=λ_=>O (.type "function") none (.func (fN n q s 3 [] .none .none .none m none (r c) .none 0)) []
abbrev fn(n q:Str)(s:Stmt):W:=λ_=>O .none none (.func (fN n q s 0 [] .none .none .none .none none .none .none 0)) []
def sS:Nat->Bi->B2
 |_,[]=>[]
 |k,x::l=>.str x k::sS (k+1) l
abbrev tS(k:Nat)(l:Bi):W:=λ_=>O (.type "tuple") none (.seq ⟨sS k l⟩ 0) []
abbrev tV(l:B2):W:=λ_=>O (.type "tuple") none (.seq ⟨l⟩ 0) []
abbrev di(n:Nat)(l:List Z):W:=λP=>O (.type "dict") none (.dict ⟨l.map (D P)⟩ n) []
abbrev c1(m:Value)(b:Nat)(q:Str)(L:Nat)(xs:List Z)(st sr n:Nat):W:=di n (("__module__",b,m)::("__qualname__",b+2,.str q (b+1))::("__firstlineno__",b+4,.int (k9 L) (b+3))::(xs.append [("__static_attributes__",st,r sr)]))
abbrev c2(m:Value)(b L:Nat)(xs:List Z)(st sr:Nat)(ys:List Z)(dt n:Nat):W:=di n (("__module__",b,m)::("__firstlineno__",b+4,.int (k9 L) (b+3))::(xs.append (("__static_attributes__",st,r sr)::(ys.append [("__doc__",dt,.none)]))))
abbrev cG(n:Str)(bs mr:B2)(d:Nat)(su:B2)(h:D1)(t:Nat)(nw:String):W:=λ_=>O (.type "type") none (.cls ⟨n,bs,mr,d,n,true,[],su,false,none,false⟩) [h,none,some (.str n t),some (.str n (t+8)),some (.builtin nw),some (.bool true)]
abbrev ob:Value:=.type "object"
abbrev cB(n:Str)(d b:Nat)(su:B2)(h t:Nat):W:=cG n [r b] [r (d+1),r b,ob] d su (some (r h)) t "object.__new__"
abbrev c0(n:Str)(d:Nat)(su:B2)(t:Nat):W:=cG n [ob] [r (d+1),ob] d su none t "object.__new__"
abbrev fr(c l:Nat)(m:Value):W:=λ_=>O (.type "frame") none .plain [some (r c),some (r 3),some (r l),none,some m,none,some (r 0)]
abbrev is(c:Nat):W:=λ_=>O (.type "builtin_function_or_method") none (.fields ⟨[.builtin "object.__init_subclass__",r c]⟩) []
abbrev su(c:Nat):W:=λ_=>O (.type "super") none (.fields ⟨[r c,r c,r c]⟩) []
noncomputable abbrev gd(t c:Nat):W:=λ_=>O (.type "getset_descriptor") none (.fields ⟨[.str "__dict__" t,r c,.builtin "function.__dict__",.builtin "function.__dict__#set"]⟩) []
abbrev gw(t c:Nat):W:=λ_=>O (.type "getset_descriptor") none (.fields ⟨[.str "__weakref__" t,r c,.builtin "ExceptionGroup.__weakref__",.none]⟩) []
noncomputable abbrev N(o:Params->Obj)(l r:Params->BT):Params->BT:=λP=>.node (o P) (l P) (r P)
noncomputable abbrev E:Params->BT:=λ_=>.nil
abbrev L(o:Params->Obj):Params->BT:=N o E E
abbrev m0:Value:=.str "__main__" 164
abbrev m1:Value:=.str "rowblade.errors" 194
abbrev m2:Value:=.str "rowblade.lines" 348
abbrev m3:Value:=.str "rowblade.signs" 899
abbrev m4:Value:=.str "rowblade.patterns" 922
abbrev m5:Value:=.str "rowblade.stretches" 1050
abbrev m6:Value:=.str "rowblade.truths" 1108
abbrev m7:Value:=.str "rowblade.pieces" 1223
abbrev m8:Value:=.str "rowblade.walker" 1273
abbrev m9:Value:=.str "rowblade.blade" 1497
abbrev lI:Value:=.str "rowblade.linereading" 1608
abbrev Z4:Value:=.str "rowblade.rows" 1826
abbrev Ux:Value:=.str "rowblade.reading" 1836
abbrev ve:Value:=.str "law_rowblade_k42_given_in_time" 1879
abbrev d0:List Z:=[("__doc__",166,.none),("__package__",167,.none),("__loader__",168,(.builtin "__main__.__loader__#opaque")),("__spec__",169,.none),("__annotations__",170,(r 6)),("__builtins__",171,(r 4)),("__file__",173,(.str "/claim/cut.py" 172)),("__cached__",174,.none),("_wall",193,(r 21)),("BladeError",213,(r 31)),("NoPattern",229,(r 44)),("Finished",245,(r 56)),("NoLine",270,(r 75)),("TwoMarks",295,(r 94))]
noncomputable abbrev l0:List (Nat×Nat):=[(1,20),(5,27),(7,40),(9,52),(11,64),(15,83)]
abbrev d1:=d0.append [("NoMark",320,(r 113)),("Endless",347,(r 132)),("Program",378,(r 151)),("Line",409,(r 172)),("Cond",429,(r 186))]
abbrev l1:=l0++[(19,102),(23,121),(29,140),(33,161),(38,182)]
abbrev d2:=d1.append [("Always",445,(r 200)),("RowIs",470,(r 219)),("Last",486,(r 231)),("Like",511,(r 250)),("Soon",538,(r 269))]
abbrev l2:=l1++[(40,196),(42,208),(46,227),(48,239),(52,258)]
abbrev d3:=d2.append [("FromTo",565,(r 288)),("Not",590,(r 307)),("End",606,(r 319)),("Deed",626,(r 331)),("Mark",651,(r 352))]
abbrev l3:=l2++[(57,277),(62,296),(66,315),(68,327),(70,341)]
abbrev d4:=d3.append [("Drop",667,(r 364)),("Print",683,(r 376)),("Done",699,(r 388)),("Say",724,(r 407)),("Swap",753,(r 426))]
abbrev l4:=l3++[(74,360),(76,372),(78,384),(80,396),(84,415)]
abbrev d5:=d4.append [("Join",778,(r 445)),("Pile",805,(r 464)),("Bring",830,(r 483)),("Go",855,(r 502))]
abbrev l5:=l4++[(90,434),(94,453),(99,472),(103,491)]
abbrev d6:=(d5.append [("Add",882,(r 521)),("Tell",898,(r 533)),("SIGNS",902,(.str "abcdefghijklmnopqrstuvwxyzABCDEFGHIJKLMNOPQRSTUVWXYZ0123456789 !\"#$&'()*+,-./:;<=>?\x40[\\]^_`{|}~" 901)),("SMALL_LETTERS",904,(.str "abcdefghijklmnopqrstuvwxyz" 903)),("FIGURES",906,(.str "0123456789" 905)),("made_of",912,(r 540)),("beginning_of",921,(r 547)),("MOST_ITEMS",925,(.int (8) 924)),("MOST_SIGNS",927,(.int (12) 926)),("NEVER_PLAIN",929,(.str "^$.[]*+?/" 928)),("NEVER_IN_A_SET",931,(.str "]^/" 930)),("ONCE",933,(.str "1" 932)),("HOW_MANY",935,(.str "*+?" 934)),("may_stand_plain",942,(r 554)),("pattern",953,(r 561)),("items_of",964,(r 568)),("place_behind_core",973,(r 575)),("many_at",981,(r 582)),("item_of",989,(r 589)),("set_item",995,(r 594)),("is_written_plain",1003,(r 601)),("written",1014,(r 608)),("written_core",1022,(r 615)),("may_be_empty",1029,(r 622)),("least_length",1035,(r 627))]).append [("may_be_left_out",1042,(r 634)),("may_come_again",1049,(r 641)),("NOWHERE",1054,(.int (-1) 1053)),("stretch",1066,(r 649)),("found",1074,(r 656)),("greatest_ends",1084,(r 663)),("ends_behind_items",1092,(r 670))]
abbrev l6:=l5++[(107,510),(112,529),(118,539),(120,546),(132,553),(134,560),(146,567),(155,574),(162,581),(166,588),(174,593),(186,600),(188,607),(195,614),(203,621),(205,626),(207,633),(209,640),(213,648),(219,655),(221,662),(226,669)]
abbrev d7:=d6.append [("ends_with_item",1107,(r 677)),("TextRow",1150,(r 701)),("Truths",1206,(r 739)),("holds",1214,(r 750)),("is_row_up_to",1222,(r 757)),("MOST_FIGURES_pieces",1226,(.int (60) 1225)),("first_swapped",1236,(r 764)),("every_swapped",1249,(r 771)),("words_of",1255,(r 776)),("word_of",1264,(r 783)),("number_of",1272,(r 790))]
abbrev l7:=l6++[(230,676),(244,683),(256,711),(287,749),(293,756),(297,763),(302,770),(315,775),(317,782),(322,789)]
abbrev d8:=d7.append [("Walker",1480,(r 945)),("given_in",1486,(r 954)),("numbers_of_marks",1496,(r 961)),("ahead",1504,(r 966)),("rows_seen_by",1511,(r 973))]
abbrev l8:=l7++[(328,796),(482,953),(484,960),(491,965),(493,972)]
abbrev d9:=d8.append [("Blade",1607,(r 1046)),("COND_BEGINNINGS",1617,(r 1051)),("MOST_ROW",1619,(.int (999) 1618)),("MOST_FIGURES_linereading",1621,(.int (3) 1620)),("MOST_SOON",1623,(.int (3) 1622)),("LEAST_JOIN",1625,(.int (2) 1624)),("MOST_SMALL",1627,(.int (9) 1626)),("MOST_LETTERS",1629,(.int (8) 1628)),("MOST_TEXT",1631,(.int (40) 1630)),("Scan",1704,(r 1103)),("line_of",1714,(r 1114)),("line_next",1720,(r 1119)),("cond_next",1727,(r 1126)),("plain_cond_next",1736,(r 1133)),("row_or_pattern_next",1743,(r 1140)),("deed_next",1750,(r 1147)),("swap_next",1759,(r 1154)),("pile_next",1767,(r 1161))]
abbrev l9:=l8++[(501,979),(559,1057),(591,1113),(597,1118),(605,1125),(611,1132),(623,1139),(627,1146),(652,1153),(656,1160)]
abbrev Z5:=(d9.append [("add_next",1775,(r 1168)),("number_next",1786,(r 1175)),("name_next",1794,(r 1182)),("words_next",1802,(r 1189)),("pattern_next",1810,(r 1196)),("may_stand",1818,(r 1203)),("may_swap",1825,(r 1210)),("cut",1835,(r 1217)),("MOST_LINES",1839,(.int (24) 1838)),("read",1848,(r 1224)),("lines_of",1858,(r 1231)),("marks_of",1868,(r 1238)),("refuse_go_without_mark",1878,(r 1245)),("_law_cell_at",1888,(r 1252)),("_law_whole",1895,(r 1259)),("_law_plain",1903,(r 1266)),("_law_word",1913,(r 1273)),("_law_line",1922,(r 1280)),("_law_said",1929,(r 1287)),("_law_written",1943,(r 1294)),("_law_truth",1949,(r 1299)),("_law_given",1960,(r 1306)),("_law_ahead",1969,(r 1313)),("_law_sign",1978,(r 1320)),("_law_pieces",1992,(r 1327))]).append [("_law_rows",2000,(r 1334)),("_law_flat",2009,(r 1341)),("_law_alike",2015,(r 1346)),("law",2021,(r 1351))]
abbrev Z6:=l9++[(661,1167),(665,1174),(673,1181),(678,1188),(683,1195),(689,1202),(695,1209),(700,1216),(707,1223),(712,1230),(719,1237),(727,1244),(732,1251),(736,1258),(738,1265),(741,1272),(750,1279),(755,1286),(757,1293),(762,1298),(774,1305),(787,1312),(795,1319),(803,1326),(818,1333),(823,1340),(828,1345),(830,1350)]
abbrev cM:=tV []
abbrev jH:W:=λP=>O .none none (.fields ⟨[]⟩) []
abbrev ie:W:=λP=>O (.type "builtin_function_or_method") none (.fields ⟨[(.builtin "type.__prepare__"),(.type "type")]⟩) []
abbrev OG:=tV [(r 31)]
abbrev tu:=tV [(r 186)]
abbrev lq:=tV [(r 331)]
abbrev VQ:W:=λP=>O (.type "function") none (.func (fN "stretch" "stretch" (top 63) 3 [] (r 642) .none .none (.str "rowblade.stretches" 1050) none (r 648) .none 0)) []
def od:List W->List W
 |[]=>[]
 |x::r=>x::(match r with
  |[]=>[]
  |_::r=>od r)
def br:Nat->List W->Params->BT
 |0,_,_=>.nil
 |n+1,l,P=>(match l with
  |[]=>.nil
  |x::r=>.node (x P) (br n (od r) P) (br n (od r.tail) P))
def ov:List W->Nat->Nat->List (Nat×W)->List W
 |[],_,_,_=>[]
 |x::l,i,n,q=>(match n.beq i with
  |true=>[]
  |false=>(match q with
   |[]=>x::ov l (i+1) n []
   |y::r=>(match y.1.beq i with
    |true=>y.2::ov l (i+1) n r
    |false=>x::ov l (i+1) n q)))
abbrev Yb:List Z:=[("__init__",1130,(r 691)),("has",1139,(r 698))]
abbrev Yc:List Z:=[("__init__",1168,(r 717)),("told_of",1180,(r 724)),("truth",1186,(r 729)),("truth_of_stretch",1196,(r 736))]
abbrev Yd:List Z:=[("__init__",1294,(r 804)),("want",1301,(r 811)),("take",1310,(r 818)),("take_with",1319,(r 825)),("go_on",1326,(r 832)),("meet",1336,(r 839)),("hand_over",1344,(r 846)),("finish",1352,(r 853)),("find_none",1359,(r 860)),("give",1367,(r 867)),("end_turn",1374,(r 874)),("give_hand_and_end",1381,(r 881)),("do",1390,(r 888)),("do_giving",1398,(r 895)),("do_swap",1406,(r 902)),("do_join",1414,(r 909)),("do_pile",1423,(r 916)),("do_bring",1432,(r 923)),("rows_on_shelves",1438,(r 928)),("do_add",1450,(r 935)),("do_tell",1458,(r 942))]
abbrev Ye:List Z:=[("__init__",1531,(r 987)),("feed",1541,(r 994)),("finish",1548,(r 1001)),("refuse_once_finished",1555,(r 1008)),("come",1563,(r 1015)),("take_all_but",1572,(r 1022)),("boxes",1579,(r 1029)),("faults",1586,(r 1036)),("kept",1593,(r 1043))]
abbrev Yg:List Z:=[("__init__",1652,(r 1065)),("refuse",1659,(r 1072)),("passes",1667,(r 1079)),("must_pass",1675,(r 1086)),("while_made_of",1684,(r 1093)),("between",1694,(r 1100))]
abbrev dY(s1:Str)(n3 n4 n5 n6 n7:Nat)(l0:Bi)(m2:Value):List W:=[cM,jH,tS (n7+3) l0,cM,fn s1 s1 (top n4),cg s1 n7 (n7+l0.length+3) n5 n3 n6,fO s1 s1 (top n4) m2 (n6+5)]
abbrev OH(s0:Str)(n1 n2 n3:Nat):List W:=[cG s0 [(r 31)] [(r (n2+1)),(r 31),(.type "ValueError"),(.type "Exception"),(.type "BaseException"),(.type "object")] n2 [] (some (r n1)) n3 "ValueError.__new__",su (n2+1),is (n2+1)]
abbrev dZ(s1 s2:Str)(n4 n5 n6 n7 n8 n9:Nat)(l0:Bi)(m3:Value):List W:=[cM,jH,tS (n9+3) l0,cM,fn s1 s2 (inClass (top n6) n5),cf s1 s2 n9 (n9+l0.length+3) n7 n4 n8,fO s1 s2 (inClass (top n6) n5) m3 (n8+5)]
abbrev LQ(s0:Str)(n1 n2 n3:Nat):List W:=[c0 s0 n1 [] n2,gd n3 (n1+1),gw (n3+2) (n1+1),su (n1+1),is (n1+1)]
abbrev pS(s0:Str)(n1 n2 n3 n4:Nat):List W:=[cB s0 n3 n1 [] n2 n4,su (n3+1),is (n3+1)]
abbrev a0:List W:=jx [[boot_o_0,boot_o_1,boot_o_2,di 134 (("__name__",165,(.str "law_rowblade_k42_given_in_time" 1879))::Z5),boot_o_4,boot_o_5,boot_o_6,boot_o_7,boot_o_8,boot_o_9,boot_o_10,cM,lt 0 Z6,cc "<module>" 182 1 11,fr 13 3 m0],dY "_wall" 1 0 1 15 187 ["k"] m0,[tV [(.type "ValueError")],ie,c1 m1 203 "BladeError" 5 [] 208 29 4,cM,jH,cc "BladeError" 198 5 25,fr 27 24 m1,cM,c2 m1 203 5 [] 208 29 [("__weakref__",210,(r 32))] 211 3,cG "BladeError" [(.type "ValueError")] [(r 31),(.type "ValueError"),(.type "Exception"),(.type "BaseException"),(.type "object")] 30 [(r 44),(r 56),(r 75),(r 94),(r 113),(r 132)] (some (r 22)) 196 "ValueError.__new__",gw 209 31,su 31,is 31,OG,ie,c1 m1 221 "NoPattern" 7 [] 226 42 4,cM,jH,cc "NoPattern" 216 7 38,fr 40 37 m1,cM,c2 m1 221 7 [] 226 42 [] 227 2],OH "NoPattern" 35 43 214,[OG,ie,c1 m1 237 "Finished" 9 [] 242 54 4,cM,jH,cc "Finished" 232 9 50,fr 52 49 m1,cM,c2 m1 237 9 [] 242 54 [] 243 2],OH "Finished" 47 55 230,[OG,ie,c1 m1 253 "NoLine" 11 [("__init__",265,(r 72))] 267 73 5,cM,lt 4 [(13,71)],cc "NoLine" 248 11 62,fr 64 61 m1],dZ "__init__" "NoLine.__init__" 2 0 5 13 66 258 ["self","row"] m1,[tS 266 ["row"],c2 m1 253 11 [("__init__",265,(r 72))] 267 73 [] 268 2],OH "NoLine" 59 74 246,[OG,ie,c1 m1 278 "TwoMarks" 15 [("__init__",290,(r 91))] 292 92 5,cM,lt 4 [(17,90)],cc "TwoMarks" 273 15 81,fr 83 80 m1],dZ "__init__" "TwoMarks.__init__" 2 0 6 17 85 283 ["self","row"] m1,[tS 291 ["row"],c2 m1 278 15 [("__init__",290,(r 91))] 292 92 [] 293 2],OH "TwoMarks" 78 93 271,[OG,ie,c1 m1 303 "NoMark" 19 [("__init__",315,(r 110))] 317 111 5,cM,lt 4 [(21,109)],cc "NoMark" 298 19 100,fr 102 99 m1],dZ "__init__" "NoMark.__init__" 2 0 7 21 104 308 ["self","row"] m1]
abbrev a1:List W:=jx [[tS 316 ["row"],c2 m1 303 19 [("__init__",315,(r 110))] 317 111 [] 318 2],OH "NoMark" 97 112 296,[OG,ie,c1 m1 328 "Endless" 23 [("__init__",341,(r 129))] 344 130 5,cM,lt 4 [(25,128)],cc "Endless" 323 23 119,fr 121 118 m1],dZ "__init__" "Endless.__init__" 3 0 8 25 123 333 ["self","row","line"] m1,[tS 342 ["line","row"],c2 m1 328 23 [("__init__",341,(r 129))] 344 130 [] 345 2],OH "Endless" 116 131 321,[cM,ie,c1 m2 357 "Program" 29 [("__init__",369,(r 148))] 371 149 5,cM,lt 4 [(31,147)],cc "Program" 352 29 138,fr 140 137 m2],dZ "__init__" "Program.__init__" 2 0 10 31 142 362 ["self","lines"] m2,[tS 370 ["lines"],c2 m2 357 29 [("__init__",369,(r 148))] 371 149 [("__dict__",373,(r 152)),("__weakref__",375,(r 153))] 376 4],LQ "Program" 150 350 372,[cM,ie,c1 m2 386 "Line" 33 [("__init__",399,(r 169))] 402 170 5,cM,lt 4 [(35,168)],cc "Line" 381 33 159,fr 161 158 m2],dZ "__init__" "Line.__init__" 3 0 11 35 163 391 ["self","cond","deed"] m2,[tS 400 ["cond","deed"],c2 m2 386 33 [("__init__",399,(r 169))] 402 170 [("__dict__",404,(r 173)),("__weakref__",406,(r 174))] 407 4],LQ "Line" 171 379 403,[cM,ie,c1 m2 417 "Cond" 38 [] 422 184 4,cM,jH,cc "Cond" 412 38 180,fr 182 179 m2,cM,c2 m2 417 38 [] 422 184 [("__dict__",424,(r 187)),("__weakref__",426,(r 188))] 427 4,c0 "Cond" 185 [(r 200),(r 219),(r 231),(r 250),(r 269),(r 288),(r 307),(r 319)] 410,gd 423 186,gw 425 186,su 186,is 186,tu,ie,c1 m2 437 "Always" 40 [] 442 198 4,cM,jH,cc "Always" 432 40 194,fr 196 193 m2,cM,c2 m2 437 40 [] 442 198 [] 443 2],pS "Always" 186 191 199 430,[tu,ie,c1 m2 453 "RowIs" 42 [("__init__",465,(r 216))] 467 217 5,cM,lt 4 [(44,215)],cc "RowIs" 448 42 206,fr 208 205 m2],dZ "__init__" "RowIs.__init__" 2 0 14 44 210 458 ["self","number"] m2,[tS 466 ["number"],c2 m2 453 42 [("__init__",465,(r 216))] 467 217 [] 468 2],pS "RowIs" 186 203 218 446]
abbrev a2:List W:=jx [[tu,ie,c1 m2 478 "Last" 46 [] 483 229 4,cM,jH,cc "Last" 473 46 225,fr 227 224 m2,cM,c2 m2 478 46 [] 483 229 [] 484 2],pS "Last" 186 222 230 471,[tu,ie,c1 m2 494 "Like" 48 [("__init__",506,(r 247))] 508 248 5,cM,lt 4 [(50,246)],cc "Like" 489 48 237,fr 239 236 m2],dZ "__init__" "Like.__init__" 2 0 16 50 241 499 ["self","pattern"] m2,[tS 507 ["pattern"],c2 m2 494 48 [("__init__",506,(r 247))] 508 248 [] 509 2],pS "Like" 186 234 249 487,[tu,ie,c1 m2 519 "Soon" 52 [("__init__",532,(r 266))] 535 267 5,cM,lt 4 [(54,265)],cc "Soon" 514 52 256,fr 258 255 m2],dZ "__init__" "Soon.__init__" 3 0 17 54 260 524 ["self","many","pattern"] m2,[tS 533 ["many","pattern"],c2 m2 519 52 [("__init__",532,(r 266))] 535 267 [] 536 2],pS "Soon" 186 253 268 512,[tu,ie,c1 m2 546 "FromTo" 57 [("__init__",559,(r 285))] 562 286 5,cM,lt 4 [(59,284)],cc "FromTo" 541 57 275,fr 277 274 m2],dZ "__init__" "FromTo.__init__" 3 0 18 59 279 551 ["self","first","second"] m2,[tS 560 ["first","second"],c2 m2 546 57 [("__init__",559,(r 285))] 562 286 [] 563 2],pS "FromTo" 186 272 287 539,[tu,ie,c1 m2 573 "Not" 62 [("__init__",585,(r 304))] 587 305 5,cM,lt 4 [(64,303)],cc "Not" 568 62 294,fr 296 293 m2],dZ "__init__" "Not.__init__" 2 0 19 64 298 578 ["self","inner"] m2,[tS 586 ["inner"],c2 m2 573 62 [("__init__",585,(r 304))] 587 305 [] 588 2],pS "Not" 186 291 306 566,[tu,ie,c1 m2 598 "End" 66 [] 603 317 4,cM,jH,cc "End" 593 66 313,fr 315 312 m2,cM,c2 m2 598 66 [] 603 317 [] 604 2],pS "End" 186 310 318 591,[cM,ie,c1 m2 614 "Deed" 68 [] 619 329 4,cM,jH,cc "Deed" 609 68 325,fr 327 324 m2,cM,c2 m2 614 68 [] 619 329 [("__dict__",621,(r 332)),("__weakref__",623,(r 333))] 624 4,c0 "Deed" 330 [(r 352),(r 364),(r 376),(r 388),(r 407),(r 426),(r 445),(r 464),(r 483),(r 502),(r 521),(r 533)] 607,gd 620 331,gw 622 331,su 331,is 331]]
abbrev a3:List W:=jx [[lq,ie,c1 m2 634 "Mark" 70 [("__init__",646,(r 349))] 648 350 5,cM,lt 4 [(72,348)],cc "Mark" 629 70 339,fr 341 338 m2],dZ "__init__" "Mark.__init__" 2 0 22 72 343 639 ["self","name"] m2,[tS 647 ["name"],c2 m2 634 70 [("__init__",646,(r 349))] 648 350 [] 649 2],pS "Mark" 331 336 351 627,[lq,ie,c1 m2 659 "Drop" 74 [] 664 362 4,cM,jH,cc "Drop" 654 74 358,fr 360 357 m2,cM,c2 m2 659 74 [] 664 362 [] 665 2],pS "Drop" 331 355 363 652,[lq,ie,c1 m2 675 "Print" 76 [] 680 374 4,cM,jH,cc "Print" 670 76 370,fr 372 369 m2,cM,c2 m2 675 76 [] 680 374 [] 681 2],pS "Print" 331 367 375 668,[lq,ie,c1 m2 691 "Done" 78 [] 696 386 4,cM,jH,cc "Done" 686 78 382,fr 384 381 m2,cM,c2 m2 691 78 [] 696 386 [] 697 2],pS "Done" 331 379 387 684,[lq,ie,c1 m2 707 "Say" 80 [("__init__",719,(r 404))] 721 405 5,cM,lt 4 [(82,403)],cc "Say" 702 80 394,fr 396 393 m2],dZ "__init__" "Say.__init__" 2 0 26 82 398 712 ["self","words"] m2,[tS 720 ["words"],c2 m2 707 80 [("__init__",719,(r 404))] 721 405 [] 722 2],pS "Say" 331 391 406 700,[lq,ie,c1 m2 732 "Swap" 84 [("__init__",746,(r 423))] 750 424 5,cM,lt 4 [(86,422)],cc "Swap" 727 84 413,fr 415 412 m2],dZ "__init__" "Swap.__init__" 4 0 27 86 417 737 ["self","pattern","words","every"] m2,[tS 747 ["every","pattern","words"],c2 m2 732 84 [("__init__",746,(r 423))] 750 424 [] 751 2],pS "Swap" 331 410 425 725,[lq,ie,c1 m2 761 "Join" 90 [("__init__",773,(r 442))] 775 443 5,cM,lt 4 [(92,441)],cc "Join" 756 90 432,fr 434 431 m2],dZ "__init__" "Join.__init__" 2 0 28 92 436 766 ["self","most"] m2,[tS 774 ["most"],c2 m2 761 90 [("__init__",773,(r 442))] 775 443 [] 776 2],pS "Join" 331 429 444 754]
abbrev a4:List W:=jx [[lq,ie,c1 m2 786 "Pile" 94 [("__init__",799,(r 461))] 802 462 5,cM,lt 4 [(96,460)],cc "Pile" 781 94 451,fr 453 450 m2],dZ "__init__" "Pile.__init__" 3 0 29 96 455 791 ["self","shelf","most"] m2,[tS 800 ["most","shelf"],c2 m2 786 94 [("__init__",799,(r 461))] 802 462 [] 803 2],pS "Pile" 331 448 463 779,[lq,ie,c1 m2 813 "Bring" 99 [("__init__",825,(r 480))] 827 481 5,cM,lt 4 [(101,479)],cc "Bring" 808 99 470,fr 472 469 m2],dZ "__init__" "Bring.__init__" 2 0 30 101 474 818 ["self","shelf"] m2,[tS 826 ["shelf"],c2 m2 813 99 [("__init__",825,(r 480))] 827 481 [] 828 2],pS "Bring" 331 467 482 806,[lq,ie,c1 m2 838 "Go" 103 [("__init__",850,(r 499))] 852 500 5,cM,lt 4 [(105,498)],cc "Go" 833 103 489,fr 491 488 m2],dZ "__init__" "Go.__init__" 2 0 31 105 493 843 ["self","name"] m2,[tS 851 ["name"],c2 m2 838 103 [("__init__",850,(r 499))] 852 500 [] 853 2],pS "Go" 331 486 501 831,[lq,ie,c1 m2 863 "Add" 107 [("__init__",876,(r 518))] 879 519 5,cM,lt 4 [(109,517)],cc "Add" 858 107 508,fr 510 507 m2],dZ "__init__" "Add.__init__" 3 0 32 109 512 868 ["self","first","second"] m2,[tS 877 ["first","second"],c2 m2 863 107 [("__init__",876,(r 518))] 879 519 [] 880 2],pS "Add" 331 505 520 856,[lq,ie,c1 m2 890 "Tell" 112 [] 895 531 4,cM,jH,cc "Tell" 885 112 527,fr 529 526 m2,cM,c2 m2 890 112 [] 895 531 [] 896 2],pS "Tell" 331 524 532 883,[cM,jH,fn "made_of" "made_of" (top 38),C "made_of" "made_of" 907 910 118 2 0 0 3 536 true 537 .none .none .none (r 538),fO "made_of" "made_of" (top 38) m3 539],dY "beginning_of" 2 39 120 541 913 ["text","signs","many"] m3,dY "may_stand_plain" 1 47 132 548 936 ["sign"] m4,dY "pattern" 1 48 134 555 943 ["text","front","body","back","items"] m4]
abbrev a5:List W:=jx [dY "items_of" 1 49 146 562 954 ["body","items","place","behind","many"] m4,dY "place_behind_core" 2 50 155 569 965 ["body","place","bracket"] m4,dY "many_at" 2 51 162 576 974 ["body","place"] m4,dY "item_of" 2 52 166 583 982 ["core","many"] m4,[cM,jH,fn "set_item" "set_item" (top 53),C "set_item" "set_item" 990 993 174 2 0 0 3 590 true 591 .none .none .none (r 592),fO "set_item" "set_item" (top 53) m4 593],dY "is_written_plain" 2 54 186 595 996 ["signs","others"] m4,dY "written" 1 55 188 602 1004 ["one","parts","signs","others","many"] m4,dY "written_core" 2 56 195 609 1015 ["signs","others"] m4,dY "may_be_empty" 1 57 203 616 1023 ["one"] m4,[cM,jH,fn "least_length" "least_length" (top 58),C "least_length" "least_length" 1030 1033 205 1 0 0 3 623 true 624 .none .none .none (r 625),fO "least_length" "least_length" (top 58) m4 626],dY "may_be_left_out" 1 59 207 628 1036 ["item"] m4,dY "may_come_again" 1 60 209 635 1043 ["item"] m4,[tV [(.int (0) 1055)],cM,jH,tS 1059 ["one","row","start","ends","begin"],cM,fn "stretch" "stretch" (top 63),cg "stretch" 1056 1064 213 3 643,VQ],dY "found" 2 64 219 650 1067 ["one","row"] m5,dY "greatest_ends" 2 65 221 657 1075 ["one","row","ends","item"] m5,dY "ends_behind_items" 2 66 226 664 1085 ["row","back"] m5,dY "ends_with_item" 3 67 230 671 1093 ["item","row","behind","signs","others","again","ends","place","end"] m5]
abbrev a6:List W:=jx [[cM,ie,c1 m6 1117 "TextRow" 244 Yb 1143 699 6,cM,lt 4 [(246,690),(251,697)],cc "TextRow" 1112 244 681,fr 683 680 m6],dZ "__init__" "TextRow.__init__" 3 0 69 246 685 1122 ["self","text","number"] m6,dZ "has" "TextRow.has" 2 1 69 251 692 1131 ["self","one","name"] m6,[tS 1140 ["known","number","text"],c2 m6 1117 244 Yb 1143 699 [("__dict__",1145,(r 702)),("__weakref__",1147,(r 703))] 1148 4],LQ "TextRow" 700 1110 1144,[cM,ie,c1 m6 1158 "Truths" 256 Yc 1199 737 8,cM,lt 4 [(258,716),(262,723),(268,728),(279,735)],cc "Truths" 1153 256 709,fr 711 708 m6,cM,jH,fn "__init__" "Truths.__init__" (inClass (top 70) 0),C "__init__" "Truths.__init__" 1163 1166 258 2 0 0 3 713 true 714 .none .none .none (r 715),fO "__init__" "Truths.__init__" (inClass (top 70) 0) m6 716],dZ "told_of" "Truths.told_of" 3 1 70 262 718 1169 ["self","row","behind","truths","place","cond"] m6,[cM,jH,fn "truth" "Truths.truth" (inClass (top 70) 2),C "truth" "Truths.truth" 1181 1184 268 5 0 0 3 725 true 726 .none .none .none (r 727),fO "truth" "Truths.truth" (inClass (top 70) 2) m6 728],dZ "truth_of_stretch" "Truths.truth_of_stretch" 4 3 70 279 730 1187 ["self","place","cond","row"] m6,[tS 1197 ["conds","up"],c2 m6 1158 256 Yc 1199 737 [("__dict__",1201,(r 740)),("__weakref__",1203,(r 741))] 1204 4],LQ "Truths" 738 1151 1200,dY "holds" 2 71 287 744 1207 ["cond","row"] m6,dY "is_row_up_to" 2 72 293 751 1215 ["cond","number"] m6,dY "first_swapped" 3 75 297 758 1227 ["hand","one","words","place"] m7,dY "every_swapped" 3 76 302 765 1237 ["hand","one","words","ends","parts","kept_to","place"] m7,[cM,jH,fn "words_of" "words_of" (top 77),C "words_of" "words_of" 1250 1253 315 1 0 0 3 772 true 773 .none .none .none (r 774),fO "words_of" "words_of" (top 77) m7 775],dY "word_of" 2 78 317 777 1256 ["hand","number","words"] m7,dY "number_of" 1 79 322 784 1265 ["word","figures"] m7]
abbrev a7:List W:=jx [[cM,ie,c1 m8 1282 "Walker" 328 Yd 1473 943 25,cM,lt 4 [(330,803),(347,810),(351,817),(354,824),(365,831),(372,838),(383,845),(388,852),(398,859),(401,866),(404,873),(411,880),(415,887),(435,894),(443,901),(449,908),(455,915),(459,922),(464,927),(470,934),(479,941)],cc "Walker" 1277 328 794,fr 796 793 m8],dZ "__init__" "Walker.__init__" 2 0 81 330 798 1287 ["self","program"] m8,dZ "want" "Walker.want" 1 1 81 347 805 1295 ["self"] m8,dZ "take" "Walker.take" 3 2 81 351 812 1302 ["self","row","behind"] m8,dZ "take_with" "Walker.take_with" 3 3 81 354 819 1311 ["self","text","truths"] m8,dZ "go_on" "Walker.go_on" 1 4 81 365 826 1320 ["self"] m8,dZ "meet" "Walker.meet" 3 5 81 372 833 1327 ["self","line","number","truth"] m8,dZ "hand_over" "Walker.hand_over" 1 6 81 383 840 1337 ["self","rows"] m8,dZ "finish" "Walker.finish" 1 7 81 388 847 1345 ["self","line"] m8,dZ "find_none" "Walker.find_none" 1 8 81 398 854 1353 ["self"] m8,dZ "give" "Walker.give" 2 9 81 401 861 1360 ["self","row"] m8,dZ "end_turn" "Walker.end_turn" 1 10 81 404 868 1368 ["self"] m8,dZ "give_hand_and_end" "Walker.give_hand_and_end" 1 11 81 411 875 1375 ["self"] m8,dZ "do" "Walker.do" 3 12 81 415 882 1382 ["self","deed","number"] m8,dZ "do_giving" "Walker.do_giving" 2 13 81 435 889 1391 ["self","deed"] m8,dZ "do_swap" "Walker.do_swap" 2 14 81 443 896 1399 ["self","deed"] m8]
abbrev a8:List W:=jx [dZ "do_join" "Walker.do_join" 2 15 81 449 903 1407 ["self","deed"] m8,dZ "do_pile" "Walker.do_pile" 2 16 81 455 910 1415 ["self","deed","things"] m8,dZ "do_bring" "Walker.do_bring" 2 17 81 459 917 1424 ["self","deed","thing"] m8,[cM,jH,fn "rows_on_shelves" "Walker.rows_on_shelves" (inClass (top 81) 18),C "rows_on_shelves" "Walker.rows_on_shelves" 1433 1436 464 1 0 0 3 924 true 925 .none .none .none (r 926),fO "rows_on_shelves" "Walker.rows_on_shelves" (inClass (top 81) 18) m8 927],dZ "do_add" "Walker.do_add" 3 19 81 470 929 1439 ["self","deed","number","name","word","amount"] m8,dZ "do_tell" "Walker.do_tell" 1 20 81 479 936 1451 ["self","name"] m8,[tS 1459 ["behind_marks","hand","hand_rows","lines","log","met","noted","passed","shelves","sums","taken","teller","truths","wanting"],c2 m8 1282 328 Yd 1473 943 [("__dict__",1475,(r 946)),("__weakref__",1477,(r 947))] 1478 4],LQ "Walker" 944 1275 1474,[cM,jH,fn "given_in" "given_in" (top 82),C "given_in" "given_in" 1481 1484 482 1 0 0 3 950 true 951 .none .none .none (r 952),fO "given_in" "given_in" (top 82) m8 953],dY "numbers_of_marks" 1 83 484 955 1487 ["lines","numbers","number","line"] m8,[cM,jH,fn "ahead" "ahead" (top 85),C "ahead" "ahead" 1499 1502 491 1 0 0 3 962 true 963 .none .none .none (r 964),fO "ahead" "ahead" (top 85) m9 965],dY "rows_seen_by" 1 86 493 967 1505 ["cond"] m9,[cM,ie,c1 m9 1519 "Blade" 501 Ye 1600 1044 13,cM,lt 4 [(503,986),(511,993),(520,1000),(529,1007),(533,1014),(537,1021),(542,1028),(545,1035),(548,1042)],cc "Blade" 1514 501 977,fr 979 976 m9],dZ "__init__" "Blade.__init__" 2 0 87 503 981 1524 ["self","program"] m9,dZ "feed" "Blade.feed" 2 1 87 511 988 1532 ["self","piece","parts","part"] m9,dZ "finish" "Blade.finish" 1 2 87 520 995 1542 ["self"] m9,dZ "refuse_once_finished" "Blade.refuse_once_finished" 1 3 87 529 1002 1549 ["self"] m9,dZ "come" "Blade.come" 2 4 87 533 1009 1556 ["self","text"] m9]
abbrev a9:List W:=jx [dZ "take_all_but" "Blade.take_all_but" 2 5 87 537 1016 1564 ["self","many","row"] m9,dZ "boxes" "Blade.boxes" 1 6 87 542 1023 1573 ["self"] m9,dZ "faults" "Blade.faults" 1 7 87 545 1030 1580 ["self"] m9,dZ "kept" "Blade.kept" 1 8 87 548 1037 1587 ["self"] m9,[tS 1594 ["came","finished","rest","seen","waiting","walker"],c2 m9 1519 501 Ye 1600 1044 [("__dict__",1602,(r 1047)),("__weakref__",1604,(r 1048))] 1605 4],LQ "Blade" 1045 1512 1601,[tS 1610 ["row ","last","/","soon ","from ","not ","end"],cM,ie,c1 lI 1639 "Scan" 559 Yg 1697 1101 10,cM,lt 4 [(561,1064),(565,1071),(568,1078),(574,1085),(578,1092),(583,1099)],cc "Scan" 1634 559 1055,fr 1057 1054 lI],dZ "__init__" "Scan.__init__" 3 0 97 561 1059 1644 ["self","row","number"] lI,dZ "refuse" "Scan.refuse" 1 1 97 565 1066 1653 ["self"] lI,dZ "passes" "Scan.passes" 2 2 97 568 1073 1660 ["self","words"] lI,dZ "must_pass" "Scan.must_pass" 2 3 97 574 1080 1668 ["self","words"] lI,dZ "while_made_of" "Scan.while_made_of" 2 4 97 578 1087 1676 ["self","signs","taken"] lI,dZ "between" "Scan.between" 2 5 97 583 1094 1685 ["self","sign","place","inside"] lI,[tS 1695 ["number","rest"],c2 lI 1639 559 Yg 1697 1101 [("__dict__",1699,(r 1104)),("__weakref__",1701,(r 1105))] 1702 4],LQ "Scan" 1102 1632 1698,dY "line_of" 2 98 591 1108 1705 ["row","number","scan","line"] lI,[cM,jH,fn "line_next" "line_next" (top 99),C "line_next" "line_next" 1715 1718 597 1 0 0 3 1115 true 1116 .none .none .none (r 1117),fO "line_next" "line_next" (top 99) lI 1118],dY "cond_next" 1 100 605 1120 1721 ["scan"] lI]
abbrev Z7:List W:=jx [dY "plain_cond_next" 1 101 611 1127 1728 ["scan","many","first"] lI,dY "row_or_pattern_next" 1 102 623 1134 1737 ["scan"] lI,dY "deed_next" 1 103 627 1141 1744 ["scan"] lI,dY "swap_next" 2 104 652 1148 1751 ["scan","every","one"] lI,dY "pile_next" 1 105 656 1155 1760 ["scan","shelf"] lI,dY "add_next" 1 106 661 1162 1768 ["scan","first"] lI,dY "number_next" 3 107 665 1169 1776 ["scan","least","most","figures","number"] lI,dY "name_next" 1 108 673 1176 1787 ["scan","name"] lI,dY "words_next" 1 109 678 1183 1795 ["scan","words"] lI,dY "pattern_next" 1 110 683 1190 1803 ["scan","text"] lI,dY "may_stand" 2 111 689 1197 1811 ["cond","deed"] lI,dY "may_swap" 1 112 695 1204 1819 ["deed"] lI,dY "cut" 1 114 700 1211 1828 ["text","rows"] Z4,dY "read" 1 117 707 1218 1840 ["text","lines","marks"] Ux,dY "lines_of" 1 118 712 1225 1849 ["rows","lines","number","row"] Ux,dY "marks_of" 1 119 719 1232 1859 ["lines","marks","number","line"] Ux]
abbrev Z8:List W:=jx [dY "refuse_go_without_mark" 2 120 727 1239 1869 ["lines","marks","number","line"] Ux,dY "_law_cell_at" 2 122 732 1246 1881 ["_law_script","_law_k"] ve,dY "_law_whole" 1 123 736 1253 1889 ["_law_answer"] ve,dY "_law_plain" 1 124 738 1260 1896 ["_law_number","_law_some"] ve,dY "_law_word" 1 125 741 1267 1904 ["_law_number","_law_signs","_law_k","_law_way"] ve,dY "_law_line" 1 126 750 1274 1914 ["_law_cell","_law_mixed","_law_word_here"] ve,dY "_law_said" 1 127 755 1281 1923 ["_law_word_here"] ve,dY "_law_written" 1 128 757 1288 1930 ["_law_line_here","_law_kind","_law_deed","_law_word_here","_law_many","_law_number","_law_cond","_law_told"] ve,[cM,jH,fn "_law_truth" "_law_truth" (top 129),C "_law_truth" "_law_truth" 1944 1947 762 3 0 0 3 1295 true 1296 .none .none .none (r 1297),fO "_law_truth" "_law_truth" (top 129) ve 1298],dY "_law_given" 3 130 774 1300 1950 ["_law_lines","_law_rows_here","_law_at","_law_given_here","_law_line_here"] ve,dY "_law_ahead" 1 131 787 1307 1961 ["_law_lines","_law_most","_law_line_here"] ve,dY "_law_sign" 1 132 795 1314 1970 ["_law_number","_law_some","_law_spot"] ve,dY "_law_pieces" 1 133 803 1321 1979 ["_law_cells","_law_room","_law_pieces_here","_law_cell","_law_many","_law_number","_law_signs","_law_k"] ve,dY "_law_rows" 1 134 818 1328 1993 ["_law_text","_law_rows_here"] ve,dY "_law_flat" 1 135 823 1335 2001 ["_law_lists","_law_rows_here","_law_some"] ve,[cM,jH,fn "_law_alike" "_law_alike" (top 136),C "_law_alike" "_law_alike" 2010 2013 828 2 0 0 3 1342 true 1343 .none .none .none (r 1344),fO "_law_alike" "_law_alike" (top 136) ve 1345,cM,jH]]
abbrev Z9:List W:=jx [[fn "law" "law" (top 137),C "law" "law" 2016 2019 830 1 0 0 3 1347 true 1348 .none .none .none (r 1349),fO "law" "law" (top 137) ve 1350]]
abbrev os:List W:=a0++(a1++(a2++(a3++(a4++(a5++(a6++(a7++(a8++(a9++(Z7++(Z8++(Z9))))))))))))
abbrev tr(n:Nat)(q:List (Nat×W)):Params->BT:=br 12 (ov os 0 n q)
abbrev lf:Life:=⟨[],[],[],0,[],[],false,#[],[],0,false,false,false,0,[2000,10,10],false,0,true,[],[],0,false⟩
abbrev TA(w:World)(os:OsState):SharedT:=⟨tr 15 [(3,boot_o_3),(12,jH)] w.params,15,lf,⟨[]⟩,⟨0,0,0,0⟩,187,os⟩
abbrev T0(w:World)(os:OsState):SharedT:=⟨tr 97 [(3,di 15 (("__name__",165,(.str "rowblade.errors" 194))::d0)),(12,lt 0 l0),(31,cG "BladeError" [(.type "ValueError")] [(r 31),(.type "ValueError"),(.type "Exception"),(.type "BaseException"),(.type "object")] 30 [(r 44),(r 56),(r 75),(r 94)] (some (r 22)) 196 "ValueError.__new__")] w.params,97,lf,⟨[]⟩,⟨0,0,0,0⟩,296,os⟩
abbrev T1(w:World)(os:OsState):SharedT:=⟨tr 191 [(3,di 20 (("__name__",165,(.str "rowblade.lines" 348))::d1)),(12,lt 0 l1),(186,c0 "Cond" 185 [] 410)] w.params,191,lf,⟨[]⟩,⟨0,0,0,0⟩,430,os⟩
abbrev T2(w:World)(os:OsState):SharedT:=⟨tr 272 [(3,di 25 (("__name__",165,(.str "rowblade.lines" 348))::d2)),(12,lt 0 l2),(186,c0 "Cond" 185 [(r 200),(r 219),(r 231),(r 250),(r 269)] 410)] w.params,272,lf,⟨[]⟩,⟨0,0,0,0⟩,539,os⟩
abbrev T3(w:World)(os:OsState):SharedT:=⟨tr 355 [(3,di 30 (("__name__",165,(.str "rowblade.lines" 348))::d3)),(12,lt 0 l3),(331,c0 "Deed" 330 [(r 352)] 607)] w.params,355,lf,⟨[]⟩,⟨0,0,0,0⟩,652,os⟩
abbrev T4(w:World)(os:OsState):SharedT:=⟨tr 429 [(3,di 35 (("__name__",165,(.str "rowblade.lines" 348))::d4)),(12,lt 0 l4),(331,c0 "Deed" 330 [(r 352),(r 364),(r 376),(r 388),(r 407),(r 426)] 607)] w.params,429,lf,⟨[]⟩,⟨0,0,0,0⟩,754,os⟩
abbrev T5(w:World)(os:OsState):SharedT:=⟨tr 505 [(3,di 39 (("__name__",165,(.str "rowblade.lines" 348))::d5)),(12,lt 0 l5),(331,c0 "Deed" 330 [(r 352),(r 364),(r 376),(r 388),(r 407),(r 426),(r 445),(r 464),(r 483),(r 502)] 607)] w.params,505,lf,⟨[]⟩,⟨0,0,0,0⟩,856,os⟩
abbrev T6(w:World)(os:OsState):SharedT:=⟨tr 671 [(3,di 71 (("__name__",165,(.str "rowblade.stretches" 1050))::d6)),(12,lt 0 l6)] w.params,671,lf,⟨[]⟩,⟨0,0,0,0⟩,1093,os⟩
abbrev T7(w:World)(os:OsState):SharedT:=⟨tr 791 [(3,di 82 (("__name__",165,(.str "rowblade.walker" 1273))::d7)),(12,lt 0 l7)] w.params,791,lf,⟨[]⟩,⟨0,0,0,0⟩,1275,os⟩
abbrev T8(w:World)(os:OsState):SharedT:=⟨tr 974 [(3,di 87 (("__name__",165,(.str "rowblade.blade" 1497))::d8)),(12,lt 0 l8)] w.params,974,lf,⟨[]⟩,⟨0,0,0,0⟩,1512,os⟩
abbrev T9(w:World)(os:OsState):SharedT:=⟨tr 1162 [(3,di 105 (("__name__",165,(.str "rowblade.linereading" 1608))::d9)),(12,lt 0 l9)] w.params,1162,lf,⟨[]⟩,⟨0,0,0,0⟩,1768,os⟩
abbrev Qc(w:World)(os:OsState):SharedT:=⟨tr 1352 [] w.params,1352,lf,⟨[]⟩,⟨0,0,0,0⟩,2022,os⟩
abbrev bE:Ee:=behindTheImports pw
abbrev nv:Env:={scope:=pw.main.scope,locals:=mainNs,globals:=mainNs,cells:=[],code:=(r 13),frame:=some 14}
abbrev cE:Code:=.body bE nv
abbrev BF:List Frame:=[topFrame ⟨0,0,0,0⟩]
abbrev an:D1:=(some (r 6))
abbrev Qd:Ee:=(bE.drop 0).take 7
abbrev Qe:Ee:=(bE.drop 7).take 6
abbrev Qf:Ee:=(bE.drop 13).take 5
abbrev Qg:Ee:=(bE.drop 18).take 5
abbrev Qh:Ee:=(bE.drop 23).take 5
abbrev Qi:Ee:=(bE.drop 28).take 4
abbrev Qj:Ee:=(bE.drop 32).take 35
abbrev Qk:Ee:=(bE.drop 67).take 14
abbrev Ql:Ee:=(bE.drop 81).take 6
abbrev Qm:Ee:=(bE.drop 87).take 19
abbrev JO:Ee:=(bE.drop 106).take 32
abbrev S0(w:World)(os:OsState):Shared:=⟨boot_heap w.params,Array.mk [],boot_drawn,boot_toks,os⟩
abbrev Z_:Thread:=piecesOf Qd nv cE ⟨0,0,0,0⟩ BF
abbrev À:Thread:=piecesOf Qe nv cE ⟨15,0,18,22⟩ BF
abbrev Á:Thread:=piecesOf Qf nv cE ⟨38,0,39,8⟩ BF
abbrev Â:Thread:=piecesOf Qg nv cE ⟨52,0,56,30⟩ BF
abbrev Ã:Thread:=piecesOf Qh nv cE ⟨70,0,73,24⟩ BF
abbrev Ä:Thread:=piecesOf Qi nv cE ⟨84,0,89,26⟩ BF
abbrev Å:Thread:=piecesOf Qj nv cE ⟨103,0,106,24⟩ BF
abbrev Æ:Thread:=piecesOf Qk nv cE ⟨226,0,229,36⟩ BF
abbrev Ç:Thread:=piecesOf Ql nv cE ⟨327,0,327,8⟩ BF
abbrev È:Thread:=piecesOf Qm nv cE ⟨493,0,500,12⟩ BF
abbrev VR:Thread:=piecesOf JO nv cE ⟨656,0,660,56⟩ BF
abbrev É:Thread:=⟨denote treeTable cE,cE,⟨0,0,0,0⟩,BF⟩
abbrev Ê:Thread:=blockOf bE nv cE ⟨0,0,0,0⟩ BF
abbrev Ë:Thread:=⟨doneF .next,cE,⟨830,0,861,15⟩,BF⟩
def Yh:Nat->Nat->Nat->B1
 |0,a,_=>[a]
 |k+1,a,n=>a::Yh k (a+n % 16) (n/16)
noncomputable abbrev as:BM:=Yh 781 2 0x131131121211212112121121211212112121131121211212112121121211212112121121211212112121121211212112121121211212112121121211212112121121211212112121121211212112121121211311212311111121211212112121121211212112128311111121211212112121121211212112121121211212112128121211311212113311111121211212113112121121211212112121121211212112121121211212112121121211212112121121211212112121121211212812121121211311212112121121211212311111121211311212113a111111212112128121211212112121121211212111212112121131121211212112121121211311212112121121211212112121121211212113311731111212731111212731111212731111212731111212731111212731111212731173117311731111212731111a1173111121273111121273111121273111121273117311112127311731111a111111212a111111212a11112127311112127311112127311112127311731173111711212c1
def sl:List W->Nat->B1->List W
 |[],_,_=>[]
 |x::l,i,q=>(match q with
  |[]=>[]
  |y::r=>(match y.beq i with
   |true=>x::sl l (i+1) r
   |false=>sl l (i+1) q))
abbrev K(P:Params):Frag:=as.zip ((sl os 0 as).map λo=>o P)
abbrev vw:Program:={pw with main:={pw.main with body:=([0,2,3,4,5,6,7,8,10,11,12,13,14,15,16,17,18,19,20,21,22,23,24,25,26,27,28,29,30,31,32,33,35,36,37,38,39,41,42,43,44,45,46,47,48,49,50,51,52,53,54,55,56,57,58,59,60,62,64,65,66,67,69,70,71,72,74,75,76,77,78,79,81,82,83,85,86,87,89,90,91,92,93,94,95,96,97,98,99,100,101,102,103,104,105,106,107,108,109,110,111,112,114,116,117,118,119,120,122,123,124,125,126,127,128,129,130,131,132,133,134,135,136,137]:B1).map top}}
abbrev lz:Bi:=["stretch"]
def pre:∀w:World,(λos=>topGo treeTable pw w 11 an 12 (S0 w os) (topStub pw))=λos=>some ((TA w os).abs,É):=by
 exact λw=>by kernel_rfl
def Uy:∀w:World,(λos=>segRun treeTable pw w 11 an 1 1 (TA w os).abs Ê)=λos=>some (Flow.next,(TA w os).abs,cE,(⟨0,0,0,0⟩:Pos)):=by
 exact λw=>by kernel_rfl
def g0:∀w:World,(λos=>segRunT treeTable pw w 11 an 1 1141 (TA w os) Z_)=λos=>some (Flow.next,T0 w os,cE,(⟨15,0,18,22⟩:Pos)):=by
 rewrite [PySem.W.Fast.te10110043849684766642]
 exact λw=>by kernel_rfl
def g1:∀w:World,(λos=>segRunT treeTable pw w 11 an 1 1138 (T0 w os) À)=λos=>some (Flow.next,T1 w os,cE,(⟨38,0,39,8⟩:Pos)):=by
 rewrite [PySem.W.Fast.te10110043849684766642]
 exact λw=>by kernel_rfl
def g2:∀w:World,(λos=>segRunT treeTable pw w 11 an 1 1164 (T1 w os) Á)=λos=>some (Flow.next,T2 w os,cE,(⟨52,0,56,30⟩:Pos)):=by
 rewrite [PySem.W.Fast.te10110043849684766642]
 exact λw=>by kernel_rfl
def g3:∀w:World,(λos=>segRunT treeTable pw w 11 an 1 1141 (T2 w os) Â)=λos=>some (Flow.next,T3 w os,cE,(⟨70,0,73,24⟩:Pos)):=by
 rewrite [PySem.W.Fast.te10110043849684766642]
 exact λw=>by kernel_rfl
def g4:∀w:World,(λos=>segRunT treeTable pw w 11 an 1 1134 (T3 w os) Ã)=λos=>some (Flow.next,T4 w os,cE,(⟨84,0,89,26⟩:Pos)):=by
 rewrite [PySem.W.Fast.te10110043849684766642]
 exact λw=>by kernel_rfl
def g5:∀w:World,(λos=>segRunT treeTable pw w 11 an 1 983 (T4 w os) Ä)=λos=>some (Flow.next,T5 w os,cE,(⟨103,0,106,24⟩:Pos)):=by
 rewrite [PySem.W.Fast.te10110043849684766642]
 exact λw=>by kernel_rfl
def g6:∀w:World,(λos=>segRunT treeTable pw w 11 an 1 1185 (T5 w os) Å)=λos=>some (Flow.next,T6 w os,cE,(⟨226,0,229,36⟩:Pos)):=by
 rewrite [PySem.W.Fast.te10110043849684766642]
 exact λw=>by kernel_rfl
def g7:∀w:World,(λos=>segRunT treeTable pw w 11 an 1 863 (T6 w os) Æ)=λos=>some (Flow.next,T7 w os,cE,(⟨327,0,327,8⟩:Pos)):=by
 rewrite [PySem.W.Fast.te10110043849684766642]
 exact λw=>by kernel_rfl
def g8:∀w:World,(λos=>segRunT treeTable pw w 11 an 1 1000 (T7 w os) Ç)=λos=>some (Flow.next,T8 w os,cE,(⟨493,0,500,12⟩:Pos)):=by
 rewrite [PySem.W.Fast.te10110043849684766642]
 exact λw=>by kernel_rfl
def g9:∀w:World,(λos=>segRunT treeTable pw w 11 an 1 1194 (T8 w os) È)=λos=>some (Flow.next,T9 w os,cE,(⟨656,0,660,56⟩:Pos)):=by
 rewrite [PySem.W.Fast.te10110043849684766642]
 exact λw=>by kernel_rfl
def Ì:∀w:World,(λos=>segRunT treeTable pw w 11 an 1 893 (T9 w os) VR)=λos=>some (Flow.next,Qc w os,cE,(⟨830,0,861,15⟩:Pos)):=by
 rewrite [PySem.W.Fast.te10110043849684766642]
 exact λw=>by kernel_rfl
def fin:∀w:World,(λos=>topRun treeTable pw w 11 an 2 (Qc w os).abs Ë)=λos=>some (Qc w os).abs:=by
 exact λw=>by kernel_rfl
def Í(w:World)(os:OsState):∀l,l=(Qd++(Qe++(Qf++(Qg++(Qh++(Qi++(Qj++(Qk++(Ql++(Qm++(JO++[])))))))))))->topRun treeTable pw w 11 an (1141+(1138+(1164+(1141+(1134+(983+(1185+(863+(1000+(1194+(893+2))))))))))) (TA w os).abs (restOf l nv cE ⟨0,0,0,0⟩ BF)=some (Qc w os).abs:=λl e=>by
 rw[e];exact piece_app (segRun_of (congrFun (g0 w) os)) (piece_app (segRun_of (congrFun (g1 w) os)) (piece_app (segRun_of (congrFun (g2 w) os)) (piece_app (segRun_of (congrFun (g3 w) os)) (piece_app (segRun_of (congrFun (g4 w) os)) (piece_app (segRun_of (congrFun (g5 w) os)) (piece_app (segRun_of (congrFun (g6 w) os)) (piece_app (segRun_of (congrFun (g7 w) os)) (piece_app (segRun_of (congrFun (g8 w) os)) (piece_app (segRun_of (congrFun (g9 w) os)) (piece_app (segRun_of (congrFun (Ì w) os)) (congrFun (fin w) os)))))))))))
def run(w:World)(os:OsState):topRun treeTable pw w 11 an (12+(1+(1141+(1138+(1164+(1141+(1134+(983+(1185+(863+(1000+(1194+(893+2))))))))))))) (S0 w os) (topStub pw)=some (Qc w os).abs:=go_top (congrFun (pre w) os) (piece_block (congrFun (Uy w) os) (Í w os bE (by kernel_rfl)))
def OI:∀P,as=(K P).map (·.1):=λ_=>by kernel_rfl
abbrev H:Hook:=kHook K as OI
abbrev H1(P:Params):Heap:=absHeap ((tr 1352 []) P) 1352 lf
abbrev SF(w:World)(os:OsState):Shared:=⟨H1 w.params,Array.mk [],⟨0,0,0,0⟩,2022,os⟩
abbrev Xt(s:Shared):Bool:=xlAt vw [] s&&recOk (RowW.records (OpenRow.toRowW (OpenLaw.row PySem.Challenge.rw_rowblade_k42_given_in_time))) s
def Î:∀w:World,(fencedOpening treeTable pw w 23776).map (λs=>(s.heap,s.gens,s.drawn,s.toks))=some (boot_heap w.params,Array.mk [],boot_drawn,boot_toks):=boot_open (by kernel_rfl) (by decide) (λs=>by kernel_rfl)
def Ï:∀w:World,((boot_heap w.params).isNs mainGlobals&&(Array.mk []:Array GenState).size == 0,(boot_heap w.params).objs.size,(boot_heap w.params).nsMap mainGlobals "__annotations__")=(true,11,an):=λw=>by kernel_rfl
def Ð:∀w:World,(λos=>(staticsOk (importedModules pw.main.body) (boot_heap w.params) (H1 w.params)&&namesBound pw (H1 w.params)&&gensDone (SF w os)&&laidKept (boot_heap w.params) (H1 w.params)))=λ_=>true:=λw=>by kernel_rfl
def q1:∀w:World,(λos=>PyProof.Rows.seen (Bk (λx=>x.name) (Jy vw)) (PyProof.Rows.ownsOf vw) [] {heap:=(SF w os).heap,drawn:=(SF w os).drawn,toks:=(SF w os).toks,os:=(SF w os).os})=λ_=>PyProof.Rows.expectedOf vw:=λw=>by kernel_rfl
def q2:∀w:World,(λos=>(SF w os).heap.bltView)=λ_=>bltViewBooted:=λw=>by kernel_rfl
def b1:∀w:World,(λos=>(SF w os).heap.keysOk (looseW vw lz) (Bk (λx=>x.name) (Jy vw)) (Bk (λx=>x.fst) (PyProof.Rows.litsOf vw)) (Bk (λx=>x.name) (PyProof.Rows.clssOf vw (looseW vw lz))))=λ_=>true:=λw=>by kernel_rfl
def b2:∀w:World,(λos=>(SF w os).heap.accountedOkI (importedModules pw.main.body))=λ_=>true:=λw=>by kernel_rfl
def b3:∀w:World,(λos=>(SF w os).heap.isNs mainGlobals)=λ_=>true:=λw=>by kernel_rfl
def b4:∀w:World,(λos=>(SF w os).heap.isNs builtinsNs)=λ_=>true:=λw=>by kernel_rfl
def b5:∀w:World,(λos=>PyProof.Rows.tablesOk vw (SF w os).heap)=λ_=>true:=λw=>by kernel_rfl
def b6:∀w:World,(λos=>Xt (SF w os))=λ_=>true:=λw=>by kernel_rfl
def q4:∀w:World,(λos=>PyProof.Rows.tabsOk vw (SF w os))=λ_=>true:=λw=>by kernel_rfl
def q5:∀w:World,(λos=>pinSeenD vw (Jz vw) (SF w os))=λ_=>pinGoodD (Jz vw):=λw=>by kernel_rfl
def q6:∀w:World,(λos=>PyProof.Rows.plainSeenE vw (looseW vw lz) (SF w os))=λ_=>PyProof.Rows.plainGoodE vw (looseW vw lz):=λw=>by kernel_rfl
def q7:∀w:World,(λos=>PyProof.Rows.plainSeenD vw lz (SF w os))=λ_=>PyProof.Rows.plainGoodD vw lz:=λw=>by kernel_rfl
def q8:∀w:World,(λos=>wideSeen vw (SF w os))=λ_=>wideGood vw:=λw=>by kernel_rfl
def q9:∀w:World,(λos=>clsSeenW vw lz (SF w os))=λ_=>clsGoodW vw lz:=λw=>by kernel_rfl
def Ñ:∀w:World,(λos=>openSeen vw lz (importedModules pw.main.body) Xt true (SF w os))=λ_=>openGood vw lz:=λw=>funext λos=>looks_pair (congrFun (q1 w) os) (looks_pair (congrFun (q2 w) os) (looks_pair (by
 show(_&&_&&_&&_&&_&&_&&_)=true;rw[congrFun (b1 w) os,congrFun (b2 w) os,congrFun (b3 w) os,congrFun (b4 w) os,congrFun (b5 w) os,congrFun (b6 w) os];rfl) (looks_pair (congrFun (q4 w) os) (looks_pair (congrFun (q5 w) os) (looks_pair (congrFun (q6 w) os) (looks_pair (congrFun (q7 w) os) (looks_pair (congrFun (q8 w) os) (congrFun (q9 w) os))))))))
def sp{α β γ:Type}{f:α->γ}{g:β->γ}(n:Nat){a:List α}{k:List β}(h1:(a.take n).map f=(k.take n).map g)(h2:(a.drop n).map f=(k.drop n).map g):a.map f=k.map g:=by
 rw[<- II n a,<- II n k,d_,d_,h1,h2]
def Ò:∀w:World,(λos=>(as.take 261).map (SF w os).heap.get?)=λ_=>((K w.params).take 261).map λp=>some p.2:=λw=>by kernel_rfl
def Ó:∀w:World,(λos=>((as.drop 261).take 261).map (SF w os).heap.get?)=λ_=>(((K w.params).drop 261).take 261).map λp=>some p.2:=λw=>by kernel_rfl
def Ô:∀w:World,(λos=>((as.drop 261).drop 261).map (SF w os).heap.get?)=λ_=>(((K w.params).drop 261).drop 261).map λp=>some p.2:=λw=>by kernel_rfl
def Õ:∀w:World,(λos=>Hook.obs H (SF w os))=λ_=>Hook.val H w:=λw=>funext λos=>sp 261 (congrFun (Ò w) os) (sp 261 (congrFun (Ó w) os) (congrFun (Ô w) os))
def left:LeftO pw vw lz Xt (Hook.obs H) (Hook.val H) 23776:=LeftO.of_pieces (H₁:=H1) (gs₁:=Array.mk []) (d₁:=⟨0,0,0,0⟩) (k₁:=2022) Î Ï run (by decide) λw=>funext λos=>looks_pair (congrFun (Ð w) os) (looks_pair (congrFun (Ñ w) os) (congrFun (Õ w) os))
end KH
end
namespace L2
open PySem PySem.Spec PyProof.Rows
section
variable{κ:Type}[DecidableEq κ]
def ja(aS:List (κ×V))(k:κ):Option V:=(aS.find? λkv=>decide (kv.1=k)).map (·.2)
def putK(aS:List (κ×V))(k:κ)(v:V):List (κ×V):=
 if(aS.any λkv=>decide (kv.1=k))=true then aS.map (λkv=>if kv.1=k then(kv.1,v)else kv)else aS++[(k,v)]
def iy{p:κ×V}{r:List (κ×V)}{k:κ}(e:p.1=k):ja (p::r) k=some p.2:=by simp[ja,zH,e]
def iz{p:κ×V}{r:List (κ×V)}{k:κ}(e:¬ p.1=k):ja (p::r) k=ja r k:=by simp[ja,zH,e]
theorem mC(k:κ):∀aS:List (κ×V),(aS.any λkv=>decide (kv.1=k))=(ja aS k).isSome
 |[]=>rfl
 |p::r=>by
  rw[qo];by_cases e:p.1=k
  ·simp only[iy e,decide_eq_true e,Bool.true_or,Option.isSome_some]
  ·rw[iz e,decide_eq_false e,Bool.false_or];exact mC k r
def kQ(aS:List (κ×V))(k:κ)(v:V):(putK aS k v).length<=aS.length+1:=by
 unfold putK;split
 ·rw[bK];omega
 ·rw[b9,cU,jy];omega
def iS.gB{o:Option V}{u:D1}(r:iS o u):o.isSome=u.isSome:=by
 cases o with
 |none=>cases u with
  |none=>rfl
  |some _=>exact(show False from r).elim
 |some _=>cases u with
  |none=>exact(show False from r).elim
  |some _=>rfl
def KV.val{aS:List (κ×V)}{vs:List (κ×Value)}(r:KV aS vs)(k:κ):iS (ja aS k) (valueAt vs k):=by
 unfold KV at r
 induction r with
 |nil=>exact True.intro
 | @cons p q ps qs h t ih=>
  obtain⟨h1,h2⟩:=h;by_cases e:p.1=k
  ·have e':q.1=k:=h1.symm.trans e
   have b:valueAt (q::qs) k=some q.2:=by simp[valueAt,zH,e']
   rw[iy e,b];exact h2
  ·have e':¬ q.1=k:=λz=>e (h1.trans z)
   have b:valueAt (q::qs) k=valueAt qs k:=by simp[valueAt,zH,e']
   rw[iz e,b];exact ih
theorem KV.any{aS:List (κ×V)}{vs:List (κ×Value)}(r:KV aS vs)(k:κ):(aS.any λkv=>decide (kv.1=k))=vs.any λkv=>decide (kv.1=k):=by
 unfold KV at r
 induction r with
 |nil=>rfl
 |cons h t ih=>rw[qo,qo,ih,h.1]
def KV.LR{aS:List (κ×V)}{vs:List (κ×Value)}(r:KV aS vs)(k:κ){y:V}{u:Value}(ry:RelV y u) :
  KV (aS.map λkv=>if kv.1=k then(kv.1,y)else kv) (vs.map λkv=>if kv.1=k then(kv.1,u)else kv):=by
 unfold KV at r ⊢
 induction r with
 |nil=>exact .nil
 | @cons p q ps qs h t ih=>
  rw[dO,dO];refine .cons ?_ ih;obtain⟨h1,h2⟩:=h;by_cases e:p.1=k
  ·rw[if_pos e,if_pos (h1.symm.trans e)];exact⟨h1,ry⟩
  ·rw[if_neg e,if_neg (λz=>e (h1.trans z))];exact⟨h1,h2⟩
def KV.put{aS:List (κ×V)}{vs:List (κ×Value)}(r:KV aS vs)(k:κ){y:V}{u:Value}(ry:RelV y u):KV (putK aS k y) (stored vs k u):=by
 unfold putK stored;rw[r.any k];by_cases e:(vs.any λkv=>decide (kv.1=k))=true
 ·rw[if_pos e,if_pos e];exact r.LR k ry
 ·rw[if_neg e,if_neg e];exact Paired.snoc r ⟨rfl,ry⟩
theorem KV.length{aS:List (κ×V)}{vs:List (κ×Value)}(r:KV aS vs):aS.length=vs.length:=Paired.length r
end
def tD{P:Program}{w:World}{k:Key}{u:Value}(r:RelV (kV k) u):(bQ P w).is k u=true:=by
 cases k with
 |inl i=>obtain⟨t,e⟩:=(show ∃t,u=Value.int i t from r);subst e;exact sE P w i t
 |inr x=>obtain⟨t,e⟩:=(show ∃t,u=Value.str x t from r);subst e;exact sF P w x t
theorem pU{P:Program}{w:World}:∀{ks:List Key}{us:B2},Vals (ks.map kV) us->ItemsAre (bQ P w) ks us
 |[],_,r=>by rw[wY]at r;cases r;exact .nil
 |k::ks,_,r=>by
  rw[dO]at r;cases r with
  |cons h t=>exact .cons (tD h) (pU t)
abbrev KT(H:Hp):List (List Key×V)->List (List Key×Addr×Value)->Prop:=Paired λp q=>p.1=q.1/\H q.2.1=some (.tup (p.1.map kV))/\RelV p.2 q.2.2
def KT.val{H:Hp}{aS:List (List Key×V)}{xs:List (List Key×Addr×Value)}(r:KT H aS xs)(k:List Key):iS (ja aS k) ((atKey xs k).map (·.2)):=by
 induction r with
 |nil=>exact True.intro
 | @cons p q ps qs h t ih=>
  obtain⟨h1,_,h2⟩:=h;by_cases e:p.1=k
  ·have e':q.1=k:=h1.symm.trans e
   have b:atKey (q::qs) k=some q.2:=by simp[atKey,zH,e']
   rw[iy e,b];exact h2
  ·have e':¬ q.1=k:=λz=>e (h1.trans z)
   have b:atKey (q::qs) k=atKey qs k:=by simp[atKey,zH,e']
   rw[iz e,b];exact ih
def KT.LR{H:Hp}{aS:List (List Key×V)}{xs:List (List Key×Addr×Value)}(r:KT H aS xs)(k:List Key){y:V}{u:Value}(ry:RelV y u) :
  KT H (aS.map λkv=>if kv.1=k then(kv.1,y)else kv) (xs.map (putAt k u)):=by
 induction r with
 |nil=>exact .nil
 | @cons p q ps qs h t ih=>
  rw[dO,dO];refine .cons ?_ ih;obtain⟨h1,h2,h3⟩:=h;unfold putAt;by_cases e:p.1=k
  ·rw[if_pos e,if_pos (h1.symm.trans e)];exact⟨h1,h2,ry⟩
  ·rw[if_neg e,if_neg (λz=>e (h1.trans z))];exact⟨h1,h2,h3⟩
def KT.put{H:Hp}{aS:List (List Key×V)}{xs:List (List Key×Addr×Value)}(r:KT H aS xs)(k:List Key){b:Addr}{y:V}{u:Value}(hb:H b=some (.tup (k.map kV)))(ry:RelV y u) :
  KT H (putK aS k y) (storedH xs k b u):=by
 have e:(aS.any λkv=>decide (kv.1=k))=(atKey xs k).isSome:=by
  rw[mC,(r.val k).gB,BV]
 unfold putK storedH;rw[e];by_cases q:(atKey xs k).isSome=true
 ·rw[if_pos q,if_pos q];exact r.LR k ry
 ·rw[if_neg q,if_neg q];exact Paired.snoc r ⟨rfl,hb,ry⟩
def KT.keeps{H H':Hp}{aS:List (List Key×V)}{xs:List (List Key×Addr×Value)}(r:KT H aS xs)(ht:∀b ys,H b=some (.tup ys)->H' b=some (.tup ys)):KT H' aS xs:=
 Paired.KY r λ_ _ z=>⟨z.1,ht _ _ z.2.1,z.2.2⟩
variable{a:Addr}{A:Around}{X:Cx}{H:Hp}{ae:dJ}{s:Shared}{σ:St}{y:V}{u:Value}{E:Value->Shared->Prop}
section
variable{P:Program}{w:World}{h:Heap}
def JP{u:HO}(ok:jq P w H h)(e:Rd H a u):cK P w H h a u:=e.ok ok
def tF{aS:List (Key×V)}(ok:jq P w H h)(e:Rd H a (.dK aS)):aS.length<=sizeLine/\(a == sysModules)=false/\∃vs,KV aS vs/\h.DictOf (bQ P w) a vs:=
 show cK P w H h a (.dK aS)from JP ok e
def JQ{aS:List (Key×V)}(ok:jq P w H h)(e:H a=some (.dK aS)):aS.length<=sizeLine/\(a == sysModules)=false/\∃vs,KV aS vs/\h.DictOf (bQ P w) a vs:=tF ok (.inl e)
def mD{ks:List Key}(ok:jq P w H h)(e:H a=some (.tup (ks.map kV))):(tupleKind (bQ P w)).is h ks a:=by
 obtain⟨_,its,r,o,h1,h2,n,h3⟩:=(show cK P w H h a (.tup (ks.map kV))from ok a _ e);exact⟨o,its.toArray,n,h1,h2,h3,by simpa using pU r⟩
def tG{aS:List (List Key×V)}(ok:jq P w H h)(e:Rd H a (.dT aS)):aS.length<=sizeLine/\(a == sysModules)=false /\
  ∃xs,KT H aS xs/\h.DictOfH (tupleKind (bQ P w)) a xs:=by
 obtain⟨z,y,xs,r,o,es,ep,h1,h2,h3,h4,h5⟩:=(show cK P w H h a (.dT aS)from JP ok e);refine⟨z,y,xs,r,o,es,ep,h1,h2,h3,h4,λx hx=>?_,h5⟩;have all:∀{l:List (List Key×V)}{m:List (List Key×Addr×Value)},KT H l m->∀x∈m,(tupleKind (bQ P w)).is h x.1 x.2.1:=by
  intro l m q
  induction q with
  |nil=>intro x hx;exact nomatch hx
  | @cons p q ps qs hq t ih=>
   intro x hx;rcases cA.mp hx with e|hx
   ·subst e
    exact mD ok (by rw[<- hq.1];exact hq.2.1)
   ·exact ih x hx
 exact all r x hx
def Qn{aS:List (List Key×V)}(ok:jq P w H h)(e:H a=some (.dT aS)):aS.length<=sizeLine/\(a == sysModules)=false /\
  ∃xs,KT H aS xs/\h.DictOfH (tupleKind (bQ P w)) a xs:=tG ok (.inl e)
end
def tH(H:Hp)(a:Addr)(y:V)(r:Option V):Prop:=
 (∃aS k,Rd H a (.dK aS)/\y=kV k/\r=ja aS k)\/∃aS k b,Rd H a (.dT aS)/\y=.ref b/\H b=some (.tup (k.map kV))/\r=ja aS k
def F_(H:Hp)(a:Addr)(y v:V)(H':Hp):Prop:=
 (∃aS k,H a=some (.dK aS)/\y=kV k/\aS.length<sizeLine/\H'=upd H a (.dK (putK aS k v))) \/
 ∃aS k b,H a=some (.dT aS)/\y=.ref b/\H b=some (.tup (k.map kV))/\aS.length<sizeLine/\H'=upd H a (.dT (putK aS k v))
theorem tH.k{H:Hp}{a:Addr}{aS:List (Key×V)}{k:Key}(e:H a=some (.dK aS)):tH H a (kV k) (ja aS k):=.inl ⟨aS,k,.inl e,rfl,rfl⟩
theorem F_.k{H:Hp}{a:Addr}{aS:List (Key×V)}{k:Key}{v:V}(e:H a=some (.dK aS))(hl:aS.length<sizeLine):F_ H a (kV k) v (upd H a (.dK (putK aS k v))):=.inl ⟨aS,k,e,rfl,hl,rfl⟩
section
variable{v:V}{r:Value}{o:Option V}
def Inv.big(I:Inv X ae σ H s):sysModules<s.heap.objs.size:=by
 have h:mainGlobals<s.heap.objs.size:=(I.mod.glob.keeps I.bk).lt;exact Nat.lt_trans (by decide) h
def Ag{Q:Value->Shared->Prop}(hu:A.units+1<cLine)(I:Inv X ae σ H s)(g:tH H a y (some v))(ry:RelV y u)(h:∀w' s',Inv X ae σ H s'->RelV v w'->Q w' s') :
  wpAny (model X.prog X.w) A (getItem (.ref a) u) Q E s:=by
 rcases g with⟨aS,k,e,ey,l⟩|⟨aS,k,b,e,ey,eb,l⟩
 ·subst ey
  obtain⟨z,hd,vs,rel,dd⟩:=tF I.bL e;obtain⟨w',hw,vI⟩:=iS.some_of (v:=v) (o:=valueAt vs k) (by rw[l];exact rel.val k)
  exact wpAny_getItem_of (tD ry) dd.mapOf hw (h w' _ (I.tok _) vI)
 ·subst ey
  cases(show u=Value.ref b from ry);obtain⟨z,hd,xs,rel,dd⟩:=tG I.bL e;obtain⟨w',hw,vI⟩:=iS.some_of (v:=v) (o:=(atKey xs k).map (·.2)) (by rw[l];exact rel.val k)
  obtain⟨p,hp,VS⟩:=dg.mp hw;refine wpAny_getItem_heap (tupleKind_room_in1 hu) (mD I.bL eb) dd hp ?_;rw[VS];exact h w' _ (I.tok _) vI
def VT{Q:Value->Shared->Prop}(hu:A.units+1<cLine)(I:Inv X ae σ H s)(g:tH H a y o)(ry:RelV y u)(h:∀s',Inv X ae σ H s'->Q (.bool o.isSome) s') :
  wpAny (model X.prog X.w) A (compareOp .In u (.ref a)) Q E s:=by
 rcases g with⟨aS,k,e,ey,l⟩|⟨aS,k,b,e,ey,eb,l⟩
 ·subst ey
  obtain⟨z,hd,vs,rel,dd⟩:=tF I.bL e;refine wpAny_in_of (tD ry) hd dd.mapOf ?_;rw[<- (rel.val k).gB,<- l];exact h _ (I.tok _)
 ·subst ey
  cases(show u=Value.ref b from ry);obtain⟨z,hd,xs,rel,dd⟩:=tG I.bL e;refine wpAny_in_heap (tupleKind_room_in1 hu) (mD I.bL eb) hd dd ?_;have q:=(rel.val k).gB;rw[BV]at q;rw[<- q,<- l];exact h _ (I.tok _)
def Ga{Q:Value->Shared->Prop}(hu:A.units+1<cLine)(I:Inv X ae σ H s)(g:tH H a y o)(ry:RelV y u)(h:∀s',Inv X ae σ H s'->Q (.bool (!o.isSome)) s') :
  wpAny (model X.prog X.w) A (compareOp .NotIn u (.ref a)) Q E s:=by
 rcases g with⟨aS,k,e,ey,l⟩|⟨aS,k,b,e,ey,eb,l⟩
 ·subst ey
  obtain⟨z,hd,vs,rel,dd⟩:=tF I.bL e;refine wpAny_notIn_of (tD ry) hd dd.mapOf ?_;rw[<- (rel.val k).gB,<- l];exact h _ (I.tok _)
 ·subst ey
  cases(show u=Value.ref b from ry);obtain⟨z,hd,xs,rel,dd⟩:=tG I.bL e;refine wpAny_notIn_heap (tupleKind_room_in1 hu) (mD I.bL eb) hd dd ?_;have q:=(rel.val k).gB;rw[BV]at q;rw[<- q,<- l];exact h _ (I.tok _)
def xS{h':Heap}{t':Nat}{ob:HO}(I:Inv X ae σ H s)(mu:OZ (H a))(hs:Heap.SameBut a s.heap h')(he:∃q,h'.get? a=some q)(new:cK X.prog X.w (upd H a ob) h' a ob) :
  Inv X ae σ (upd H a ob) {s with heap:=h',toks:=t'}:=
 I.write (x:=a) (e:=a) mu (.inl rfl) (λb q hb z=>(hs.2 b hb).trans z) he new
def LS{P:Program}{w:World}{H':Hp}{h':Heap}{aS:List (Key×V)}{vs:List (Key×Value)}(z:aS.length<=sizeLine)(hd:(a == sysModules)=false)(rel:KV aS vs)(dd:h'.DictOf (bQ P w) a vs) :
  cK P w H' h' a (.dK aS):=⟨z,hd,vs,rel,dd⟩
def Ah{H':Hp}{Q:Unit->Shared->Prop}(hu:A.units+1<cLine)(I:Inv X ae σ H s)(g:F_ H a y v H')(ry:RelV y u)(rv:RelV v r)(h:∀s',Inv X ae σ H' s'->Q () s') :
  wpAny (model X.prog X.w) A (setItem (.ref a) u r) Q E s:=by
 rcases g with⟨aS,k,e,ey,l,eH⟩|⟨aS,k,b,e,ey,eb,l,eH⟩
 ·subst ey eH
  obtain⟨z,hd,vs,rel,dd⟩:=JQ I.bL e;have hz:vs.length<=sizeLine:=by rw[<- rel.length];exact z
  have hl:(putK aS k v).length<=sizeLine:=by have:=kQ aS k v;omega
  refine wpAny_setItem_pairs (hsz:=hz) (tD ry) dd λh' Uz hs=>h _ ?_;have he:∃q,h'.get? a=some q:=let⟨q,_,_,hq,_⟩:=Uz;⟨q,hq⟩;exact xS I (by rw[e];exact True.intro) hs he (LS hl hd (rel.put k rv) Uz)
 ·subst ey eH
  cases(show u=Value.ref b from ry);obtain⟨z,hd,xs,rel,dd⟩:=Qn I.bL e;have hz:xs.length<=sizeLine:=by rw[<- Paired.length rel];exact z
  have hl:(putK aS k v).length<=sizeLine:=by have:=kQ aS k v;omega
  refine wpAny_setItem_heap (hsz:=hz) (tupleKind_room_in1 hu) (mD I.bL eb) dd λh' Uz hs=>h _ ?_;obtain⟨q,es,ep,hq,h2,h3,h4,_,h5⟩:=Uz;refine xS I (by rw[e];exact True.intro) hs ⟨q,hq⟩ ⟨hl,hd,_,(rel.put k eb rv).keeps λc ys ec=>?_,q,es,ep,hq,h2,h3,h4,h5⟩
  rw[aq (OY ec e (λz=>nomatch z))];exact ec
end
section
variable{aS:List (Key×V)}{k:Key}
end
def LU(i:Expr):Prop:=∀ov iv,subscripted i false ov iv=operate [ov,iv] (getItem ov iv)
def Gb{prog:Program}{w:World}{A:Around}{E:Value->Shared->Prop}{s:Shared}{env:Env}{value slice:Expr}{pos:Pos}{T id:String}{Q:Value->Shared->Prop}
  (hl:typeLookup (.type T) "__getitem__" = pure (some (.builtin id))) (hs:LU slice)
  (h:wpAny (model prog w) A (eval value env) (λo s₁=>wpAny (model prog w) A (eval slice env) (λi s₂=>s₂.TypeIs o T/\wpAny (model prog w) A (getItem o i) Q E s₂) E s₁) E s) :
  wpAny (model prog w) A (eval (.Subscript value slice pos) env) Q E s:=by
 refine Subscript_ (wpAny_mono h (λo s₁ h₁=>wpAny_mono h₁ (λi s₂ h₂=>?_) λ_ _ x=>x) λ_ _ x=>x);obtain⟨hT,h₂⟩:=h₂;unfold subscriptTail;refine wpAny_bind ?_;rw[getitemInPython_of_ne hT.not_modules];refine wpAny_bind (wpAny_specialOf hT hl ?_);have fin:wpAny (model prog w) A (subscripted slice false o i) (λr s₃=>wpAny (model prog w) A (letTemporaryGo value o r >>= λ_=>pure r) Q E s₃) E s₂:=by
  rw[hs o i];exact wpAny_operating (wpAny_mono h₂ (λr s₃ h₃=>wpAny_bind (wpAny_letTemporaryGo (wpAny_pure h₃))) λ_ _ x=>x)
 first
  |exact wpAny_pure (wpAny_bind fin)
  |exact wpAny_bind (wpAny_pure (wpAny_bind fin))
  |exact wpAny_bind fin
def tK{X:Cx}{ae:dJ}{σ:St}{H:Hp}{s:Shared}{a:Addr}{y:V}{o:Option V}(I:Inv X ae σ H s)(g:tH H a y o):s.TypeIs (.ref a) "dict" := by
 rcases g with⟨aS,k,e,_,_⟩|⟨aS,k,b,e,_,_,_⟩
 ·obtain⟨_,_,vs,_,dd⟩:=tF I.bL e
  exact dd.typeIs
 ·obtain⟨_,_,xs,_,dd⟩:=tG I.bL e
  exact dd.typeIs
def Qp(td ty:TE):TE:=λσ H Q=>td σ H λx H1=>ty σ H1 λy H2=>∃a v,x=.ref a/\tH H2 a y (some v)/\Q v H2
def Qq(td ty tv:TE):TS:=λD σ H=>tv σ H λv H1=>td σ H1 λx H2=>ty σ H2 λy H3=>∃a H4,x=.ref a/\F_ H3 a y v H4/\D.nx σ H4
section
variable{o i e value:Expr}{pos cy oH:Pos}{td ty tv:TE}
def xT(hu:X.A.units+1<cLine)(ho:PE X o td)(hi:PE X i ty)(hs:LU i):PE X (.Subscript o i pos) (Qp td ty):=by
 intro ae s σ H Q I h;refine Gb PySem.F.slot_dict_getitem.lookup hs (bX (ho ae s σ H _ I h) λu s1 ⟨x,H1,I1,rx,q1⟩=>bX (hi ae s1 σ H1 _ I1 q1) λiv s2 zz=>?_);obtain⟨y,H2,I2,ry,a,v,ex,g,q2⟩:=zz;subst ex
 obtain rfl:u=Value.ref a:=rx
 exact⟨tK I2 g,Ag hu I2 g ry λw' s3 I3 vI=>⟨v,H2,I3,vI,q2⟩⟩
def Gd(hu:X.A.units+1<cLine)(ho:PE X o td)(hi:PE X i ty)(hv:PE X value tv)(hs:swapsWith value (some (.Subscript o i cy)) pos.line X.env=pure false) :
  PS X (.Assign [.Subscript o i cy] value pos) (Qq td ty tv):=by
 intro ae s σ H D I h;refine wpAny_Assign_Subscript (bX (hv ae s σ H _ I h) λr s1 ⟨v,H1,I1,rv,q1⟩=>bX (ho ae s1 σ H1 _ I1 q1) λu s2 ⟨x,H2,I2,rx,q2⟩=>bX (hi ae s2 σ H2 _ I2 q2) λiv s3 ⟨y,H3,I3,ry,a,H4,ex,g,q3⟩=>?_) hs;subst ex
 obtain rfl:u=Value.ref a:=rx
 exact Ah hu I3 g ry rv λs4 I4=>⟨σ,H4,I4,q3⟩
end
def CG{P:Program}{w:World}{H:Hp}(h:Heap)(hb:sysModules<h.objs.size):cK P w H (h.push {cls:=.type "dict",data:=.dict #[]}) h.objs.size (.dK []):=
 ⟨jz _,beq_eq_false_iff_ne.mpr (Ne.symm (eF hb)),[],.nil,Heap.DictOf.new h⟩
def LV:TE:=λ_ H Q=>∀p,H p=none->Q (.ref p) (upd H p (.dK []))
section
variable{pos:Pos}
def tL:PE X (.Dict [] [] pos) LV:=λae s σ H Q I h=>
 wpAny_Dict_empty ⟨.ref s.heap.objs.size,_,I.laid (a:=s.heap.objs.size) (o:=.dK []) (t':=s.toks) (λ_ _ q=>Heap.get?_push_of_some _ q) (c_ _) (CG s.heap I.big),rfl,h _ (I.bL.fresh (c_ _))⟩
end
section
variable{d:V}{r:Value}{o:Option V}
end
section
variable{o e f:Expr}{bF cC:Pos}{td ty tx:TE}
end
section
variable{aS:List (Key×V)}
end
section
end
end L2
namespace Pf
end Pf
namespace L2
open PySem PySem.Spec PyProof.Rows
section
variable{prog:Program}{w:World}
end
section
variable{X:Cx}{a:Expr}{p p1 pos tM:Pos}{ta:TE}
end
end L2
namespace PySem
open Sem (wp)
open AutoSeq1 (wpAny_loadPart')
section
variable{prog:Program}{w:World}{A:Around}{E:Value->Shared->Prop}{s:Shared}
set_option maxHeartbeats 4000000 in
def iA(l:Addr)(items:Array Value)(n:Nat)(hU:Option Addr)(sl:Array D1)(t:Tok) :
  Meets (Builtin.«enumerate.__new__» ⟨[.type "enumerate",.ref l],[(Str.ofString "start",.int 1 t)]⟩) (λ_ R s=>s.heap.get? l=some {cls:=.type "list",dict:=hU,data:=.seq items n,slots:=sl} /\
   R (.ok (.ret (.ref (s.heap.push {cls:=.type "list_iterator",data:=.fields #[.ref l,.int 0 0]}).objs.size)))
    {s with heap:=(s.heap.push {cls:=.type "list_iterator",data:=.fields #[.ref l,.int 0 0]}).push {cls:=.type "enumerate",data:=.fields #[.none,.bool false,.ref s.heap.objs.size,rawInt 1,.none,.none]}}):=
 .of_wp λprog w A R s h=>by
  obtain⟨hp,g,d,tk,os⟩:=s;obtain⟨hl,h⟩:=h;have VU:=sub_enumerate;have hL:Heap.IsList (Shared.heap ⟨hp,g,d,tk,os⟩) l items:=⟨_,hl,rfl,n,rfl⟩
  wp_walk using wpAny_loadPart' hl
  refine wpAny_stack_any λst=>wpAny_pure ?_;split
  ·rename_i c _ _ _ _ _
   cases(c == Value.type "enumerate")
   ·wp_walk using wpAny_loadPart' hl,wpAny_pyIter_list hL
    exact⟨_,rfl,h⟩
   ·wp_walk using wpAny_loadPart' hl,wpAny_pyIter_list hL
    exact⟨_,rfl,h⟩
  ·wp_walk using wpAny_loadPart' hl,wpAny_pyIter_list hL
   exact⟨_,rfl,h⟩
def jb{T newId:String}{self:Value}{rest:B2}{kw:List (Str×Value)}(hl:typeLookup (.type T) "__init__" = pure (some (.builtin "object.__init__")))
  (hm:Bind.madeBy (.type T)=pure (some newId)) (jr:(some newId != some "object.__new__")=true) :
  Meets (Builtin.«object.__init__» ⟨self::rest,kw⟩) (λ_ R s=>s.TypeIs self T/\R (.ok (.ret .none)) s):=by
 refine Meets.of_wp λprog w A R s hs=>?_;obtain⟨hT,hq⟩:=hs;cases rest with
 |nil=>
  cases kw with
  |nil=>exact wpAny_pure ⟨_,rfl,hq⟩
  |cons a kw=>
   repeat (any_goals (first|assumption|wp_step))
   exact⟨_,rfl,hq⟩
 |cons a rest=>
  repeat (any_goals (first|assumption|wp_step))
  exact⟨_,rfl,hq⟩
def iB(a b:Value):checkTypeCall "enumerate" ⟨[a],[(Str.ofString "start",b)]⟩=pure ():=by kernel_rfl
def iU(a b:Value):checkBuiltinCall "enumerate.__new__" ⟨[.type "enumerate",a],[(Str.ofString "start",b)]⟩=pure ():=by kernel_rfl
def tN(o a b:Value):argsOk "object.__init__" ⟨[o,a],[(Str.ofString "start",b)]⟩:=by
 unfold argsOk;rw[signature?_of (id := "object.__init__") (n:=['_','_','t','i','n','i','_','_']) (o:=['t','c','e','j','b','o']) (by kernel_rfl) F.owner_object];kernel_rfl
set_option maxHeartbeats 4000000 in
def kq{l:Addr}{items:Array Value}{t:Tok}{Q:Value->Shared->Prop}(hL:s.heap.IsList l items)
  (h:∀h',IsEnum h' (s.heap.objs.size+1) s.heap.objs.size 1 .none->h'.IsListIter s.heap.objs.size l 0->h'.objs.size=s.heap.objs.size+2 ->
   (∀b o,s.heap.get? b=some o->h'.get? b=some o)->Q (.ref (s.heap.objs.size+1)) {s with heap:=h'}) :
  wpAny (model prog w) A (call (.type "enumerate") [.ref l] [(Str.ofString "start",.int 1 t)]) Q E s:=by
 obtain⟨⟨c,hU,dt,sl⟩,hl,hc,n,hd⟩:=hL
 replace hc:c=.type "list" := hc
 replace hd:dt=.seq items n:=hd
 subst hc hd;have ft:=F.called_enumerate;obtain⟨c,tl,Ö⟩:=ft.mro;have Yi:=ft.made;have VU:=ft.sub;have hct:=iB (.ref l) (.int 1 t);have VV:=iU (.ref l) (.int 1 t);refine wpAny_call (codeAny_of_tree ?_);show wpAny _ _ (callAny (.type "enumerate") _) _ _ _;refine wpAny_pure ⟨Code.quiet_builtin _ (by decide +kernel),codeAny_builtin F.entry_type_call ?_⟩
 rw[Around.under_plain (weight_type_call_type "enumerate" _ _) (units_type_call_type "enumerate" _ _)];have h1:=ft.notType;have h2:=ft.canCreate
 repeat (any_goals (first|assumption|wp_step))
 have hz:(s.heap.push {cls:=.type "list_iterator",data:=.fields #[.ref l,.int 0 0]}).objs.size=s.heap.objs.size+1:=Heap.size_push ..;have he:IsEnum ((s.heap.push {cls:=.type "list_iterator",data:=.fields #[.ref l,.int 0 0]}).push
   {cls:=.type "enumerate",data:=.fields #[.none,.bool false,.ref s.heap.objs.size,rawInt 1,.none,.none]}) (s.heap.objs.size+1) s.heap.objs.size 1 .none:=by
  have:=Heap.get?_push_size (s.heap.push {cls:=.type "list_iterator",data:=.fields #[.ref l,.int 0 0]})
   (o:={cls:=.type "enumerate",data:=.fields #[.none,.bool false,.ref s.heap.objs.size,rawInt 1,.none,.none]}) rfl
  rw[hz]at this;exact this
 have fin:=h _ he ⟨_,Heap.get?_push_of_some _ (Heap.get?_push_size _ rfl),rfl,rfl⟩ (by rw[Heap.size_push,hz]) λb o x=>Heap.get?_push_of_some _ (Heap.get?_push_of_some _ x)
 refine codeAny_mono (codeAny_call_builtin ft.plain F.entry_enumerate_new (wpAny_of_eq VV (iA l items n hU sl t prog w A.in1 (wants (λobj s₁=>s₁.TypeIs obj "enumerate" /\ Q obj s₁) E) s ⟨hl,?_⟩))) λr s₁ hr=>?_
 ·show _/\_
  rw[hz];exact⟨⟨_,he,rfl⟩,fin⟩
 cases r with
 |error e=>exact hr
 |ok fl=>
  cases fl with
  |ret obj=>
   obtain⟨hT,hq⟩:=hr;have VW:=ft.init.lookup;have hbi:=ft.init.bind obj
   repeat (any_goals (first|assumption|wp_step))
   refine codeAny_mono (codeAny_call_builtin ft.init.plain F.entry_object_init (ft.init.check _ _ _ _ _ _ _ _ hT (tN _ _ _) (jb ft.init.lookup ft.made (by decide) prog w A.in1 (wants (λr s₂=>r=.none/\Q obj s₂) E) s₁ ⟨hT,rfl,hq⟩))) λr₂ s₂ hr₂=>?_
   cases r₂ with
   |error e=>exact hr₂
   |ok fl₂=>
    cases fl₂ with
    |ret r=>
     obtain⟨rfl,hq⟩:=hr₂
     repeat (any_goals (first|assumption|wp_step))
    |_=>exact hr₂.elim
  |_=>exact hr.elim
end
end PySem
namespace L2
open PySem PySem.Spec PyProof.Rows
def CH{prog:Program}{w:World}{A:Around}{it:Addr}{fp:BM}{n:Nat}{P:Nat->Value->Prop}{St:Nat->Heap->Prop}(D:Draws prog w A it fp n P St)(m:Nat):Draws prog w A it fp (m+n) (λj x=>∃i,j=m+i/\P i x) (λj h=>∃i,j=m+i/\St i h) where
 live:=λ_ h ⟨i,_,st⟩=>D.live i h st
 frame:=λ_ h h' ⟨i,e,st⟩ k=>⟨i,e,D.frame i h h' st k⟩
 item:=λj s Q E hj ⟨i,e,st⟩ hQ=>D.item i s Q E (by omega) st λx h' tk p lY sb=>hQ x h' tk ⟨i,e,p⟩ ⟨i+1,by omega,lY⟩ sb
 done:=λs Q E ⟨i,e,st⟩ hE=>by
  have:i=n:=by omega
  subst this;exact D.done s Q E st hE
def Qs(K:bz)(m:Nat)(l:Addr)(xs:List V):It:=
 ⟨λi H=>i<xs.length/\cV K H l xs,λi H v H'=>∃p x,H p=none/\xs[i]?=some x/\v=.ref p/\H'=upd H p (.tup [.int ((m+i:Nat):Int),x]),λi H=>i=xs.length/\cV K H l xs⟩
def mF{P:Program}{w:World}{K:bz}{elts:Bz}{x1:Nat}{pos:Pos}{l e it:Addr}{xs:List V}{m:Nat}(VX:e≠it)(hle:l≠e)(VW:l≠it) :
  Turn P w K (.Tuple elts x1 pos) (Qs K m l xs) [e,it] e (λi h=>(∃old,IsEnum h e it ((m+i:Nat):Int) old)/\h.IsListIter it l i) where
 mem:=by simp
 obj:=λi h st b hb=>by
  obtain⟨⟨old,he⟩,o1,e1,_,d1⟩:=st;simp only[cA,ow,or_false]at hb;rcases hb with rfl|rfl
  ·exact⟨_,he,λv q=>by cases q⟩
  ·exact⟨o1,e1,λv q=>by rw[d1]at q;cases q⟩
 keep:=λi h h' st k=>by
  obtain⟨⟨old,he⟩,h1⟩:=st;exact⟨⟨old,k e (by simp) _ he⟩,h1.at λo q=>k it (by simp) o q⟩
 item:=by
  intro X hP hw hK hc i ae s σ H E I hf st hg;subst hP hw hK;obtain⟨hi,hq⟩:=hg;obtain⟨⟨old,he⟩,h1⟩:=st;obtain⟨its,rv,pl,hsz⟩:=I.list hq;obtain⟨u,hu,ru⟩:=rv.get (cX hi);have Ø:i<its.toArray.size:=by rw[ck,<- rv.length];exact hi
  have D:=CH (Draws.list (prog:=X.prog) (w:=X.w) (A:=X.A.in1) (I.ok.hd hc) it l VW its.toArray) m;refine wpAny_pyNext_enum_itemD (n:=m+its.toArray.size) D he ⟨i,rfl,h1,pl.isList⟩ (by omega) VX (by simp only[cA,ow,or_false,not_or];exact⟨VX,Ne.symm hle⟩) λx h' tk px a1 a2 a3 a4 kk=>?_
  obtain⟨i',ei,px⟩:=px
  have:i'=i:=by omega
  subst this;have hx:x=u:=by
   rw[List.getElem?_toArray,hu]at px;exact(kg.inj px).symm
  subst hx;obtain⟨i2,ei2,a2,_⟩:=a2
  have:i2=i'+1:=by omega
  subst this;refine⟨.ref s.heap.objs.size,rfl,?_⟩;refine wpAny_letOwnedTupleGo_enum (s:={s with heap:=h',toks:=tk+1}) a1 λJR b1 b2=>?_
  have lt:∀{d o},s.heap.get? d=some o->s.heap.objs.size≠d:=λe=>BH (Heap.lt_size e);have Ù:∀b∈[e,it],s.heap.objs.size≠b:=λb hb=>by
   obtain⟨o1,e1,_⟩:=h1;simp only[cA,ow,or_false]at hb;rcases hb with rfl|rfl
   ·exact lt he
   ·exact lt e1
  have keep:∀b o,b∉[e,it]->s.heap.get? b=some o->JR.get? b=some o:=λb o hb q=>by
   simp only[cA,ow,or_false,not_or]at hb;exact(b2.2 b hb.1).trans (kk b o hb.1 hb.2 q)
  have hn:H s.heap.objs.size=none:=I.bL.fresh (c_ _);have hT:JR.get? s.heap.objs.size=some {cls:=.type "tuple",data:=.seq #[.int ((m+i':Nat):Int) tk,x]}:=(b2.2 _ (lt he)).trans a3;have Qt:IsTup JR s.heap.objs.size ([.int ((m+i':Nat):Int) tk,x]:B2).toArray:=⟨_,hT,rfl,0,rfl⟩;have Qu:∀b v,H b=some v->b∉[e,it]:=λb v q hb=>by rw[(hf b hb).1]at q;cases q
  have I1:Inv X ae σ (upd H s.heap.objs.size (.tup [.int ((m+i':Nat):Int),xs[i']])) {s with heap:=JR,toks:=tk+1}:=by
   refine I.step (g':=s.gens) (d':=s.drawn) (t':=tk+1) (ch:=[e,it]) (λb hb=>⟨(hf b hb).2.2.2.1,(hf b hb).2.1,(hf b hb).2.2.2.2.1,(hf b hb).2.2.2.2.2⟩) (λb o _ _ hb e _=>keep b o hb e) (λb o _ _ hb e _=>⟨o.slots,keep b o hb e⟩)
    (λb o hb e n=>by rw[aq (Ne.symm (lt e))];exact n) (λb o hb e=>⟨o,keep b o hb e⟩) (λb ys e=>by rw[aq (aK e hn)];exact e) (λb o v e=>by rw[aq (aK e hn)];exact e)
    (λb ps e=>⟨#[],by rw[aq (aK e hn),e];simp⟩) (λm hm=>?_) ?_ I.bare
   ·obtain⟨o,es,ep,ho,r⟩:=hm
    exact⟨o,es,ep,keep _ o (λhb=>(hf _ hb).2.1 rfl) ho,r⟩
   ·intro b v e
    by_cases hb:b=s.heap.objs.size
    ·subst hb
     rw[aj]at e;cases e;exact⟨by show 2<=sizeLine;decide,_,.cons ⟨_,rfl⟩ (.cons ru .nil),Qt⟩
    ·rw[aq hb]at e
     refine(I.bL b v e).vo (λc o hc q=>keep c o ?_ q) (λc q=>by rw[aq (aK q hn)];exact q) λc ys q=>by rw[aq (aK q hn)];exact q
     rcases hc with rfl|hc
     ·exact Qu c v e
     ·exact Qu c _ hc
  have eN:((m+i':Nat):Int)+1=((m+(i'+1):Nat):Int):=by omega
  refine⟨.ref s.heap.objs.size,_,I1,rfl,⟨_,_,hn,cX hi,rfl,rfl⟩,⟨⟨x,eN▸b1⟩,a2.at λo q=>(b2.2 it VX.symm).trans q⟩,λb hb=>?_⟩;rw[aq (Ne.symm (Ù b hb))];exact(hf b hb).1
 done:=by
  intro X hP hw hK hc i ae s σ H E I hf st hg;subst hP hw hK;obtain⟨hi,hq⟩:=hg;obtain⟨⟨old,he⟩,h1⟩:=st;obtain⟨its,rv,pl,hsz⟩:=I.list hq;have hl:=rv.length;have D:=CH (Draws.list (prog:=X.prog) (w:=X.w) (A:=X.A.in1) (I.ok.hd hc) it l VW its.toArray) m;refine wpAny_pyNext_enum_endD (n:=m+its.toArray.size) D he ⟨i,by rw[ck];omega,h1,pl.isList⟩ λh' kk=>⟨rfl,?_⟩
  have Qu:∀b v,H b=some v->b∉[e,it]:=λb v q hb=>by rw[(hf b hb).1]at q;cases q
  have keep:∀b o,b∉[e,it]->s.heap.get? b=some o->h'.get? b=some o:=λb o hb q=>by
   simp only[cA,ow,or_false,not_or]at hb;exact kk b o hb.2 q
  refine I.step (g':=s.gens) (d':=s.drawn) (t':=s.toks) (ch:=[e,it]) (λb hb=>⟨(hf b hb).2.2.2.1,(hf b hb).2.1,(hf b hb).2.2.2.2.1,(hf b hb).2.2.2.2.2⟩) (λb o _ _ hb e _=>keep b o hb e) (λb o _ _ hb e _=>⟨o.slots,keep b o hb e⟩)
   (λb o hb e n=>n) (λb o hb e=>⟨o,keep b o hb e⟩) (λ_ _ e=>e) (λ_ _ _ e=>e) (λb ps e=>⟨#[],by rw[e];simp⟩) (λm hm=>?_) (λb v e=>?_) I.bare
  ·obtain⟨o,es,ep,ho,r⟩:=hm
   exact⟨o,es,ep,keep _ o (λhb=>(hf _ hb).2.1 rfl) ho,r⟩
  ·refine(I.bL b v e).vo (λc o hc q=>keep c o ?_ q) (λ_ q=>q) λ_ _ q=>q
   rcases hc with rfl|hc
   ·exact Qu c v e
   ·exact Qu c _ hc
 self:=λ_ _ _ _ _ st h=>by obtain⟨⟨old,he⟩,_⟩:=st;exact wpAny_pyIter_enum he h
section
variable{X:Cx}
def LW(K:bz)(m:Nat)(ta:TA):TI:=λσ H R=>ta σ H λvs H1=>∃l xs,vs=[.ref l]/\cV K H1 l xs/\R (Qs K m l xs) H1
def Qv{a:Expr}{ta:TA}{elts:Bz}{x1:Nat}{oH p pos:Pos}(hg:Gl X "enumerate")(hm:X.mg "enumerate" = none)(ha:PA X [a] ta)(hs:starEach [a] X.env=[(false,eval a X.env)]) :
  PI X (.Tuple elts x1 oH) (.Call (.Name "enumerate" p) [a] [] pos) (LW X.K 0 ta):=by
 intro ae s σ H R I h;refine Call_ (gb I hg hm JA (zL (bX (ha pos ae s σ H _ I h) λus s1 ⟨vs,H1,I1,r1,q1⟩=>?_) (by rw[hs];rfl) rfl))
 obtain⟨l,xs,e,hq,q⟩:=q1;subst e;obtain⟨u,rfl,rx⟩:=vals1 r1;cases rx;obtain⟨its,rv,pl,hz⟩:=I1.list hq;refine call_enumerate_list pl.isList λh' a1 a2 _ kk=>wpAny_pyIter_enum (s:={s1 with heap:=h'}) a1 ?_
 have ll:l<s1.heap.objs.size:=let⟨_,e,_⟩:=pl.isList;Heap.lt_size e;refine⟨s1.heap.objs.size+1,_,_,_,H1,rfl,I1.kept (t':=s1.toks) kk,mF (l:=l) (it:=s1.heap.objs.size) (BH (sC _)) (eF (Jj ll)) (eF ll),⟨⟨_,a1⟩,a2⟩,λb hb=>?_,q⟩;have Ge:s1.heap.objs.size<=b:=by
  simp only[cA,ow,or_false]at hb;rcases hb with rfl|rfl
  ·exact vn _ _
  ·exact c_ _
 exact I1.oG Ge (I1.bL.fresh Ge)
def LX{a:Expr}{ta:TA}{elts:Bz}{x1 k1:Nat}{oH p pos p1 kp:Pos}(hg:Gl X "enumerate")(hm:X.mg "enumerate" = none)(ha:PA X [a] ta)(hs:starEach [a] X.env=[(false,eval a X.env)]) :
  PI X (.Tuple elts x1 oH) (.Call (.Name "enumerate" p) [a] [⟨some (Str.ofString "start"),.Constant (.int 1) k1 p1,kp⟩] pos) (LW X.K 1 ta):=by
 intro ae s σ H R I h;refine wpAny_Call_Name_kw (gb I hg hm JA ?_);refine IC (P:=λ_=>True) (by rw[hs];rfl) (λh _=>⟨.machine,.inr (.inl rfl),.now⟩) ?_
 refine JB rfl (bX (ha pos ae s σ H _ I h) λus s1 ⟨vs,H1,I1,r1,q1⟩=>?_) hs;show wpAny _ _ (evalAll [(do let v <- eval (.Constant (.int 1) k1 p1) X.env;standAt pos;pure v)]) _ _ s1
 refine wpAny_evalAll_cons (wpAny_bind (wpAny_Constant_int (wpAny_bind (wpAny_standAt (wpAny_pure (wpAny_evalAll_nil ⟨trivial,?_⟩))))));obtain⟨l,xs,e,hq,q⟩:=q1;subst e;obtain⟨u,rfl,rx⟩:=vals1 r1;cases rx;have I2:Inv X ae σ H1 {s1 with toks:=s1.toks+1}:=I1.tok _
 obtain⟨its,rv,pl,hz⟩:=I2.list hq;show wpAny _ _ (call (.type "enumerate") [.ref l] [(Str.ofString "start",.int 1 s1.toks)]) _ _ {s1 with toks:=s1.toks+1}
 refine kq pl.isList λh' a1 a2 _ kk=>wpAny_pyIter_enum (s:={s1 with heap:=h',toks:=s1.toks+1}) a1 ?_
 have ll:l<s1.heap.objs.size:=let⟨_,e,_⟩:=pl.isList;Heap.lt_size e;refine⟨s1.heap.objs.size+1,_,_,_,H1,rfl,I2.kept (t':=s1.toks+1) kk,mF (m:=1) (l:=l) (it:=s1.heap.objs.size) (BH (sC _)) (eF (Jj ll)) (eF ll),⟨⟨_,a1⟩,a2⟩,λb hb=>?_,q⟩;have Ge:s1.heap.objs.size<=b:=by
  simp only[cA,ow,or_false]at hb;rcases hb with rfl|rfl
  ·exact vn _ _
  ·exact c_ _
 exact I2.oG Ge (I2.bL.fresh Ge)
end
end L2
namespace D
inductive Ky where
 |i (n:Int)|s (l:B1)
 deriving DecidableEq
inductive T where
 |non|bl (b:Bool)|int (i:Int)|str (l:B1)|tup (xs:List T)|lst (xs:List T)
 |scr (ns:Dx)
 |obj (c:Nat) (fs:List T)
 |own (k:Nat)
 |hU (ks:List Ky) (vs:List T)
inductive C where
 |val (t:T)|ol (ts:List T)|od (ks:List Ky) (vs:List T)
 |yg (t:T)
structure Ob where
 c:Nat
 fs:List C
structure S where
 r:List (Option C)
 m:List Ob
abbrev Fs:=List (Option C)
abbrev FC:=Option (List T)
abbrev FK:=List T
abbrev FR:=Option T
abbrev FV:=List Ob
inductive Res(α:Type) where
 |ok (a:α)|bad
 |exc (c:Nat) (fs:FK) (s:S)
noncomputable def Res.bind{α β:Type}(x:Res α)(f:α->Res β):Res β:=match x with
 |.ok a=>f a
 |.bad=>.bad
 |.exc c fs s=>.exc c fs s
def aa{α β:Type}{x:Res α}{f:α->Res β}{b:β}(h:x.bind f=.ok b):∃a,x=.ok a/\f a=.ok b:=by
 cases x with
 |ok a=>exact⟨a,rfl,h⟩
 |bad=>cases h
 |exc c fs s=>cases h
noncomputable def aX{α:Type}:Option α->Res α
 |some a=>.ok a
 |none=>.bad
def ai{α:Type}{o:Option α}{a:α}(h:aX o=.ok a):o=some a:=by
 cases o with
 |none=>cases h
 |some b=>cases h;rfl
noncomputable def gd{α:Type}(p:Prop)[Decidable p](x:α):Option α:=if p then some x else none
def aV{α:Type}{p:Prop}[Decidable p]{x a:α}(h:gd p x=some a):p/\x=a:=by
 unfold gd at h;split at h
 ·rename_i q;cases h;exact⟨q,rfl⟩
 ·cases h
abbrev FE:=S->Res (T×S)
abbrev FT:=S->Res (Bool×S)
abbrev FL:=S->Res (FK×S)
inductive Out where
 |nx|rt (t:T)|bk|ct
abbrev FS:=S->Res (Out×S)
abbrev Fn:=FK->FV->Res (T×FV)
def Qw:T->T->FR
 |.int i,.int j=>some (.int (i+j))
 |.str a,.str b=>gd (a.length+b.length<=1000000) (.str (a++b))
 |.lst a,.lst b=>gd (a.length+b.length<=1000000) (.lst (a++b))
 |_,_=>none
def Qx:T->T->FR
 |.int i,.int j=>some (.int (i-j))
 |_,_=>none
def Qy:T->T->FR
 |.int i,.int j=>gd (((-(2^64)<i/\i<2^64)\/(-(2^64)<j/\j<2^64))\/(i.natAbs.log2<2000000/\j.natAbs.log2<2000000)) (.int (i*j))
 |.lst a,.int k=>gd (k<1000000/\-1000000<k/\a.length*k.toNat<=1000000) (.lst (dM k.toNat a).flatten)
 |.str a,.int k=>gd (2<=k/\k<1000000/\a≠[]/\a.length*k.toNat<=1000000) (.str (dM k.toNat a).flatten)
 |_,_=>none
def Qz:T->T->FR
 |.int i,.int j=>gd (0<j/\j<1073741824) (.int (i/j))
 |_,_=>none
def QA:T->T->FR
 |.int i,.int j=>gd (0<j) (.int (i % j))
 |_,_=>none
def QC:T->T->FR
 |.int i,.int j=>gd (0<=j/\j<=1000000/\i.natAbs<2^64) (.int (i^j.toNat))
 |_,_=>none
def iV:T->FR
 |.int i=>some (.int (-i))
 |_=>none
def CI(f:Int->Int->Bool):T->T->FR
 |.int i,.int j=>some (.bl (f i j))
 |_,_=>none
mutual
noncomputable def eqT:T->T->Bool
 |.non,.non=>true
 |.bl a,.bl b=>a == b
 |.int a,.int b=>decide (a=b)
 |.bl a,.int b=>decide ((if a then 1 else 0:Int)=b)
 |.int a,.bl b=>decide (a=(if b then 1 else 0:Int))
 |.str a,.str b=>decide (a=b)
 |.tup a,.tup b=>jc a b
 |.lst a,.lst b=>jc a b
 |.scr a,.scr b=>decide (a=b)
 |.obj c a,.obj d b=>decide (c=d)&&jc a b
 |.own a,.own b=>decide (a=b)
 |.hU ks a,.hU ls b=>decide (ks=ls)&&jc a b
 |_,_=>false
noncomputable def jc:FK->FK->Bool
 |[],[]=>true
 |a::as,b::bs=>eqT a b&&jc as bs
 |_,_=>false
end
mutual
theorem mG:∀t:T,eqT t t=true
 |.non=>rfl
 |.bl b=>by cases b<;>rfl
 |.int i=>decide_eq_true rfl
 |.str l=>decide_eq_true rfl
 |.tup xs=>gC xs
 |.lst xs=>gC xs
 |.scr ns=>decide_eq_true rfl
 |.obj c xs=>by
  show(decide (c=c)&&jc xs xs)=true;rw[decide_eq_true rfl,gC xs];rfl
 |.own k=>decide_eq_true rfl
 |.hU ks xs=>by
  show(decide (ks=ks)&&jc xs xs)=true;rw[decide_eq_true rfl,gC xs];rfl
theorem gC:∀ts:FK,jc ts ts=true
 |[]=>rfl
 |t::ts=>by
  show(eqT t t&&jc ts ts)=true;rw[mG t,gC ts];rfl
end
def bG:T->Bool
 |.bl _=>true
 |.int _=>true
 |.str _=>true
 |.non=>true
 |_=>false
def all2(p:T->T->Bool):FK->FK->Bool
 |a::as,b::bs=>p a b&&all2 p as bs
 |_,_=>true
def shape:Nat->T->T->Bool
 |_+1,.lst as,.lst bs=>all2 (λa b=>bG a&&bG b) as bs
 |_,a,b=>bG a&&bG b
def Yj:T->T->FR:=λa b=>gd (shape 5 a b=true) (.bl (eqT a b))
def Yk:T->T->FR:=λa b=>gd (shape 5 a b=true) (.bl (!eqT a b))
def VY:T->T->FR
 |.bl a,.bl b=>some (.bl (a == b))
 |.non,.non=>some (.bl true)
 |.own _,.own _=>none
 |_,.non=>some (.bl false)
 |_,_=>none
def LY:T->T->FR
 |.bl a,.bl b=>some (.bl (a != b))
 |.non,.non=>some (.bl false)
 |.own _,.own _=>none
 |_,.non=>some (.bl true)
 |_,_=>none
def Gg:B1->B1->Bool
 |[c],l=>decide (c∈l)
 |x,l=>(bM (l.length+1)).any λi=>decide (i+x.length<=l.length)&&((l.drop i).take x.length == x)
def OJ:T->T->Option Bool
 |.str x,.str l=>some (Gg x l)
 |x,.tup ys=>gd (bG x=true/\ys.all bG=true) (ys.any λy=>eqT y x)
 |x,.lst ys=>gd (bG x=true/\ys.all bG=true) (ys.any λy=>eqT y x)
 |_,_=>none
def inD:T->T->FR:=λx y=>(OJ x y).map .bl
def LZ:T->T->FR:=λx y=>(OJ x y).map λb=>.bl (!b)
noncomputable def atT{α:Type}(xs:List α)(i:Int):Option α:=if 0<=i then(if i<xs.length then xs[i.toNat]? else none)else if -(xs.length:Int)<=i then xs[(i+xs.length).toNat]? else none
def h_(ks:List Ky)(vs:FK)(k:Ky):FR:=match ks,vs with
 |a::ks,v::vs=>if a=k then some v else h_ ks vs k
 |_,_=>none
def putK:List Ky->FK->Ky->T->List Ky×FK
 |a::ks,v::vs,k,t=>if a=k then(a::ks,t::vs)else let p:=putK ks vs k t;(a::p.1,v::p.2)
 |_,_,k,t=>([k],[t])
def mH:T->Option Ky
 |.int i=>some (.i i)
 |.str l=>some (.s l)
 |_=>none
def xU:T->T->FR
 |.lst xs,.int i=>atT xs i
 |.tup xs,.int i=>atT xs i
 |.str l,.int i=>(atT l i).map λc=>.str [c]
 |.scr ns,.int i=>(atT ns i).map .int
 |.hU ks vs,x=>(mH x).bind (h_ ks vs)
 |_,_=>none
def CJ:T->FR
 |.str l=>some (.int l.length)
 |.tup xs=>some (.int xs.length)
 |.lst xs=>some (.int xs.length)
 |.scr ns=>some (.int ns.length)
 |.hU ks _=>some (.int ks.length)
 |_=>none
def gz(n d:Nat):D2->Nat
 |none=>d
 |some v=>if v<0 then(v+(n:Int)).toNat else min v.toNat n
noncomputable def bu{α:Type}(xs:List α)(lo hi:D2):List α:=(xs.drop (gz xs.length 0 lo)).take (gz xs.length xs.length hi-gz xs.length 0 lo)
def EZ(lo hi:D2):T->FR
 |.str l=>some (.str (bu l lo hi))
 |.lst l=>some (.lst (bu l lo hi))
 |.scr ns=>some (.lst ((bu ns lo hi).map .int))
 |_=>none
def Gh:T->Option Bool
 |.bl b=>some b
 |.lst ts=>some (!ts.isEmpty)
 |_=>none
noncomputable def strsOf:FK->Option Ap
 |[]=>some []
 |.str l::ts=>(strsOf ts).map (l::·)
 |_=>none
noncomputable def dQ(sep:B1):Ap->B1
 |[]=>[]
 |[a]=>a
 |a::b::r=>a++sep++dQ sep (b::r)
def xV:T->T->FR
 |.str sep,.lst ts=>(strsOf ts).bind λys=>gd ((ys.map (·.length)).sum+ys.length*sep.length<=1000000) (.str (dQ sep ys))
 |_,_=>none
noncomputable def pre(s l:B1):Bool:=decide (s.length<=l.length)&&(l.take s.length == s)
noncomputable def L4(s l:B1):Bool:=decide (s.length<=l.length)&&(l.drop (l.length-s.length) == s)
def boolsOf:FK->Option Fh
 |[]=>some []
 |.bl b::ts=>(boolsOf ts).map (b::·)
 |_=>none
def Gi:T->FR
 |.lst ts=>(boolsOf ts).map λbs=>.bl (bs.all id)
 |_=>none
def CK:T->FR
 |.lst ts=>(boolsOf ts).map λbs=>.bl (bs.any id)
 |_=>none
def JS:T->FR
 |.lst a=>some (.lst a)
 |.tup a=>some (.lst a)
 |_=>none
def aT:FE:=λ_=>.bad
def cF(t:T):FE:=λs=>.ok (t,s)
def j7(s:S)(i:Nat)(c:C):S:={s with r:=s.r.set i (some c)}
noncomputable def vF(i:Nat):FE:=λs=>match s.r[i]? with
 |some (some (.val t))=>.ok (t,s)
 |some (some (.ol ts))=>.ok (.lst ts,j7 s i (.val (.lst ts)))
 |some (some (.od ks ts))=>.ok (.hU ks ts,j7 s i (.val (.hU ks ts)))
 |_=>.bad
def dN(g:T->FR)(a:FE):FE:=λs=>(a s).bind λp=>(aX (g p.1)).bind λt=>.ok (t,p.2)
def bw(g:T->T->FR)(a b:FE):FE:=λs=>(a s).bind λp=>(b p.2).bind λq=>(aX (g p.1 q.1)).bind λt=>.ok (t,q.2)
def bg:FL:=λs=>.ok ([],s)
def cO(a:FE)(r:FL):FL:=λs=>(a s).bind λp=>(r p.2).bind λq=>.ok (p.1::q.1,q.2)
def eU:FL:=λ_=>.bad
def bV(g:FK->FR)(a:FL):FE:=λs=>(a s).bind λp=>(aX (g p.1)).bind λt=>.ok (t,p.2)
def gH(ts:FK):FR:=gd (ts.length<=1000) (.tup ts)
def mJ(ts:FK):FR:=gd (ts.length<=1000) (.lst ts)
def oQ:FT:=λ_=>.bad
def tB(a:FE):FT:=λs=>(a s).bind λp=>(aX (Gh p.1)).bind λb=>.ok (b,p.2)
def kr(a b:FT):FT:=λs=>(a s).bind λp=>if p.1 then b p.2 else .ok (false,p.2)
def qK(a b:FT):FT:=λs=>(a s).bind λp=>if p.1 then .ok (true,p.2)else b p.2
def dC(a:FT):FT:=λs=>(a s).bind λp=>.ok (!p.1,p.2)
def fQ:FT:=λs=>.ok (true,s)
def OL:T->Option Bool
 |.bl b=>some b
 |_=>none
def oS(a b:FE):FE:=λs=>(a s).bind λp=>(aX (OL p.1)).bind λk=>if k then b p.2 else .ok (.bl false,p.2)
def qL(a:FE):FE:=λs=>(a s).bind λp=>(aX (OL p.1)).bind λk=>.ok (.bl (!k),p.2)
def CL(c:FT)(a b:FE):FE:=λs=>(c s).bind λp=>if p.1 then a p.2 else b p.2
abbrev FO:=S->Res (D2×S)
def r9:FO:=λs=>.ok (none,s)
def QD:T->D2
 |.int i=>some i
 |_=>none
def gW(a:FE):FO:=λs=>(a s).bind λp=>(aX (QD p.1)).bind λi=>.ok (some i,p.2)
def j8(a:FE)(lo hi:FO):FE:=λs=>(a s).bind λp=>(lo p.2).bind λq=>(hi q.2).bind λz=>(aX (EZ q.1 z.1 p.1)).bind λt=>.ok (t,z.2)
def ku:Option (Option C)->FC
 |some (some (.ol ts))=>some ts
 |_=>none
def JT(i:Nat):FE:=λs=>(aX (ku s.r[i]?)).bind λts=>.ok (.int ts.length,s)
def lr(i:Nat)(b:FE):FE:=λs=>(aX (ku s.r[i]?)).bind λ_=>(b s).bind λp=>(aX (ku p.2.r[i]?)).bind λts=>(aX (xU (.lst ts) p.1)).bind λt=>.ok (t,p.2)
def iC(tab:Ap)(c f:Nat):Option Nat:=(tab[c]?).bind λns=>ns.idxOf? f
def az(tab:Ap)(f:Nat)(a:FE):FE:=λs=>(a s).bind λp=>match p.1 with
 |.obj c fs=>(aX ((iC tab c f).bind λj=>fs[j]?)).bind λt=>.ok (t,p.2)
 |.own k=>(aX ((p.2.m[k]?).bind λob=>(iC tab ob.c f).bind λj=>ob.fs[j]?)).bind λc=>(match c with
  |.val t=>.ok (t,p.2)
  |_=>.bad)
 |_=>.bad
def fX(c n:Nat)(fl:FL):FE:=λs=>(fl s).bind λp=>if p.1.length=n then .ok (.obj c p.1,p.2)else .bad
def mK(c:Nat)(g:Fn)(fl:FL):FE:=λs=>(fl s).bind λp=>match g (.own p.2.m.length::p.1) (p.2.m++[⟨c,[]⟩])with
 |.ok (.non,m')=>.ok (.own p.2.m.length,{p.2 with m:=m'})
 |.exc c fs s'=>.exc c fs {p.2 with m:=s'.m}
 |_=>.bad
def L5(c:Nat):T->FR
 |.lst ts=>some (.obj c [.lst ts])
 |_=>none
def av(g:Fn)(ds:FK)(fl:FL):FE:=λs=>(fl s).bind λp=>match g (p.1++ds) p.2.m with
 |.ok q=>.ok (q.1,{p.2 with m:=q.2})
 |.bad=>.bad
 |.exc c fs s'=>.exc c fs {p.2 with m:=s'.m}
def au(g:Nat->Option Fn)(o:FE)(fl:FL):FE:=λs=>(o s).bind λp=>match p.1 with
 |.own k=>(aX ((p.2.m[k]?).bind λob=>g ob.c)).bind λh=>av h [] (λs=>(fl s).bind λq=>.ok (.own k::q.1,q.2)) p.2
 |.obj c fs=>(aX (g c)).bind λh=>av h [] (λs=>(fl s).bind λq=>.ok (.obj c fs::q.1,q.2)) p.2
 |_=>.bad
def UA:T->FC
 |.lst ts=>some ts
 |.tup ts=>some ts
 |.str l=>some (l.map λc=>.str [c])
 |.scr ns=>some (ns.map .int)
 |_=>none
def j9(a:FE):FL:=λs=>(a s).bind λp=>(aX (UA p.1)).bind λts=>.ok (ts,p.2)
def lE(lo:Int)(n:Nat):FK:=(bM n).map λk=>.int (lo+(k:Nat))
def mL:FK->FC
 |[.int j]=>gd (j<1000000/\-1000000<j) (lE 0 j.toNat)
 |[.int i,.int j]=>gd (i<1000000/\-1000000<i/\j<1000000/\-1000000<j) (lE i (j-i).toNat)
 |[.int i,.int j,.int k]=>gd (k=-1/\i<1000000/\-1000000<i/\j<1000000/\-1000000<j) ((bM (i-j).toNat).map λk=>.int (i-(k:Nat)))
 |_=>none
def xW(g:FK->FC)(a:FL):FL:=λs=>(a s).bind λp=>(aX (g p.1)).bind λts=>.ok (ts,p.2)
def fR:Int->FK->FK
 |_,[]=>[]
 |n,t::ts=>.tup [.int n,t]::fR (n+1) ts
def QE(n:Int):T->FC
 |.lst ts=>some (fR n ts)
 |_=>none
def i0(n:Int)(a:FE):FL:=λs=>(a s).bind λp=>(aX (QE n p.1)).bind λts=>.ok (ts,p.2)
abbrev FG:=T->Fs->Option Fs
def setG(i:Nat):FG:=λt r=>some (r.set i (some (.val t)))
def xX:B1->FK->Fs->Option Fs
 |[],[],r=>some r
 |i::is,t::ts,r=>xX is ts (r.set i (some (.val t)))
 |_,_,_=>none
def fS(is:B1):FG:=λt r=>match t with
 |.tup ts=>xX is ts r
 |_=>none
def Gj(r:Fs)(j:Nat):Fs:=match r[j]? with
 |some (some (.ol ts))=>r.set j (some (.val (.lst ts)))
 |_=>r
def iW:B1->Fs->Fs
 |[],r=>r
 |j::js,r=>iW js (Gj r j)
def iD(k:Nat)(js:B1)(r:Fs):Fs:=dM k none++js.map λj=>match r[j]? with
 |some (some (.val t))=>some (.val t)
 |_=>none
def cP(g:FG)(c:FT)(e:FE)(b:Fs):FK->FV->Res (FK×FV)
 |[],m=>.ok ([],m)
 |t::ts,m=>(aX (g t b)).bind λb1=>(c ⟨b1,m⟩).bind λp=>if p.1 then(e p.2).bind λq=>(cP g c e b ts q.2.m).bind λz=>.ok (q.1::z.1,z.2)else cP g c e b ts p.2.m
def cT(src:FL)(k:Nat)(js:B1)(g:FG)(c:FT)(e:FE):FL:=λs=>(src s).bind λp=>if p.1.length<=1000000 then
  (cP g c e (iD k js (iW js p.2.r)) p.1 p.2.m).bind λq=>.ok (q.1,⟨iW js p.2.r,q.2⟩)else .bad
def eK(fl:FL):FE:=λs=>(fl s).bind λp=>.ok (.lst p.1,p.2)
def aG:FS:=λs=>.ok (.nx,s)
def cD:FS:=λ_=>.bad
def af(a b:FS):FS:=λs=>(a s).bind λp=>match p.1 with
 |.nx=>b p.2
 |o=>.ok (o,p.2)
def aE(i:Nat)(a:FE):FS:=λs=>(a s).bind λp=>.ok (.nx,j7 p.2 i (.val p.1))
def ia(i:Nat)(a:FL):FS:=λs=>(a s).bind λp=>.ok (.nx,j7 p.2 i (.ol p.1))
def Gk(g:FG)(a:FE):FS:=λs=>(a s).bind λp=>(aX (g p.1 p.2.r)).bind λr=>.ok (.nx,{p.2 with r:=r})
def aA(a:FE):FS:=λs=>(a s).bind λp=>.ok (.rt p.1,p.2)
def aJ(a:FE):FS:=λs=>(a s).bind λp=>.ok (.nx,p.2)
def aY(c:FT)(a b:FS):FS:=λs=>(c s).bind λp=>if p.1 then a p.2 else b p.2
def iE(i:Nat)(a:FE):FS:=λs=>(aX (ku s.r[i]?)).bind λ_=>(a s).bind λp=>(aX (ku p.2.r[i]?)).bind λts=>(aX (gd (ts.length<1000000) ts)).bind λts=>.ok (.nx,j7 p.2 i (.ol (ts++[p.1])))
def cW(i:Nat)(b a:FE):FS:=λs=>(a s).bind λp=>(aX (ku p.2.r[i]?)).bind λ_=>(b p.2).bind λq=>(aX (ku q.2.r[i]?)).bind λts=>(aX (QD q.1)).bind λj=>(aX (gd (0<=j/\j<ts.length) (ts.set j.toNat p.1))).bind λus=>.ok (.nx,j7 q.2 i (.ol us))
def CM(g:T->T->FR)(i:Nat)(a:FE):FS:=λs=>match s.r[i]? with
 |some (some (.val x))=>(a s).bind λp=>(aX (g x p.1)).bind λt=>.ok (.nx,j7 p.2 i (.val t))
 |_=>.bad
def setAt(fs:List C)(j:Nat)(c:C):Option (List C):=if j<fs.length then some (fs.set j c)else if j=fs.length then some (fs++[c])else none
def cY(tab:Ap)(f:Nat)(c:C)(ob:Ob):Option Ob:=(iC tab ob.c f).bind λj=>(setAt ob.fs j c).map λfs=>⟨ob.c,fs⟩
def aH(tab:Ap)(f:Nat)(o a:FE):FS:=λs=>(a s).bind λp=>(o p.2).bind λq=>match q.1 with
 |.own k=>(aX ((q.2.m[k]?).bind (cY tab f (.val p.1)))).bind λob=>.ok (.nx,{q.2 with m:=q.2.m.set k ob})
 |_=>.bad
def bo(g:FG)(b:FS):FK->FS
 |[],s=>.ok (.nx,s)
 |t::ts,s=>(aX (g t s.r)).bind λr=>(b ⟨r,s.m⟩).bind λp=>match p.1 with
  |.nx=>bo g b ts p.2
  |.ct=>bo g b ts p.2
  |.bk=>.ok (.nx,p.2)
  |.rt t=>.ok (.rt t,p.2)
def fm(src:FL)(g:FG)(b:FS):FS:=λs=>(src s).bind λp=>bo g b p.1 p.2
def bB(c:FT)(b:FS):Nat->FS
 |0,_=>.bad
 |n+1,s=>(c s).bind λp=>if p.1 then(b p.2).bind λq=>(match q.1 with
  |.nx=>bB c b n q.2
  |.ct=>bB c b n q.2
  |.bk=>.ok (.nx,q.2)
  |.rt t=>.ok (.rt t,q.2))else .ok (.nx,p.2)
def iF(n:Nat)(c:FT)(b:FS):FS:=bB c b n
def jI(c:Nat)(fl:FL):FE:=λs=>(fl s).bind λp=>.ok (.own p.2.m.length,{p.2 with m:=p.2.m++[⟨c,[.ol p.1]⟩]})
def aF(np n:Nat)(b:FS):Fn:=λts m=>if ts.length=np then(b ⟨ts.map (λt=>some (.val t))++dM (n-ts.length) none,m⟩).bind λp=>match p.1 with
 |.rt t=>.ok (t,p.2.m)
 |.nx=>.ok (.non,p.2.m)
 |_=>.bad else .bad
mutual
def noOwn:T->Bool
 |.own _=>false
 |.tup xs=>aI xs
 |.lst xs=>aI xs
 |.obj _ xs=>aI xs
 |.hU _ xs=>aI xs
 |_=>true
def aI:FK->Bool
 |[]=>true
 |t::ts=>noOwn t&&aI ts
end
noncomputable def aN(g:Fn):Fn:=λts m=>if aI ts=true then(match g ts []with
 |.ok q=>if noOwn q.1=true then .ok (q.1,m)else .bad
 |.bad=>.bad
 |.exc c fs s=>if aI fs=true then .exc c fs ⟨s.r,m⟩else .bad)else .bad
end D
namespace D
open PySem L2
abbrev SV(l:B1):V:=.str ⟨l.toArray⟩
structure KT where
 K:bz
 P:Program
 w:World
 cn:Bi
 fn:List Bi
def ib(B:KT)(c:Nat)(C:Addr)(ns:Bi):Prop:=∃n,B.cn[c]?=some n/\B.fn[c]?=some ns/\ns.Nodup/\om B.K mainGlobals n=some (some (.ref C))
def ib.eq{B:KT}{c:Nat}{C C':Addr}{ns E1:Bi}(h:ib B c C ns)(h':ib B c C' E1):C=C'/\ns=E1:=by
 obtain⟨n,a,b,_,d⟩:=h;obtain⟨n',a',b',_,d'⟩:=h';rw[a]at a';cases a';rw[b]at b';cases b';rw[d]at d';cases d';exact⟨rfl,rfl⟩
def ly:Ky->Key
 |.i n=>.inl n
 |.s l=>.inr ⟨l.toArray⟩
inductive jd where
 |loc (i:Nat)|ob (k:Nat)|fld (k j:Nat)
 deriving DecidableEq
structure G where
 HF:Hp
 o:Addr->Option jd
 al:BM
mutual
def Rep(B:KT)(al:BM)(H:Hp):T->V->Prop
 |.non,v=>v=.non
 |.bl b,v=>v=.bl b
 |.int i,v=>v=.int i
 |.str l,v=>v=SV l/\l.length<=1000000
 |.tup ts,v=>∃a vs,v=.ref a/\lh B.K H a vs/\aC B al H ts vs
 |.lst ts,v=>∃a vs,v=.ref a/\H a=some (.lst vs)/\aC B al H ts vs
 |.scr ns,v=>∃a,v=.ref a/\cV B.K H a (ns.map V.int)
 |.obj c ts,v=>∃a C dx ns vs,v=.ref a/\ib B c C ns/\H a=some (.ins C dx (ns.zip vs))/\vs.length<=ns.length/\H dx=some (.own a)/\aC B al H ts vs
 |.own k,v=>∃a,v=.ref a/\al[k]?=some a
 |.hU ks ts,v=>∃a vs,v=.ref a/\H a=some (.dK ((ks.map ly).zip vs))/\ks.length=vs.length/\aC B al H ts vs
def aC(B:KT)(al:BM)(H:Hp):FK->List V->Prop
 |[],vs=>vs=[]
 |t::ts,vs=>∃v r,vs=v::r/\Rep B al H t v/\aC B al H ts r
end
def cZ{K:bz}{H H':Hp}(s:aM H H'){a:Addr}{xs:List V}(q:lh K H a xs):lh K H' a xs:=by
 rcases q with(q|⟨o,q⟩)|q
 ·exact .inl (.inl (s _ _ q))
 ·exact .inl (.inr ⟨o,s _ _ q⟩)
 ·exact .inr q
def dR{α:Type}{l m:List α}(p:l <+: m){k:Nat}{a:α}(h:l[k]?=some a):m[k]?=some a:=by
 obtain⟨r,rfl⟩:=p;rw[gp (bD.mp h).1];exact h
variable{X:Cx}{a b c e:Expr}{fa fb fc:FE}{g g':G}{H H':Hp}{B:KT}{p pos:Pos}{s s':S}{σ:St}
variable{al Gn:BM}{HF fZ:Hp}
mutual
theorem Rep.mv(p:al <+: Gn)(s:aM H H'):∀{t:T}{v:V},Rep B al H t v->Rep B Gn H' t v
 |.non,_,h=>h
 |.bl _,_,h=>h
 |.int _,_,h=>h
 |.str _,_,h=>h
 |.tup ts,_,h=>by
  obtain⟨a,vs,e,q,r⟩:=h;exact⟨a,vs,e,cZ s q,aC.mv p s r⟩
 |.lst ts,_,h=>by
  obtain⟨a,vs,e,q,r⟩:=h;exact⟨a,vs,e,s _ _ q,aC.mv p s r⟩
 |.scr ns,_,h=>by
  obtain⟨a,e,q⟩:=h;exact⟨a,e,s.seq q⟩
 |.obj c ts,_,h=>by
  obtain⟨a,C,dx,ns,vs,e,z,q,l,q2,r⟩:=h;exact⟨a,C,dx,ns,vs,e,z,s _ _ q,l,s _ _ q2,aC.mv p s r⟩
 |.own k,_,h=>by
  obtain⟨a,e,q⟩:=h;exact⟨a,e,dR p q⟩
 |.hU ks ts,_,h=>by
  obtain⟨a,vs,e,q,l,r⟩:=h;exact⟨a,vs,e,s _ _ q,l,aC.mv p s r⟩
theorem aC.mv(p:al <+: Gn)(s:aM H H'):∀{ts:FK}{vs:List V},aC B al H ts vs->aC B Gn H' ts vs
 |[],_,h=>h
 |t::ts,_,h=>by
  obtain⟨v,r,e,h1,h2⟩:=h;exact⟨v,r,e,Rep.mv p s h1,aC.mv p s h2⟩
end
def Rep.same(s:aM H H'){t:T}{v:V}(h:Rep B al H t v):Rep B al H' t v:=h.mv fj s
def aC.same(s:aM H H'){t:FK}{v:List V}(h:aC B al H t v):aC B al H' t v:=h.mv fj s
theorem aC.len:∀{ts:FK}{vs:List V},aC B al H ts vs->ts.length=vs.length
 |[],_,h=>by cases(show _=[]from h);rfl
 |t::ts,_,h=>by
  obtain⟨v,r,rfl,_,h2⟩:=h;simp[aC.len h2]
theorem aC.get:∀{ts:FK}{vs:List V},aC B al H ts vs->∀{i:Nat}{t:T},ts[i]?=some t->∃v,vs[i]?=some v/\Rep B al H t v
 |[],_,_,_,_,e=>by simp at e
 |t::ts,_,h,0,_,e=>by
  obtain⟨v,r,rfl,h1,_⟩:=h;simp at e;subst e;exact⟨v,rfl,h1⟩
 |t::ts,_,h,i+1,_,e=>by
  obtain⟨v,r,rfl,_,h2⟩:=h;obtain⟨v',e',h'⟩:=aC.get h2 (i:=i) (by simpa using e)
  exact⟨v',by simpa using e',h'⟩
theorem aC.vN:∀{ts:FK}{vs:List V},aC B al H ts vs->∀{i:Nat}{v:V},vs[i]?=some v->∃t,ts[i]?=some t/\Rep B al H t v
 |[],_,h,_,_,e=>by have h:_=[]:=h;subst h;simp at e
 |t::ts,_,h,0,_,e=>by
  obtain⟨v,r,rfl,h1,_⟩:=h;simp at e;subst e;exact⟨t,rfl,h1⟩
 |t::ts,_,h,i+1,_,e=>by
  obtain⟨v,r,rfl,_,h2⟩:=h;obtain⟨t',e',h'⟩:=aC.vN h2 (i:=i) (by simpa using e)
  exact⟨t',by simpa using e',h'⟩
theorem aC.app:∀{ts us:FK}{vs ws:List V},aC B al H ts vs->aC B al H us ws->aC B al H (ts++us) (vs++ws)
 |[],_,_,_,h,h'=>by have h:_=[]:=h;subst h;exact h'
 |t::ts,_,_,_,h,h'=>by
  obtain⟨v,r,rfl,h1,h2⟩:=h;exact⟨v,_,rfl,h1,h2.app h'⟩
theorem aC.drop:∀{ts:FK}{vs:List V}(n:Nat),aC B al H ts vs->aC B al H (ts.drop n) (vs.drop n)
 |ts,vs,0,h=>by simpa using h
 |[],_,n+1,h=>by have h:_=[]:=h;subst h;rfl
 |t::ts,_,n+1,h=>by
  obtain⟨v,r,rfl,_,h2⟩:=h;simpa using h2.drop n
theorem aC.take:∀{ts:FK}{vs:List V}(n:Nat),aC B al H ts vs->aC B al H (ts.take n) (vs.take n)
 |ts,vs,0,h=>by simp[aC]
 |[],_,n+1,h=>by have h:_=[]:=h;subst h;rfl
 |t::ts,_,n+1,h=>by
  obtain⟨v,r,rfl,h1,h2⟩:=h;exact⟨v,r.take n,rfl,h1,h2.take n⟩
theorem aC.set{t:T}{v:V}(q:Rep B al H t v):∀{ts:FK}{vs:List V}(n:Nat),aC B al H ts vs->aC B al H (ts.set n t) (vs.set n v)
 |[],_,n,h=>by have h:_=[]:=h;subst h;rfl
 |_::ts,_,0,h=>by
  obtain⟨w,r,rfl,h1,h2⟩:=h;exact⟨v,r,rfl,q,h2⟩
 |u::ts,_,n+1,h=>by
  obtain⟨w,r,rfl,h1,h2⟩:=h;exact⟨w,r.set n v,rfl,h1,h2.set q n⟩
theorem aC.flat{ts:FK}{vs:List V}(h:aC B al H ts vs):∀n:Nat,aC B al H (dM n ts).flatten (dM n vs).flatten
 |0=>rfl
 |n+1=>by
  rw[ju,ju,jv,jv];exact h.app (h.flat n)
def aC.one{t:T}{v:V}(q:Rep B al H t v):aC B al H [t] [v]:=⟨v,[],rfl,q,rfl⟩
theorem aC.ints:∀ns:Dx,aC B al H (ns.map T.int) (ns.map V.int)
 |[]=>rfl
 |n::ns=>⟨_,_,rfl,rfl,aC.ints ns⟩
theorem aC.signs:∀l:B1,aC B al H (l.map λc=>T.str [c]) (l.map λc=>V.str ⟨#[c]⟩)
 |[]=>rfl
 |c::l=>⟨_,_,rfl,⟨rfl,by simp⟩,aC.signs l⟩
mutual
theorem Rep.no:∀{t:T}{v:V},noOwn t=true->Rep B al H t v->Rep B Gn H t v
 |.non,_,_,h=>h
 |.bl _,_,_,h=>h
 |.int _,_,_,h=>h
 |.str _,_,_,h=>h
 |.tup ts,_,n,h=>by
  obtain⟨a,vs,e,q,r⟩:=h;exact⟨a,vs,e,q,aC.no n r⟩
 |.lst ts,_,n,h=>by
  obtain⟨a,vs,e,q,r⟩:=h;exact⟨a,vs,e,q,aC.no n r⟩
 |.scr ns,_,_,h=>h
 |.obj c ts,_,n,h=>by
  obtain⟨a,C,dx,ns,vs,e,z,q,l,q2,r⟩:=h;exact⟨a,C,dx,ns,vs,e,z,q,l,q2,aC.no n r⟩
 |.own k,_,n,h=>by cases n
 |.hU ks ts,_,n,h=>by
  obtain⟨a,vs,e,q,l,r⟩:=h;exact⟨a,vs,e,q,l,aC.no n r⟩
theorem aC.no:∀{ts:FK}{vs:List V},aI ts=true->aC B al H ts vs->aC B Gn H ts vs
 |[],_,_,h=>h
 |t::ts,_,n,h=>by
  obtain⟨v,r,e,h1,h2⟩:=h;have n:(noOwn t&&aI ts)=true:=n;rw[dq]at n;exact⟨v,r,e,Rep.no n.1 h1,aC.no n.2 h2⟩
end
structure Gr(HF H fZ H':Hp):Prop where
 fr:aM HF fZ
 sub:aM fZ H'
 rest:∀b o,H b=some o->HF b=none->H' b=some o/\fZ b=none
theorem Gr.refl{HF H:Hp}(s:aM HF H):Gr HF H HF H:=⟨aM.refl _,s,λ_ _ h n=>⟨h,n⟩⟩
theorem Gr.trans{HF H Yl H1 Ym H2:Hp}(a:Gr HF H Yl H1)(b:Gr Yl H1 Ym H2):Gr HF H Ym H2:=
 ⟨a.fr.trans b.fr,b.sub,λc o h n=>let⟨h1,n1⟩:=a.rest c o h n;b.rest c o h1 n1⟩
def Gr.same{HF H fZ H':Hp}(s:aM HF H)(a:Gr HF H fZ H'):aM H H':=λb o h=>by
 cases e:HF b with
 |none=>exact(a.rest b o h e).1
 |some u=>
  have:=s b u e
  rw[h]at this;cases this;exact a.sub _ _ (a.fr _ _ e)
def aZ{H:Hp}{p:Addr}{o:HO}(h:H p=none):aM H (upd H p o):=λb u e=>by rw[aq (aK e h)];exact e
def Gr.new{HF H:Hp}(s:aM HF H){p:Addr}{o:HO}(h:H p=none):Gr HF H (upd HF p o) (upd H p o):=by
 have hf:HF p=none:=s.free h;refine⟨aZ hf,λb u e=>?_,λb u e n=>?_⟩
 ·by_cases hb:b=p
  ·subst hb;rw[aj]at e ⊢;exact e
  ·rw[aq hb]at e ⊢;exact s _ _ e
 ·have hb:b≠p:=aK e h
  rw[aq hb,aq hb];exact⟨e,n⟩
def Gr.mO{HF H:Hp}(s:aM HF H){p:Addr}{o:HO}(h:H p=none):Gr HF H HF (upd H p o):=
 ⟨aM.refl _,s.trans (aZ h),λb u e n=>⟨aZ h _ _ e,n⟩⟩
def a_(B:KT)(g:G)(H:Hp)(p:jd):C->V->Prop
 |.val t,v=>Rep B g.al g.HF t v
 |.ol ts,v=>∃l vs,v=.ref l/\g.o l=some p/\H l=some (.lst vs)/\aC B g.al g.HF ts vs
 |.od ks ts,v=>∃l vs,v=.ref l/\g.o l=some p/\H l=some (.dK ((ks.map ly).zip vs))/\ks.length=vs.length/\aC B g.al g.HF ts vs
 |.yg t,v=>∃HY:Hp,(∀b u,HY b=some u->g.o b=some p/\H b=some u)/\Rep B [] HY t v
structure A1(B:KT)(g:G)(H:Hp)(k:Nat)(ob:Ob)(a C dx:Addr)(ns:Bi)(vs:List V):Prop where
 al:g.al[k]?=some a
 o:g.o a=some (.ob k)
 cl:ib B ob.c C ns
 h:H a=some (.ins C dx (ns.zip vs))
 le:vs.length<=ns.length
 ln:vs.length=ob.fs.length
 f:∀j c,ob.fs[j]?=some c->∃v,vs[j]?=some v/\a_ B g H (.fld k j) c v
structure UB(B:KT)(g:G)(H:Hp)(k:Nat)(ob:Ob)(a:Addr):Prop where
 al:g.al[k]?=some a
 nc:B.cn[ob.c]?=none
 nf:B.fn[ob.c]?=none
 f:∀c,ob.fs=[c]->a_ B g H (.ob k) c (.ref a)
def L6(B:KT)(g:G)(H:Hp)(k:Nat)(ob:Ob):Prop:=(∃a C dx ns vs,A1 B g H k ob a C dx ns vs)\/∃a,UB B g H k ob a
structure fU(B:KT)(g:G)(H:Hp)(m:FV):Prop where
 sub:aM g.HF H
 live:∀b p,g.o b=some p->g.HF b=none/\∃u,H b=some u
 len:m.length=g.al.length
 at_:∀k ob,m[k]?=some ob->L6 B g H k ob
structure mQ(B:KT)(g:G)(H:Hp)(σ:St)(r:Fs):Prop where
 len:r.length=σ.length
 at_:∀i c,r[i]?=some (some c)->∃v,σ[i]?=some (some v)/\a_ B g H (.loc i) c v
structure SR(B:KT)(g:G)(H:Hp)(σ:St)(s:S):Prop where
 st:fU B g H s.m
 lc:mQ B g H σ s.r
structure eV(g:G)(H:Hp)(g':G)(H':Hp):Prop where
 fr:aM g.HF g'.HF
 pre:g.al <+: g'.al
 rest:∀b u,H b=some u->g.HF b=none->g.o b=none->H' b=some u/\g'.HF b=none/\g'.o b=none
 there:∀b,H' b=none->H b=none
variable{g1 g2:G}{H1 H2:Hp}
theorem eV.refl:eV g H g H:=⟨aM.refl _,fj,λ_ _ h n o=>⟨h,n,o⟩,λ_ h=>h⟩
theorem eV.trans(a:eV g H g1 H1)(b:eV g1 H1 g2 H2):eV g H g2 H2:=
 ⟨a.fr.trans b.fr,a.pre.trans b.pre,λc u h n o=>let⟨h1,n1,o1⟩:=a.rest c u h n o;b.rest c u h1 n1 o1,λc h=>a.there c (b.there c h)⟩
abbrev G.grow(g:G)(fZ:Hp):G:={g with HF:=fZ}
theorem a_.grow(gr:Gr g.HF H fZ H')(lv:∀b p,g.o b=some p->g.HF b=none/\∃u,H b=some u){p:jd}:∀{c:C}{v:V},a_ B g H p c v->a_ B (g.grow fZ) H' p c v
 |.val t,v,h=>h.same gr.fr
 |.ol ts,v,h=>by
  obtain⟨l,vs,e,o,q,r⟩:=h;exact⟨l,vs,e,o,(gr.rest l _ q (lv l p o).1).1,r.same gr.fr⟩
 |.od ks ts,v,h=>by
  obtain⟨l,vs,e,o,q,n,r⟩:=h;exact⟨l,vs,e,o,(gr.rest l _ q (lv l p o).1).1,n,r.same gr.fr⟩
 |.yg t,v,h=>by
  obtain⟨HY,h1,r⟩:=h;exact⟨HY,λb u e=>let⟨h2,h3⟩:=h1 b u e;⟨h2,(gr.rest b u h3 (lv b p h2).1).1⟩,r⟩
theorem A1.grow{k:Nat}{ob:Ob}{a C dx:Addr}{ns:Bi}{vs:List V}(x:A1 B g H k ob a C dx ns vs)(gr:Gr g.HF H fZ H')(lv:∀b p,g.o b=some p->g.HF b=none/\∃u,H b=some u):A1 B (g.grow fZ) H' k ob a C dx ns vs:=
 ⟨x.al,x.o,x.cl,(gr.rest _ _ x.h (lv _ _ x.o).1).1,x.le,x.ln,λj c e=>let⟨v,h1,h2⟩:=x.f j c e;⟨v,h1,h2.grow gr lv⟩⟩
theorem L6.grow{k:Nat}{ob:Ob}(x:L6 B g H k ob)(gr:Gr g.HF H fZ H')(lv:∀b p,g.o b=some p->g.HF b=none/\∃u,H b=some u):L6 B (g.grow fZ) H' k ob:=by
 rcases x with⟨a,C,dx,ns,vs,y⟩|⟨a,y⟩
 ·exact .inl ⟨a,C,dx,ns,vs,y.grow gr lv⟩
 ·exact .inr ⟨a,y.al,y.nc,y.nf,λc e=>(y.f c e).grow gr lv⟩
theorem fU.grow{m:FV}(x:fU B g H m)(gr:Gr g.HF H fZ H'):fU B (g.grow fZ) H' m:=
 ⟨gr.sub,λb p e=>by
  obtain⟨h1,u,h2⟩:=x.live b p e;obtain⟨h3,h4⟩:=gr.rest b u h2 h1;exact⟨h4,u,h3⟩,x.len,λk ob e=>(x.at_ k ob e).grow gr x.live⟩
theorem SR.grow(x:SR B g H σ s)(gr:Gr g.HF H fZ H'):SR B (g.grow fZ) H' σ s:=
 ⟨x.st.grow gr,x.lc.len,λi c e=>let⟨v,h1,h2⟩:=x.lc.at_ i c e;⟨v,h1,h2.grow gr x.st.live⟩⟩
theorem SR.sub(x:SR B g H σ s):aM g.HF H:=x.st.sub
theorem Gr.free(gr:Gr HF H fZ H')(sm:aM HF H){b:Addr}(h:H' b=none):H b=none:=(gr.same sm).free h
def SR.gk(x:SR B g H σ s)(gr:Gr g.HF H fZ H'):eV g H (g.grow fZ) H':=
 ⟨gr.fr,fj,λb u h n o=>let⟨h1,h2⟩:=gr.rest b u h n;⟨h1,h2,o⟩,λb h=>gr.free x.sub h⟩
variable{m:FV}
theorem a_.mv{p:jd}(fr:aM g.HF g'.HF)(pre:g.al <+: g'.al)(k:∀l,g.o l=some p->g'.o l=some p/\H' l=H l):∀{c:C}{v:V},a_ B g H p c v->a_ B g' H' p c v
 |.val t,v,h=>Rep.mv pre fr h
 |.ol ts,v,h=>by
  obtain⟨l,vs,e,o,q,r⟩:=h;obtain⟨o',h'⟩:=k l o;exact⟨l,vs,e,o',h'.trans q,r.mv pre fr⟩
 |.od ks ts,v,h=>by
  obtain⟨l,vs,e,o,q,n,r⟩:=h;obtain⟨o',h'⟩:=k l o;exact⟨l,vs,e,o',h'.trans q,n,r.mv pre fr⟩
 |.yg t,v,h=>by
  obtain⟨HY,h1,r⟩:=h;exact⟨HY,λb u e=>let⟨h2,h3⟩:=h1 b u e;let⟨h4,h5⟩:=k b h2;⟨h4,h5.trans h3⟩,r⟩
theorem A1.mv{k:Nat}{ob:Ob}{a C dx:Addr}{ns:Bi}{vs:List V}(x:A1 B g H k ob a C dx ns vs)(fr:aM g.HF g'.HF)(pre:g.al <+: g'.al)(kk:∀l p,g.o l=some p->(p=.ob k\/∃j,p=.fld k j)->g'.o l=some p/\H' l=H l):A1 B g' H' k ob a C dx ns vs:=by
 obtain⟨o',h'⟩:=kk a _ x.o (.inl rfl);exact⟨dR pre x.al,o',x.cl,h'.trans x.h,x.le,x.ln,λj c e=>let⟨v,h1,h2⟩:=x.f j c e;⟨v,h1,h2.mv fr pre λl z=>kk l _ z (.inr ⟨j,rfl⟩)⟩⟩
theorem L6.mv{k:Nat}{ob:Ob}(x:L6 B g H k ob)(fr:aM g.HF g'.HF)(pre:g.al <+: g'.al)(kk:∀l p,g.o l=some p->(p=.ob k\/∃j,p=.fld k j)->g'.o l=some p/\H' l=H l):L6 B g' H' k ob:=by
 rcases x with⟨a,C,dx,ns,vs,y⟩|⟨a,y⟩
 ·exact .inl ⟨a,C,dx,ns,vs,y.mv fr pre kk⟩
 ·exact .inr ⟨a,dR pre y.al,y.nc,y.nf,λc e=>(y.f c e).mv fr pre λl z=>kk l _ z (.inl rfl)⟩
theorem fU.mv(x:fU B g H m)(sub:aM g'.HF H')(live:∀b p,g'.o b=some p->g'.HF b=none/\∃u,H' b=some u)(fr:aM g.HF g'.HF)(QF:g'.al=g.al)(kk:∀l p,g.o l=some p->(∀i,p≠.loc i)->g'.o l=some p/\H' l=H l):fU B g' H' m:=
 ⟨sub,live,by rw[QF];exact x.len,λk ob e=>(x.at_ k ob e).mv fr (by rw[QF];exact fj) λl p h q=>kk l p h (by
  rcases q with q|⟨j,q⟩
  ·subst q;exact λi z=>by cases z
  ·subst q;exact λi z=>by cases z)⟩
theorem mQ.set{r:Fs}{i:Nat}{v:V}{c:C}(x:mQ B g H σ r)(q:a_ B g' H' (.loc i) c v)(kk:∀j c v,j≠i->a_ B g H (.loc j) c v->a_ B g' H' (.loc j) c v):mQ B g' H' (σ.set i (some v)) (r.set i (some c)):=by
 refine⟨by rw[e_,e_];exact x.len,λj d h=>?_⟩
 by_cases hj:i=j
 ·subst hj
  have je:i<r.length:=by have:=(bD.mp h).1;rw[e_]at this;exact this
  rw[eu je]at h;cases h;exact⟨v,eu (by rw[<- x.len];exact je),q⟩
 ·rw[dB hj]at h
  obtain⟨w,h1,h2⟩:=x.at_ j d h;exact⟨w,by rw[dB hj];exact h1,kk j d w (Ne.symm hj) h2⟩
theorem SR.set(x:SR B g H σ s){i:Nat}{t:T}{v:V}(r:Rep B g.al g.HF t v):SR B g H (σ.set i (some v)) (j7 s i (.val t)):=
 ⟨x.st,x.lc.set r λ_ _ _ _ h=>h⟩
def G.iL(g:G)(l:Addr)(o:HO):G:={g with HF:=upd g.HF l o,o:=λb=>if b=l then none else g.o b}
def mR{p q:jd}{l:Addr}{o:HO}(hl:g.o l=some p)(hf:g.HF l=none)(hq:q≠p){c:C}{v:V}(h:a_ B g H q c v):a_ B (g.iL l o) H q c v:=
 a_.mv (g':=g.iL l o) (aZ hf) fj (λb hb=>by
  have:b≠l:=λe=>hq (by rw[e,hl]at hb;cases hb;rfl)
  exact⟨by show(if b=l then none else g.o b)=_;rw[if_neg this];exact hb,rfl⟩) h
def qM{p:jd}{l:Addr}{o:HO}(hl:g.o l=some p)(hf:g.HF l=none):eV g H (g.iL l o) H:=
 ⟨aZ hf,fj,λb u h n z=>by
  have:b≠l:=λe=>by rw[e,hl]at z;cases z
  exact⟨h,by show upd g.HF l o b=none;rw[aq this];exact n,by show(if b=l then none else g.o b)=none;rw[if_neg this];exact z⟩,λ_ h=>h⟩
def xY{i:Nat}{l:Addr}{o:HO}(x:fU B g H m)(hl:g.o l=some (.loc i))(hh:H l=some o):fU B (g.iL l o) H m:=by
 have hf:=(x.live l _ hl).1;refine x.mv (λb u e=>?_) (λb p e=>?_) (aZ hf) rfl λb p hb hp=>?_
 ·have e:upd g.HF l o b=some u:=e
  by_cases hb:b=l
  ·subst hb;rw[aj]at e;cases e;exact hh
  ·rw[aq hb]at e;exact x.sub _ _ e
 ·have e:(if b=l then none else g.o b)=some p:=e
  by_cases hb:b=l
  ·rw[if_pos hb]at e;cases e
  ·rw[if_neg hb]at e
   obtain⟨h1,h2⟩:=x.live b p e;exact⟨by show upd g.HF l o b=none;rw[aq hb];exact h1,h2⟩
 ·have:b≠l:=λe=>hp i (by rw[e,hl]at hb;cases hb;rfl)
  exact⟨by show(if b=l then none else g.o b)=_;rw[if_neg this];exact hb,rfl⟩
theorem SR.iL(x:SR B g H σ s){i:Nat}{ts:FK}(h:s.r[i]?=some (some (.ol ts))):∃g' v,eV g H g' H/\SR B g' H σ (j7 s i (.val (.lst ts)))/\σ[i]?=some (some v)/\Rep B g'.al g'.HF (.lst ts) v:=by
 obtain⟨v,h1,l,vs,rfl,ho,hh,r⟩:=x.lc.at_ i _ h;have hf:=(x.st.live l _ ho).1;have rp:Rep B (g.iL l (.lst vs)).al (g.iL l (.lst vs)).HF (.lst ts) (.ref l):=⟨l,vs,rfl,aj,r.mv fj (aZ hf)⟩;refine⟨g.iL l (.lst vs),.ref l,qM ho hf,⟨xY x.st ho hh,?_⟩,h1,rp⟩
 have:=x.lc.set (i:=i) (v:=.ref l) (c:=.val (.lst ts)) rp λj c v hj q=>mR (q:=.loc j) ho hf (λz=>hj (by cases z;rfl)) q
 have es:σ.set i (some (.ref l))=σ:=by
  apply xg;intro j;by_cases hj:i=j
  ·subst hj
   rw[eu (bD.mp h1).1,h1]
  ·rw[dB hj]
 rw[es]at this;exact this
def SR.VZ(x:SR B g H σ s){i:Nat}{ks:List Ky}{ts:FK}(h:s.r[i]?=some (some (.od ks ts))):∃g' v,eV g H g' H/\SR B g' H σ (j7 s i (.val (.hU ks ts)))/\σ[i]?=some (some v)/\Rep B g'.al g'.HF (.hU ks ts) v:=by
 obtain⟨v,h1,l,vs,rfl,ho,hh,hl,r⟩:=x.lc.at_ i _ h;have hf:=(x.st.live l _ ho).1;have rp:Rep B (g.iL l (.dK ((ks.map ly).zip vs))).al (g.iL l (.dK ((ks.map ly).zip vs))).HF (.hU ks ts) (.ref l):=⟨l,vs,rfl,aj,hl,r.mv fj (aZ hf)⟩;refine⟨g.iL l (.dK ((ks.map ly).zip vs)),.ref l,qM ho hf,⟨xY x.st ho hh,?_⟩,h1,rp⟩
 have:=x.lc.set (i:=i) (v:=.ref l) (c:=.val (.hU ks ts)) rp λj c v hj q=>mR (q:=.loc j) ho hf (λz=>hj (by cases z;rfl)) q
 have es:σ.set i (some (.ref l))=σ:=by
  apply xg;intro j;by_cases hj:i=j
  ·subst hj
   rw[eu (bD.mp h1).1,h1]
  ·rw[dB hj]
 rw[es]at this;exact this
def G.own(g:G)(l:Addr)(p:jd):G:={g with o:=λb=>if b=l then some p else g.o b}
def tQ{p q:jd}{l:Addr}(hn:g.o l=none){c:C}{v:V}(h:a_ B g H q c v):a_ B (g.own l p) H q c v:=
 a_.mv (g:=g) (g':=g.own l p) (aM.refl g.HF) fj (λb hb=>by
  have:b≠l:=λe=>by rw[e,hn]at hb;cases hb
  exact⟨by show(if b=l then some p else g.o b)=_;rw[if_neg this];exact hb,rfl⟩) h
def xZ{p:jd}{l:Addr}{u:HO}(x:fU B g H m)(hn:g.o l=none)(hf:g.HF l=none)(hh:H l=some u):fU B (g.own l p) H m:=by
 refine x.mv x.sub (λb q e=>?_) (aM.refl _) rfl λb q hb hp=>?_
 ·have e:(if b=l then some p else g.o b)=some q:=e
  by_cases hb:b=l
  ·subst hb;exact⟨hf,u,hh⟩
  ·rw[if_neg hb]at e;exact x.live b q e
 ·have:b≠l:=λe=>by rw[e,hn]at hb;cases hb
  exact⟨by show(if b=l then some p else g.o b)=_;rw[if_neg this];exact hb,rfl⟩
theorem SR.own(x:SR B g H σ s){i:Nat}{l:Addr}{ts:FK}{vs:List V}(hn:g.o l=none)(hf:g.HF l=none)(hh:H l=some (.lst vs))(r:aC B g.al g.HF ts vs):SR B (g.own l (.loc i)) H (σ.set i (some (.ref l))) (j7 s i (.ol ts)):=
 ⟨xZ x.st hn hf hh,x.lc.set (c:=.ol ts) ⟨l,vs,rfl,by show(if l=l then some (jd.loc i)else g.o l)=_;rw[if_pos rfl],hh,r⟩ λj c v hj q=>tQ hn q⟩
def SR.V0(x:SR B g H σ s){i:Nat}{l:Addr}{ks:List Ky}{ts:FK}{vs:List V}(hn:g.o l=none)(hf:g.HF l=none)(hh:H l=some (.dK ((ks.map ly).zip vs)))(hk:ks.length=vs.length)(r:aC B g.al g.HF ts vs):SR B (g.own l (.loc i)) H (σ.set i (some (.ref l))) (j7 s i (.od ks ts)):=
 ⟨xZ x.st hn hf hh,x.lc.set (c:=.od ks ts) ⟨l,vs,rfl,by show(if l=l then some (jd.loc i)else g.o l)=_;rw[if_pos rfl],hh,hk,r⟩ λj c v hj q=>tQ hn q⟩
def Gp{l:Addr}{i:Nat}{u:HO}(x:fU B g H m)(ho:g.o l=some (.loc i)):fU B g (upd H l u) m:=by
 have hf:=(x.live l _ ho).1;refine x.mv (λb w e=>?_) (λb q e=>?_) (aM.refl _) rfl λb q hb hp=>?_
 ·have:b≠l:=λz=>by rw[z,hf]at e;cases e
  rw[aq this];exact x.sub _ _ e
 ·obtain⟨h1,w,h2⟩:=x.live b q e
  by_cases hb:b=l
  ·exact⟨h1,u,by rw[hb,aj]⟩
  ·exact⟨h1,w,by rw[aq hb];exact h2⟩
 ·have:b≠l:=λe=>hp i (by rw[e,ho]at hb;cases hb;rfl)
  exact⟨hb,by rw[aq this]⟩
def qN{l:Addr}{p:jd}{u:HO}(ho:g.o l=some p):eV g H g (upd H l u):=
 ⟨aM.refl _,fj,λb w h n z=>by
  have:b≠l:=λe=>by rw[e,ho]at z;cases z
  exact⟨by rw[aq this];exact h,n,z⟩,λb h=>by
  by_cases hb:b=l
  ·subst hb;rw[aj]at h;cases h
  ·rw[aq hb]at h;exact h⟩
def SR.chg(x:SR B g H σ s){i:Nat}{ts ts':FK}{l:Addr}{vs':List V}(h:s.r[i]?=some (some (.ol ts)))(hσ:σ[i]?=some (some (.ref l)))(r:aC B g.al g.HF ts' vs'):SR B g (upd H l (.lst vs')) σ (j7 s i (.ol ts'))/\eV g H g (upd H l (.lst vs')):=by
 obtain⟨v,h1,l',vs,rfl,ho,hh,r0⟩:=x.lc.at_ i _ h;rw[hσ]at h1;cases h1;refine⟨⟨Gp x.st ho,?_⟩,qN ho⟩
 have:=x.lc.set (g':=g) (H':=upd H l (.lst vs')) (i:=i) (v:=.ref l) (c:=.ol ts') ⟨l,vs',rfl,ho,aj,r⟩ λj c v hj q=>q.mv (aM.refl _) fj λb hb=>by
  have:b≠l:=λe=>hj (by rw[e,ho]at hb;cases hb;rfl)
  exact⟨hb,aq this⟩
 have es:σ.set i (some (.ref l))=σ:=by
  apply xg;intro j;by_cases hj:i=j
  ·subst hj
   rw[eu (bD.mp hσ).1,hσ]
  ·rw[dB hj]
 rw[es]at this;exact this
def QG:Option jd->Option jd
 |some (.loc _)=>none
 |x=>x
def G.ah(g:G):G:={g with o:=λb=>QG (g.o b)}
def Ai{q:Option jd}{p:jd}:QG q=some p ↔ q=some p/\∀i,p≠.loc i:=by
 cases q with
 |none=>exact⟨λh=>(by cases h),λh=>(by cases h.1)⟩
 |some q=>
  cases q with
  |loc i=>exact⟨λh=>(by cases h),λh=>(by obtain⟨h,n⟩:=h;cases h;exact absurd rfl (n i))⟩
  |ob k=>exact⟨λh=>(by cases h;exact⟨rfl,λi z=>(by cases z)⟩),λh=>h.1⟩
  |fld k j=>exact⟨λh=>(by cases h;exact⟨rfl,λi z=>(by cases z)⟩),λh=>h.1⟩
def jJ{b:Addr}{p:jd}:g.ah.o b=some p ↔ g.o b=some p/\∀i,p≠.loc i:=Ai
theorem fU.ah(x:fU B g H m):fU B g.ah H m:=
 x.mv x.sub (λb p e=>x.live b p (jJ.mp e).1) (aM.refl _) rfl λl p h n=>⟨jJ.mpr ⟨h,n⟩,rfl⟩
def V1:Option jd->Option jd->Option jd
 |some (.loc i),_=>some (.loc i)
 |_,y=>y
def G.back(g g':G):G:={g' with o:=λb=>V1 (g.o b) (g'.o b)}
def CO{b:Addr}{i:Nat}(h:g.o b=some (.loc i)):(G.back g g').o b=some (.loc i):=by
 show V1 (g.o b) (g'.o b)=_;rw[h];rfl
def mS{b:Addr}(h:∀i,g.o b≠some (.loc i)):(G.back g g').o b=g'.o b:=by
 show V1 (g.o b) (g'.o b)=_;cases q:g.o b with
 |none=>rfl
 |some p=>cases p with
  |loc i=>exact absurd q (h i)
  |ob k=>rfl
  |fld k j=>rfl
theorem SR.back(x:SR B g H σ s){m':FV}(p:eV g.ah H g' H')(y:fU B g' H' m'):eV g H (G.back g g') H'/\SR B (G.back g g') H' σ {s with m:=m'}:=by
 have keep:∀l i,g.o l=some (.loc i)->H' l=H l/\g'.HF l=none/\g'.o l=none:=λl i e=>by
  obtain⟨h1,u,h2⟩:=x.st.live l _ e;have h3:g.ah.o l=none:=by
   cases q:g.ah.o l with
   |none=>rfl
   |some p=>obtain⟨a,b⟩:=jJ.mp q;rw[e]at a;cases a;exact absurd rfl (b i)
  obtain⟨h4,h5,h6⟩:=p.rest l u h2 h1 h3;exact⟨h4.trans h2.symm,h5,h6⟩
 have V2:∀l q,g'.o l=some q->∀i,g.o l≠some (.loc i):=λl q e i z=>by rw[(keep l i z).2.2]at e;cases e
 refine⟨⟨p.fr,p.pre,λb u h n z=>?_,p.there⟩,⟨⟨y.sub,λb q e=>?_,y.len,λk ob e=>?_⟩,x.lc.len,λi c e=>?_⟩⟩
 ·have h3:g.ah.o b=none:=by
   cases q:g.ah.o b with
   |none=>rfl
   |some p=>rw[(jJ.mp q).1]at z;cases z
  obtain⟨h4,h5,h6⟩:=p.rest b u h n h3;exact⟨h4,h5,(mS λi w=>by rw[z]at w;cases w).trans h6⟩
 ·by_cases hl:∃i,g.o b=some (.loc i)
  ·obtain⟨i,hl⟩:=hl
   obtain⟨h1,u,h2⟩:=x.st.live b _ hl;obtain⟨h4,h5,_⟩:=keep b i hl;exact⟨h5,u,h4.trans h2⟩
  ·rw[mS λi w=>hl ⟨i,w⟩]at e
   exact y.live b q e
 ·exact(y.at_ k ob e).mv (aM.refl _) fj λl q h _=>⟨(mS (V2 l q h)).trans h,rfl⟩
 ·obtain⟨v,h1,h2⟩:=x.lc.at_ i c e
  exact⟨v,h1,a_.mv (g:=g) (g':=G.back g g') p.fr p.pre (λl o=>⟨CO o,(keep l i o).1⟩) h2⟩
variable{es:Bz}{fl:FL}{ft fu:FT}
abbrev KTb:=Bi×List Bi
def _root_.L2.Cx.kt(X:Cx)(t:KTb):KT:=⟨X.K,X.prog,X.w,t.1,t.2⟩
def tE(B:KT)(f:FE):TE:=λσ H Q=>∃g s t s',SR B g H σ s/\f s=.ok (t,s')/\∀v g' H',eV g H g' H'->SR B g' H' σ s'->Rep B g'.al g'.HF t v->Q v H'
def tA(B:KT)(f:FL):TA:=λσ H Q=>∃g s ts s',SR B g H σ s/\f s=.ok (ts,s')/\∀vs g' H',eV g H g' H'->SR B g' H' σ s'->aC B g'.al g'.HF ts vs->Q vs H'
def tT(B:KT)(f:FT):TT:=λσ H Q=>∃g s k s',SR B g H σ s/\f s=.ok (k,s')/\∀g' H',eV g H g' H'->SR B g' H' σ s'->Q k H'
def tP(B:KT)(f:FO):TO:=λσ H Q=>∃g s k s',SR B g H σ s/\f s=.ok (k,s')/\∀g' H',eV g H g' H'->SR B g' H' σ s'->Q k H'
def tO(B:KT)(f:FL):TE:=λσ H Q=>∃g s ts s',SR B g H σ s/\f s=.ok (ts,s')/\∀l vs g' H',eV g H g' H'->SR B g' H' σ s'->H l=none->g'.HF l=none->g'.o l=none->H' l=some (.lst vs)->aC B g'.al g'.HF ts vs->Q (.ref l) H'
def aR{t t':TE}(h:PE X e t)(i:∀σ H Q,t' σ H Q->t σ H Q):PE X e t':=λae s σ H Q I q=>h ae s σ H Q I (i σ H Q q)
def x8{t t':TT}(h:PT X e t)(i:∀σ H Q,t' σ H Q->t σ H Q):PT X e t':=λae s σ H Q I q=>h ae s σ H Q I (i σ H Q q)
def JU{t t':TT}(h:PW X e t)(i:∀σ H Q,t' σ H Q->t σ H Q):PW X e t':=λwh ae s σ H Q I q=>h wh ae s σ H Q I (i σ H Q q)
def JV{es:Bz}{t t':TA}(h:PA X es t)(i:∀σ H Q,t' σ H Q->t σ H Q):PA X es t':=λpo ae s σ H Q I q=>h po ae s σ H Q I (i σ H Q q)
def c5{st:Stmt}{t t':TS}(h:PS X st t)(i:∀D σ H,t' D σ H->t D σ H):PS X st t':=λae s σ H D I q=>h ae s σ H D I (i D σ H q)
def CP{st:Ee}{t t':TS}(h:jB X st t)(i:∀D σ H,t' D σ H->t D σ H):jB X st t':=λae s σ H D I q=>h ae s σ H D I (i D σ H q)
def JW{e:Option Expr}{t t':TO}(h:PO X e t)(i:∀σ H Q,t' σ H Q->t σ H Q):PO X e t':=λae s σ H Q I q=>h ae s σ H Q I (i σ H Q q)
def kR{tg:Expr}{t t':TI}(h:PI X tg e t)(i:∀σ H Rh,t' σ H Rh->t σ H Rh):PI X tg e t':=λae s σ H Rh I q=>h ae s σ H Rh I (i σ H Rh q)
def bb:PE X e (tE B aT):=λ_ _ _ _ _ _ ⟨_,_,_,_,_,h,_⟩=>by cases h
def jf:PT X e (tT B oQ):=λ_ _ _ _ _ _ ⟨_,_,_,_,_,h,_⟩=>by cases h
def dj:PE X e (tO B eU):=λ_ _ _ _ _ _ ⟨_,_,_,_,_,h,_⟩=>by cases h
def jK{t:T}{v:V}(h:PE X e (tC v))(r:∀al H,Rep B al H t v):PE X e (tE B (cF t)):=aR h λσ H Q z=>by
 obtain⟨g,s,t',s',x,h,k⟩:=z;cases h;exact k v g H .refl x (r _ _)
def QH{i:Nat}{x:Str}(hN:X.N[i]?=some x)(hv:vd X.env.scope x)(hd:cu x)(lG:jA x):PE X (.Name x pos) (tE B (vF i)):=by
 refine aR (fL hN hv hd lG) λσ H Q zz=>?_;obtain⟨g,s,t,s',x,h,k⟩:=zz;unfold vF at h;split at h
 ·rename_i t' hr
  cases h;obtain⟨v,h1,h2⟩:=x.lc.at_ i _ hr;exact⟨v,h1,k v g H .refl x h2⟩
 ·rename_i ts hr
  cases h;obtain⟨g',v,p,y,h1,r⟩:=x.iL hr;exact⟨v,h1,k v g' H p y r⟩
 ·rename_i ks ts hr
  cases h;obtain⟨g',v,p,y,h1,r⟩:=x.VZ hr;exact⟨v,h1,k v g' H p y r⟩
 ·cases h
def L1(X:Cx)(f:T->FR)(r:V->Hp->VK->Prop):Prop:=∀(B:KT)(_:B.K=X.K)(al:BM)(HF H:Hp)(x:V)(t tx:T)(Q:VK),aM HF H->Rep B al HF tx x->f tx=some t->(∀v fZ H',Gr HF H fZ H'->Rep B al fZ t v->Q v H')->r x H Q
def qO(X:Cx)(f:T->T->FR)(r:R2):Prop:=∀(B:KT)(_:B.K=X.K)(al:BM)(HF H:Hp)(x y:V)(t tx ty:T)(Q:VK),aM HF H->Rep B al HF tx x->Rep B al HF ty y->f tx ty=some t->(∀v fZ H',Gr HF H fZ H'->Rep B al fZ t v->Q v H')->r x y H Q
def LN(X:Cx)(f:FK->FR)(r:List V->Hp->VK->Prop):Prop:=∀(B:KT)(_:B.K=X.K)(al:BM)(HF H:Hp)(xs:List V)(t:T)(ts:FK)(Q:VK),aM HF H->aC B al HF ts xs->f ts=some t->(∀v fZ H',Gr HF H fZ H'->Rep B al fZ t v->Q v H')->r xs H Q
def JX{f:T->FR}{r:V->Hp->VK->Prop}(hB:B.K=X.K)(hr:L1 X f r):∀σ H Q,tE B (dN f fa) σ H Q->XQ r (tE B fa) σ H Q:=by
 rintro σ H Q ⟨g,s,t,s',x,h,k⟩
 obtain⟨⟨tx,s1⟩,h1,h⟩:=aa h;obtain⟨t',h2,h⟩:=aa h;cases h;exact⟨g,s,tx,s1,x,h1,λv g1 H1 p1 x1 r1=>hr B hB g1.al g1.HF H1 v _ tx Q x1.sub r1 (ai h2) λu fZ H' gr r2=>k u (g1.grow fZ) H' (p1.trans (x1.gk gr)) (x1.grow gr) r2⟩
def jL{f:T->T->FR}{r:R2}(hB:B.K=X.K)(hr:qO X f r):∀σ H Q,tE B (bw f fa fb) σ H Q->OD r (tE B fa) (tE B fb) σ H Q:=by
 rintro σ H Q ⟨g,s,t,s',x,h,k⟩
 obtain⟨⟨tx,s1⟩,h1,h⟩:=aa h;obtain⟨⟨ty,s2⟩,h2,h⟩:=aa h;obtain⟨t',h3,h⟩:=aa h;cases h;exact⟨g,s,tx,s1,x,h1,λv g1 H1 p1 x1 r1=>⟨g1,s1,ty,s2,x1,h2,λw g2 H2 p2 x2 r2=>
  hr B hB g2.al g2.HF H2 v w _ tx ty Q x2.sub (r1.mv p2.pre p2.fr) r2 (ai h3) λu fZ H' gr r3=>k u (g2.grow fZ) H' ((p1.trans p2).trans (x2.gk gr)) (x2.grow gr) r3⟩⟩
def JY{f:FK->FR}{r:List V->Hp->VK->Prop}(hB:B.K=X.K)(hr:LN X f r):∀σ H Q,tE B (bV f fl) σ H Q->Vu r (tA B fl) σ H Q:=by
 rintro σ H Q ⟨g,s,t,s',x,h,k⟩
 obtain⟨⟨ts,s1⟩,h1,h⟩:=aa h;obtain⟨t',h2,h⟩:=aa h;cases h;exact⟨g,s,ts,s1,x,h1,λvs g1 H1 p1 x1 r1=>hr B hB g1.al g1.HF H1 vs _ ts Q x1.sub r1 (ai h2) λu fZ H' gr r2=>k u (g1.grow fZ) H' (p1.trans (x1.gk gr)) (x1.grow gr) r2⟩
def vO:PA X [] (tA B bg):=JV cj λσ H Q z=>by
 obtain⟨g,s,t,s',x,h,k⟩:=z;cases h;exact k [] g H .refl x rfl
def qP(ha:PE X e (tE B fa))(hr:PA X es (tA B fl))(hs:starEach (e::es) X.env=(false,eval e X.env)::starEach es X.env):PA X (e::es) (tA B (cO fa fl)):=JV (aW ha hr hs) λσ H Q z=>by
 obtain⟨g,s,t,s',x,h,k⟩:=z;obtain⟨⟨tx,s1⟩,h1,h⟩:=aa h;obtain⟨⟨ty,s2⟩,h2,h⟩:=aa h;cases h;exact⟨g,s,tx,s1,x,h1,λv g1 H1 p1 x1 r1=>⟨g1,s1,ty,s2,x1,h2,λw g2 H2 p2 x2 r2=>k (v::w) g2 H2 (p1.trans p2) x2 ⟨v,w,rfl,r1.mv p2.pre p2.fr,r2⟩⟩⟩
def vP{n:Nat}(h:n<=1000):n<=sizeLine:=by rw[sizeLine_eq];omega
def QI{x1}(h:PA X es (tA B fl)):PE X (.Tuple es x1 pos) (tE B (bV gH fl)):=aR (Lw h) λσ H Q z=>by
 obtain⟨g,s,t,s',x,h,k⟩:=z;obtain⟨⟨ts,s1⟩,h1,h⟩:=aa h;obtain⟨t',h2,h⟩:=aa h;cases h;obtain⟨z,rfl⟩:=aV (ai h2);refine⟨g,s,ts,s1,x,h1,λvs g1 H1 p1 x1 r1=>⟨vP (by rw[<- r1.len];exact z),λq hq=>?_⟩⟩
 have gr:=Gr.new (o:=.tup vs) x1.sub hq;exact k _ _ _ (p1.trans (x1.gk gr)) (x1.grow gr) ⟨q,vs,rfl,.inl (.inl aj),r1.same gr.fr⟩
def QJ(h:PA X es (tA B fl)):PE X (.List es pos) (tE B (bV mJ fl)):=aR (Cg h) λσ H Q z=>by
 obtain⟨g,s,t,s',x,h,k⟩:=z;obtain⟨⟨ts,s1⟩,h1,h⟩:=aa h;obtain⟨t',h2,h⟩:=aa h;cases h;obtain⟨z,rfl⟩:=aV (ai h2);refine⟨g,s,ts,s1,x,h1,λvs g1 H1 p1 x1 r1=>⟨vP (by rw[<- r1.len];exact z),λq hq=>?_⟩⟩
 have gr:=Gr.new (o:=.lst vs) x1.sub hq;exact k _ _ _ (p1.trans (x1.gk gr)) (x1.grow gr) ⟨q,vs,rfl,aj,r1.same gr.fr⟩
def iG(fl:FL):FL:=λs=>(fl s).bind λp=>if p.1.length<=1000 then .ok p else .bad
theorem mO{l:Addr}{u:HO}(x:SR B g H σ s)(h:H l=none):Gr g.HF H g.HF (upd H l u)/\g.HF l=none/\g.o l=none:=by
 refine⟨.mO x.sub h,x.sub.free h,?_⟩;cases q:g.o l with
 |none=>rfl
 |some p=>obtain⟨_,u,z⟩:=x.st.live l p q;rw[h]at z;cases z
def L7(h:PA X es (tA B fl)):PE X (.List es pos) (tO B (iG fl)):=aR (Cg h) λσ H Q z=>by
 obtain⟨g,s,t,s',x,h,k⟩:=z;obtain⟨⟨ts,s1⟩,h1,h⟩:=aa h;dsimp only at h;split at h
 ·rename_i z
  cases h;refine⟨g,s,_,_,x,h1,λvs g1 H1 p1 x1 r1=>⟨vP (by rw[<- r1.len];exact z),λq hq=>?_⟩⟩
  obtain⟨gr,n1,n2⟩:=mO (u:=.lst vs) x1 hq;exact k q vs _ _ (p1.trans (x1.gk gr)) (x1.grow gr) (p1.there q hq) n1 n2 aj r1
 ·cases h
def SR.CQ{l:Addr}{u:HO}(x:SR B g H σ s)(hf:g.HF l=none)(ho:g.o l=none)(hh:H l=some u):SR B (g.grow (upd g.HF l u)) H σ s:=by
 have sl:∀p c v,a_ B g H p c v->a_ B (g.grow (upd g.HF l u)) H p c v:=λp c v h=>a_.mv (g:=g) (g':=g.grow (upd g.HF l u)) (aZ hf) fj (λ_ q=>⟨q,rfl⟩) h;refine⟨x.st.mv (λb w e=>?_) (λb p e=>?_) (aZ hf) rfl λ_ _ q _=>⟨q,rfl⟩,x.lc.len,λi c e=>let⟨v,h1,h2⟩:=x.lc.at_ i c e;⟨v,h1,sl _ _ _ h2⟩⟩
 ·have e:upd g.HF l u b=some w:=e
  by_cases hb:b=l
  ·subst hb;rw[aj]at e;cases e;exact hh
  ·rw[aq hb]at e;exact x.sub _ _ e
 ·obtain⟨h1,h2⟩:=x.st.live b p e
  have:b≠l:=λz=>by subst z;rw[show g.o b=some p from e]at ho;cases ho
  exact⟨by show upd g.HF l u b=none;rw[aq this];exact h1,h2⟩
def eV.CQ{g1:G}{H1:Hp}{l:Addr}{u:HO}(p:eV g H g1 H1)(h0:H l=none)(hf:g1.HF l=none):eV g H (g1.grow (upd g1.HF l u)) H1:=
 ⟨p.fr.trans (aZ hf),p.pre,λb w h n z=>by
  obtain⟨a,b',c⟩:=p.rest b w h n z
  have:b≠l:=aK h h0
  exact⟨a,by show upd g1.HF l u b=none;rw[aq this];exact b',c⟩,p.there⟩
def vQ(h:PE X e (tO B fl)):PE X e (tE B (eK fl)):=aR h λσ H Q z=>by
 obtain⟨g,s,t,s',x,h,k⟩:=z;obtain⟨⟨ts,s1⟩,h1,h⟩:=aa h;cases h;refine⟨g,s,_,_,x,h1,λl vs g1 H1 p1 x1 h0 n1 n2 hl r1=>?_⟩;exact k _ _ H1 (p1.CQ h0 n1) (x1.CQ n1 n2 hl) ⟨l,vs,rfl,aj,r1.same (aZ n1)⟩
def L8(ha:PT X a (tT B ft)):PW X (.BoolOp .And [a] pos) (tT B ft):=E9 ha
def QK(ha:PT X a (tT B ft)):PW X (.BoolOp .Or [a] pos) (tT B ft):=K3 ha
def QM{rest:Bz}(ha:PT X a (tT B ft))(hb:PW X (.BoolOp .And (b::rest) pos) (tT B fu)):PW X (.BoolOp .And (a::b::rest) pos) (tT B (kr ft fu)):=JU (K4 ha hb) λσ H Q z=>by
 obtain⟨g,s,t,s',x,h,k⟩:=z;obtain⟨⟨d,s1⟩,h1,h⟩:=aa h;refine⟨g,s,d,s1,x,h1,λg1 H1 p1 x1=>?_⟩;cases d with
 |true=>exact sY ⟨g1,s1,_,_,x1,h,λg2 H2 p2 x2=>k g2 H2 (p1.trans p2) x2⟩
 |false=>cases h;exact sX (k g1 H1 p1 x1)
def V3{rest:Bz}(ha:PT X a (tT B ft))(hb:PW X (.BoolOp .Or (b::rest) pos) (tT B fu)):PW X (.BoolOp .Or (a::b::rest) pos) (tT B (qK ft fu)):=JU (O6 ha hb) λσ H Q z=>by
 obtain⟨g,s,t,s',x,h,k⟩:=z;obtain⟨⟨d,s1⟩,h1,h⟩:=aa h;refine⟨g,s,d,s1,x,h1,λg1 H1 p1 x1=>?_⟩;cases d with
 |true=>cases h;exact sY (k g1 H1 p1 x1)
 |false=>exact sX ⟨g1,s1,_,_,x1,h,λg2 H2 p2 x2=>k g2 H2 (p1.trans p2) x2⟩
def QN(ha:PT X a (tT B ft)):PT X (.UnaryOp .Not a pos) (tT B (dC ft)):=x8 (K5 ha) λσ H Q z=>by
 obtain⟨g,s,t,s',x,h,k⟩:=z;obtain⟨⟨d,s1⟩,h1,h⟩:=aa h;cases h;exact⟨g,s,d,s1,x,h1,λg1 H1 p1 x1=>k g1 H1 p1 x1⟩
def qQ{t:T}{k:Bool}(h:OL t=some k):t=.bl k:=by
 cases t<;>first|(cases h;done)|(cases h;rfl)
def L_{op}(ha:PE X a (tE B fa)):PE X (.BoolOp op [a] pos) (tE B fa):=K6 ha
def Ma{rest:Bz}(ha:PE X a (tE B fa))(hb:PE X (.BoolOp .And (b::rest) pos) (tE B fb)):PE X (.BoolOp .And (a::b::rest) pos) (tE B (oS fa fb)):=aR (K7 ha hb) λσ H Q z=>by
 obtain⟨g,s,t,s',x,h,k⟩:=z;obtain⟨⟨d,s1⟩,h1,h⟩:=aa h;obtain⟨d',h2,h⟩:=aa h;cases qQ (ai h2);refine⟨g,s,_,s1,x,h1,λv g1 H1 p1 x1 r1=>⟨d',r1,?_⟩⟩;cases d' with
 |true=>exact sY ⟨g1,s1,_,_,x1,h,λw g2 H2 p2 x2 r2=>k w g2 H2 (p1.trans p2) x2 r2⟩
 |false=>cases h;exact sX (k _ g1 H1 p1 x1 rfl)
def Mb(ha:PE X a (tE B fa)):PE X (.UnaryOp .Not a pos) (tE B (qL fa)):=aR (K8 ha) λσ H Q z=>by
 obtain⟨g,s,t,s',x,h,k⟩:=z;obtain⟨⟨d,s1⟩,h1,h⟩:=aa h;obtain⟨d',h2,h⟩:=aa h;cases qQ (ai h2);cases h;exact⟨g,s,_,s1,x,h1,λv g1 H1 p1 x1 r1=>⟨d',r1,k _ g1 H1 p1 x1 rfl⟩⟩
def QO(hc:PT X c (tT B ft))(ha:PE X a (tE B fa))(hb:PE X b (tE B fb)):PE X (.IfExp c a b pos) (tE B (CL ft fa fb)):=aR (sJ hc ha hb) λσ H Q z=>by
 obtain⟨g,s,t,s',x,h,k⟩:=z;obtain⟨⟨d,s1⟩,h1,h⟩:=aa h;refine⟨g,s,d,s1,x,h1,λg1 H1 p1 x1=>?_⟩;cases d with
 |true=>exact sY ⟨g1,s1,_,_,x1,h,λw g2 H2 p2 x2 r2=>k w g2 H2 (p1.trans p2) x2 r2⟩
 |false=>exact sX ⟨g1,s1,_,_,x1,h,λw g2 H2 p2 x2 r2=>k w g2 H2 (p1.trans p2) x2 r2⟩
def CS{al:BM}{HF:Hp}{t:T}{k:Bool}{v:V}(h:Gh t=some k)(sm:aM HF H)(r:Rep B al HF t v):Lr B.K v H k:=by
 cases t<;>first|(cases h;done)|skip
 ·cases h;cases r;rfl
 ·cases h
  obtain⟨a,vs,rfl,q,rr⟩:=r;refine .inl ⟨vs,cV.of (sm _ _ q),?_⟩
  have:=rr.len
  rename_i xs;cases xs<;>cases vs<;>first|rfl|(cases this)
def JZ(ha:PE X a (tE B fa))(hB:B.K=X.K)(he:∀gT,isTrue a X.env gT=(do let v <- gT;standAt a.pos;holding [v] (truthy v))):PT X a (tT B (tB fa)):=x8 (Cc ha he) λσ H Q z=>by
 obtain⟨g,s,t,s',x,h,k⟩:=z;obtain⟨⟨d,s1⟩,h1,h⟩:=aa h;obtain⟨d',h2,h⟩:=aa h;cases h;exact⟨g,s,_,s1,x,h1,λv g1 H1 p1 x1 r1=>⟨_,hB▸CS (ai h2) x1.sub r1,k g1 H1 p1 x1⟩⟩
section
def eL(l:B1):(⟨l.toArray⟩:Str).length=l.length:=by show l.toArray.size=_;simp
def V4{l:B1}(h:l.length<=1000000):(⟨l.toArray⟩:Str).length<=sizeLine:=by rw[eL,sizeLine_eq];omega
def Mc(a b:B1):(⟨a.toArray⟩:Str)++⟨b.toArray⟩=⟨(a++b).toArray⟩:=by
 show(⟨a.toArray++b.toArray⟩:Str)=_;simp
def J0:R2:=λx y H Q=>AZ (λi j=>.int (i+j)) x y H Q\/(∃i j,x=.str i/\y=.str j/\i.length+j.length<=sizeLine/\Q (.str (i++j)) H)\/P7 x y H Q
def Gq:gc X (binaryOp .Add) J0:=Ll.or (vA.or LH)
def QP:qO X Qw J0:=λB hB al HF H x y t tx ty Q sm rx ry h k=>by
 cases tx<;>first|(cases h;done)|(cases ty<;>first|(cases h;done)|skip)
 ·cases h;exact .inl ⟨_,_,rx,ry,k _ HF H (.refl sm) rfl⟩
 ·obtain⟨c,rfl⟩:=aV h
  obtain⟨rfl,_⟩:=rx;obtain⟨rfl,_⟩:=ry;refine .inr (.inl ⟨_,_,rfl,rfl,?_,?_⟩)
  ·rw[eL,eL,sizeLine_eq];omega
  ·rw[Mc]
   exact k _ HF H (.refl sm) ⟨rfl,by rw[b9];omega⟩
 ·obtain⟨c,rfl⟩:=aV h
  obtain⟨l,xs,rfl,q,r⟩:=rx;obtain⟨m,ys,rfl,q',r'⟩:=ry;refine .inr (.inr ⟨l,m,xs,ys,rfl,rfl,sm _ _ q,sm _ _ q',by rw[<- r.len,<- r'.len,sizeLine_eq];omega,λp hp=>?_⟩)
  have gr:=Gr.new (o:=.lst (xs++ys)) sm hp;exact k _ _ _ gr ⟨p,_,rfl,aj,(r.app r').same gr.fr⟩
def QQ{f:T->T->FR}{gg:Int->Int->V}{G:Int->Int->T}(hf:∀tx ty t,f tx ty=some t->∃i j,tx=.int i/\ty=.int j/\t=G i j)(hg:∀B al i j H,Rep B al H (G i j) (gg i j)):qO X f (AZ gg):=λB hB al HF H x y t tx ty Q sm rx ry h k=>by
 obtain⟨i,j,rfl,rfl,rfl⟩:=hf _ _ _ h;exact⟨i,j,rx,ry,k _ HF H (.refl sm) (hg B al i j HF)⟩
def CT{f:T->T->FR}{gg:Int->Int->V}{G:Int->Int->T}{C:Int->Int->Prop}(hf:∀tx ty t,f tx ty=some t->∃i j,tx=.int i/\ty=.int j/\t=G i j/\C i j)(hg:∀B al i j H,Rep B al H (G i j) (gg i j)):qO X f (rI C gg):=λB hB al HF H x y t tx ty Q sm rx ry h k=>by
 obtain⟨i,j,rfl,rfl,rfl,c⟩:=hf _ _ _ h;exact⟨i,j,rx,ry,c,k _ HF H (.refl sm) (hg B al i j HF)⟩
def QR:qO X Qx (AZ λi j=>.int (i-j)):=QQ (G:=λi j=>.int (i-j)) (λtx ty t h=>by
 cases tx<;>first | (cases h;done) | (cases ty<;>first | (cases h;done) | (cases h;exact⟨_,_,rfl,rfl,rfl⟩))) λ_ _ _ _ _=>rfl
def QT:qO X Qz (rI Pw λi j=>.int (i/j)):=CT (G:=λi j=>.int (i/j)) (λtx ty t h=>by
 cases tx<;>first | (cases h;done) | (cases ty<;>first | (cases h;done) | (obtain⟨c,rfl⟩:=aV h;exact⟨_,_,rfl,rfl,rfl,c⟩))) λ_ _ _ _ _=>rfl
def QU:qO X QA (rI (λ_ j=>0<j) λi j=>.int (i % j)):=CT (G:=λi j=>.int (i % j)) (λtx ty t h=>by
 cases tx<;>first | (cases h;done) | (cases ty<;>first | (cases h;done) | (obtain⟨c,rfl⟩:=aV h;exact⟨_,_,rfl,rfl,rfl,c⟩))) λ_ _ _ _ _=>rfl
def QV:qO X QC (rI Px λi j=>.int (i^j.toNat)):=CT (G:=λi j=>.int (i^j.toNat)) (λtx ty t h=>by
 cases tx<;>first | (cases h;done) | (cases ty<;>first | (cases h;done) | (obtain⟨c,rfl⟩:=aV h;exact⟨_,_,rfl,rfl,rfl,c⟩))) λ_ _ _ _ _=>rfl
def x9(i j:Int):Prop:=Lj i j\/(i.natAbs.log2<2000000/\j.natAbs.log2<2000000)
def pV{i:Int}(h:i.natAbs.log2<2000000):Builtin.Int.intBits i<=2000000:=by
 unfold Builtin.Int.intBits;split
 ·omega
 ·omega
theorem x9.ok{i j:Int}(h:x9 i j):IntMulOk i j:=by
 rcases h with h|⟨h1,h2⟩
 ·exact h.ok
 ·have a:=pV h1
  have b:=pV h2;intro q;rw[dq]at q;have c:=of_decide_eq_true (show decide (((Builtin.Int.intBits i:Nat):Int)+(Builtin.Int.intBits j:Nat) > (bitsLine:Nat))=true from q.2);have d:(bitsLine:Nat)=134217728:=rfl;omega
def Gs:gc X (binaryOp .Mult) (rI x9 λi j=>.int (i*j)):=Um λ_ _ _ _ _ _ _ hc q=>PyProof.Rows.mul_int q hc.ok
def CU:R2:=λx y H Q=>∃l k,x=SV l/\y=.int k/\(0<=k/\k<=100)/\l≠[]/\l.length<=10000/\Q (SV (dM k.toNat l).flatten) H
theorem x_(l:B1):∀(k:Nat)(bx:B1),(dM k l.toArray).foldl (·++·) bx.toArray=(bx++(dM k l).flatten).toArray
 |0,bx=>by simp
 |k+1,bx=>by
  rw[ju,ou,show bx.toArray++l.toArray=(bx++l).toArray by simp,x_ l k,ju,jv,fK]
def ya(l:B1)(k:Nat):(dM k l).flatten.length=k*l.length:=by
 rw[Bs,qq,IK]
def CW:gc X (binaryOp .Mult) CU:=by
 intro ae s σ H x y v u Q I rx ry h;obtain⟨l,k,rfl,rfl,⟨h0,hk⟩,jr,hz,q⟩:=h;obtain⟨t,rfl⟩:=rx;obtain⟨t',rfl⟩:=ry;have len:=eL l;have hsz:=sizeLine_eq;have hb:k.toNat*l.length<=100*10000:=BO (by omega) hz
 refine PySem.P.mul_str (by rw[decide_eq_false (by omega),decide_eq_false (by omega)];rfl) (λhn _=>?_) (λ_ _=>?_) ?_
 ·intro QW
  rw[len]at QW;have h9:((2:Int)^63-1)/k*k<=2^63-1:=Int.ediv_mul_le _ (by omega)
  have h8:(2:Int)^63-1<((2^63-1)/k+1)*k:=Int.lt_ediv_add_one_mul_self _ (by omega)
  have h7:(((2:Int)^63-1)/k+1)*k<=10000*100:=Int.le_trans (Int.mul_le_mul_of_nonneg_right (by omega) (by omega)) (Int.mul_le_mul_of_nonneg_left hk (by decide))
  exact absurd (Int.lt_of_lt_of_le h8 h7) (by decide)
 ·rw[len,Ji]
  unfold Builtin.Str.tooLong;exact decide_eq_false (by omega)
 ·by_cases h1:k<1
  ·have e:k=0:=by omega
   subst e;rw[if_pos h1];exact⟨by show 0<=_;omega,⟨SV [],H,I.tok _,⟨_,rfl⟩,q⟩⟩
  ·rw[if_neg h1]
   split
   ·rename_i h2
    have e:k=1:=by
     rw[xo]at h2;rcases h2 with h2|h2
     ·exact of_decide_eq_true (by simpa using h2)
     ·have h2:=eq_of_beq h2
      rw[len]at h2;exact absurd (Bt.mp h2) jr
    subst e;have e:(dM (Int.toNat 1) l).flatten=l:=by simp
    rw[e]at q;exact⟨SV l,H,I,⟨_,rfl⟩,q⟩
   ·have e:=x_ l k.toNat []
    rw[jw]at e;refine⟨?_,?_⟩
    ·show Array.size _<=_
     rw[show((dM k.toNat (⟨l.toArray⟩:Str).cps).foldl (·++·) #[])=_ from e,ck,ya]
     omega
    ·rw[show((dM k.toNat (⟨l.toArray⟩:Str).cps).foldl (·++·) #[])=_ from e]
     exact⟨SV (dM k.toNat l).flatten,H,I.tok _,⟨_,rfl⟩,q⟩
def J1:R2:=λx y H Q=>rI x9 (λi j=>.int (i*j)) x y H Q\/P8 x y H Q\/CU x y H Q
def Gu:gc X (binaryOp .Mult) J1:=Gs.or (Cu.or CW)
def J2:T->T->FR
 |.int i,.int j=>Qy (.int i) (.int j)
 |.lst a,.int k=>Qy (.lst a) (.int k)
 |.str l,.int k=>gd ((0<=k/\k<=100)/\l≠[]/\l.length<=10000) (.str (dM k.toNat l).flatten)
 |_,_=>none
def QX:qO X J2 J1:=λB hB al HF H x y t tx ty Q sm rx ry h k=>by
 cases tx<;>first|(cases h;done)|(cases ty<;>first|(cases h;done)|skip)
 ·obtain⟨c,rfl⟩:=aV h
  exact .inl ⟨_,_,rx,ry,c,k _ HF H (.refl sm) rfl⟩
 ·obtain⟨c,rfl⟩:=aV h
  obtain⟨rfl,_⟩:=rx;refine .inr (.inr ⟨_,_,rfl,ry,c.1,c.2.1,c.2.2,k _ HF H (.refl sm) ⟨rfl,?_⟩⟩);rw[ya]
  have:=BO (show _<=100 from Int.toNat_le.mpr c.1.2) c.2.2
  exact this
 ·obtain⟨c,rfl⟩:=aV h
  obtain⟨l,xs,rfl,q,r⟩:=rx;refine .inr (.inl ⟨l,_,xs,rfl,ry,sm _ _ q,by omega,by omega,by rw[<- r.len,sizeLine_eq];omega,λp hp=>?_⟩)
  exact k _ _ _ (Gr.new sm hp) ⟨p,_,rfl,aj,(r.flat _).same (aZ (sm.free hp))⟩
def c6:Operator->T->T->FR
 |.Add=>Qw
 |.Sub=>Qx
 |.Mult=>J2
 |.FloorDiv=>Qz
 |.Mod=>QA
 |.Pow=>QC
 |_=>λ_ _=>none
def QY(hB:B.K=X.K)(op:Operator)(ha:PE X a (tE B fa))(hb:PE X b (tE B fb)):PE X (.BinOp a op b pos) (tE B (bw (c6 op) fa fb)):=by
 have no:∀f:T->T->FR,(∀x y,f x y=none)->PE X (.BinOp a op b pos) (tE B (bw f fa fb)):=λf hf _ _ _ _ _ _ z=>by
  obtain⟨_,_,_,_,_,h,_⟩:=z;obtain⟨⟨tx,s1⟩,h1,h⟩:=aa h;obtain⟨⟨ty,s2⟩,h2,h⟩:=aa h;obtain⟨t',h3,h⟩:=aa h;rw[hf]at h3;cases h3
 cases op
 case Add=>exact aR (l_ Gq ha hb) (jL hB QP)
 case Sub=>exact aR (l_ Lm ha hb) (jL hB QR)
 case Mult=>exact aR (l_ Gu ha hb) (jL hB QX)
 case FloorDiv=>exact aR (l_ Fi ha hb) (jL hB QT)
 case Mod=>exact aR (l_ Ln ha hb) (jL hB QU)
 case Pow=>exact aR (l_ Lo ha hb) (jL hB QV)
 all_goals exact no _ λ_ _=>rfl
def QZ(hB:B.K=X.K)(ha:PE X a (tE B fa)):PE X (.UnaryOp .USub a pos) (tE B (dN iV fa)):=
 aR (Pq Lp ha) (JX hB λB hB al HF H x t tx Q sm rx h k=>by
  cases tx<;>first|(cases h;done)|skip
  cases h;exact⟨_,rx,k _ HF H (.refl sm) rfl⟩)
end
section
def vR{B:KT}{al:BM}{H:Hp}{t:T}{v:V}(h:Rep B al H t v)(f:bG t=true):(t=.non/\v=.non)\/(∃b,t=.bl b/\v=.bl b)\/(∃i,t=.int i/\v=.int i)\/∃l,t=.str l/\v=.str ⟨l.toArray⟩:=by
 cases t with
 |non=>exact .inl ⟨rfl,h⟩
 |bl b=>exact .inr (.inl ⟨b,rfl,h⟩)
 |int i=>exact .inr (.inr (.inl ⟨i,rfl,h⟩))
 |str l=>exact .inr (.inr (.inr ⟨l,rfl,h.1⟩))
 |_=>cases f
def gD{B:KT}{al:BM}{H:Hp}{t:T}{v:V}(h:Rep B al H t v)(f:bG t=true):eG v=true:=by
 rcases vR h f with⟨_,rfl⟩|⟨_,_,rfl⟩|⟨_,_,rfl⟩|⟨_,_,rfl⟩<;>rfl
def str_beq(l m:B1):((⟨l.toArray⟩:Str) == ⟨m.toArray⟩)=decide (l=m):=by
 by_cases h:l=m
 ·subst h;simp
 ·rw[decide_eq_false h,beq_eq_false_iff_ne]
  intro e;injection e with e
  exact h (by simpa using e)
def qR{B:KT}{al:BM}{H:Hp}{t u:T}{v w:V}(h:Rep B al H t v)(h':Rep B al H u w)(f:bG t=true)(f':bG u=true):EX v w=eqT t u:=by
 rcases vR h f with⟨rfl,rfl⟩|⟨b,rfl,rfl⟩|⟨i,rfl,rfl⟩|⟨l,rfl,rfl⟩<;>rcases vR h' f' with⟨rfl,rfl⟩|⟨c,rfl,rfl⟩|⟨j,rfl,rfl⟩|⟨m,rfl,rfl⟩<;>first|rfl|exact str_beq _ _|exact Bool.beq_eq_decide_eq _ _
def tR{ae:dJ}{σ:St}{H HF:Hp}{s:Shared}{a:Addr}{vs:List V}(I:Inv X ae σ H s)(sm:aM HF H)(h:HF a=some (.lst vs)):∃its:B2,Vals vs its/\s.heap.IsList a its.toArray:=by
 obtain⟨its,r,p,hz⟩:=I.list (cV.of (sm _ _ h));exact⟨its,r,p.isList⟩
theorem tU{p:T->T->Bool}:∀{as bs:FK},all2 p as bs=true->∀{j:Nat}{a b:T},as[j]?=some a->bs[j]?=some b->p a b=true
 |a::as,b::bs,h,0,_,_,e1,e2=>by
  simp at e1 e2;subst e1 e2;exact(xq.mp h).1
 |a::as,b::bs,h,j+1,_,_,e1,e2=>tU (xq.mp h).2 (j:=j) (by simpa using e1) (by simpa using e2)
 |[],_,_,_,_,_,e1,_=>by simp at e1
 |_::_,[],_,_,_,_,_,e2=>by simp at e2
theorem mT:∀(xs ys:FK),((bM (min xs.length ys.length)).all (λj=>eqT (xs.getD j .non) (ys.getD j .non))&&xs.length == ys.length)=jc xs ys
 |[],[]=>rfl
 |[],_::_=>by simp[jc]
 |_::_,[]=>by simp[jc]
 |x::xs,y::ys=>by
  have ih:=mT xs ys;rw[cU,cU,Nat.succ_min_succ,w_,fh,IG];have e:(xs.length+1 == ys.length+1)=(xs.length == ys.length):=by
   by_cases h:xs.length=ys.length<;>simp[h]
  rw[e];show((eqT x y&&(bM (min xs.length ys.length)).all λj=>eqT (xs.getD j .non) (ys.getD j .non))&&_)=(eqT x y&&jc xs ys);rw[<- ih,Bool.and_assoc]
theorem tW:∀{xs ys:FK},xs.length≠ys.length->jc xs ys=false
 |[],[],h=>absurd rfl h
 |[],_::_,_=>rfl
 |_::_,[],_=>rfl
 |x::xs,y::ys,h=>by
  show(eqT x y&&jc xs ys)=false;rw[tW (λe=>h (by simp[e])),BR]
def CY{al:BM}{HF:Hp}{A:Around}{s:Shared}{ts us:FK}{vs ws:List V}{its its':B2}(r:aC B al HF ts vs)(r':aC B al HF us ws)(rv:Vals vs its)(Q0:Vals ws its')(sh:all2 (λa b=>bG a&&bG b) ts us=true)
  (ih:∀{t u:T}{v w:V}{x y:Value},Rep B al HF t v->Rep B al HF u w->RelV v x->RelV w y->(bG t&&bG u)=true->SeqAt.EqAt A s x y (eqT t u)) :
  ∀j(h1:j<its.toArray.size)(h2:j<its'.toArray.size),SeqAt.EqAt A s its.toArray[j] its'.toArray[j] ((λj=>eqT (ts.getD j .non) (us.getD j .non)) j):=by
 intro j h1 h2;have l1:=rv.length;have l2:=Q0.length;have l3:=r.len;have l4:=r'.len;have V5:j<ts.length:=by rw[l3,l1];simpa using h1
 have JR:j<us.length:=by rw[l4,l2];simpa using h2
 obtain⟨v,e1,q1⟩:=r.get (cX V5);obtain⟨w,e2,q2⟩:=r'.get (cX JR);obtain⟨x,e3,q3⟩:=rv.get e1;obtain⟨y,e4,q4⟩:=Q0.get e2;have q5:its.toArray[j]=x:=by
  obtain⟨_,z⟩:=bD.mp e3;simpa using z
 have q6:its'.toArray[j]=y:=by
  obtain⟨_,z⟩:=bD.mp e4;simpa using z
 rw[q5,q6];have g1:ts.getD j .non=ts[j]:=by rw[gq,cX V5];rfl
 have g2:us.getD j .non=us[j]:=by rw[gq,cX JR];rfl
 show SeqAt.EqAt A s x y (eqT (ts.getD j .non) (us.getD j .non));rw[g1,g2];exact ih q1 q2 q3 q4 (tU sh (cX V5) (cX JR))
open PySem.SeqAt in
def Gv{al:BM}{HF:Hp}{A:Around}{s:Shared}{t u:T}{v w:V}{x y:Value}(rt:Rep B al HF t v)(ru:Rep B al HF u w)(rx:RelV v x)(ry:RelV w y)(f1:bG t=true)(f2:bG u=true):RcAt A s x y (eqT t u)/\RcNeAt A s x y (!eqT t u):=by
 rw[<- qR rt ru f1 f2];have g1:=gD rt f1;have g2:=gD ru f2;cases v with
 |non=>
  cases rx;cases w with
  |non=>cases ry;exact⟨RcAt.none_none,RcNeAt.none_none⟩
  |bl b=>cases ry;exact⟨RcAt.none_bool b,RcNeAt.none_bool b⟩
  |int b=>obtain⟨t,rfl⟩:=ry;exact⟨RcAt.none_int b t,RcNeAt.none_int b t⟩
  |str b=>obtain⟨t,rfl⟩:=ry;exact⟨RcAt.none_str b t,RcNeAt.none_str b t⟩
  |_=>exact absurd (show false=true from g2) dP
 |bl a=>
  cases rx;cases w with
  |non=>cases ry;exact⟨RcAt.bool_none a,RcNeAt.bool_none a⟩
  |bl b=>cases ry;exact⟨RcAt.bool_bool a b,RcNeAt.bool_bool a b⟩
  |int b=>obtain⟨t,rfl⟩:=ry;exact⟨RcAt.bool_int a b t,RcNeAt.bool_int a b t⟩
  |str b=>obtain⟨t,rfl⟩:=ry;exact⟨RcAt.bool_str a b t,RcNeAt.bool_str a b t⟩
  |_=>exact absurd (show false=true from g2) dP
 |int a=>
  obtain⟨t',rfl⟩:=rx;cases w with
  |non=>cases ry;exact⟨RcAt.int_none a t',RcNeAt.int_none a t'⟩
  |bl b=>cases ry;exact⟨RcAt.int_bool a t' b,RcNeAt.int_bool a t' b⟩
  |int b=>obtain⟨t,rfl⟩:=ry;exact⟨RcAt.int_int a t' b t,RcNeAt.int_int a t' b t⟩
  |str b=>obtain⟨t,rfl⟩:=ry;exact⟨RcAt.int_str a t' b t,RcNeAt.int_str a t' b t⟩
  |_=>exact absurd (show false=true from g2) dP
 |str a=>
  obtain⟨t',rfl⟩:=rx;cases w with
  |non=>cases ry;exact⟨RcAt.str_none a t',RcNeAt.str_none a t'⟩
  |bl b=>cases ry;exact⟨RcAt.str_bool a t' b,RcNeAt.str_bool a t' b⟩
  |int b=>obtain⟨t,rfl⟩:=ry;exact⟨RcAt.str_int a t' b t,RcNeAt.str_int a t' b t⟩
  |str b=>obtain⟨t,rfl⟩:=ry;exact⟨RcAt.str_str a t' b t,RcNeAt.str_str a t' b t⟩
  |_=>exact absurd (show false=true from g2) dP
 |_=>exact absurd (show false=true from g1) dP
def CZ{al:BM}(hB:B.K=X.K){ae:dJ}{σ:St}{H HF:Hp}{s:Shared}(I:Inv X ae σ H s)(sm:aM HF H)(A:Around){t u:T}{v w:V}{x y:Value}(hu:A.units+6<cLine)(rt:Rep B al HF t v)(ru:Rep B al HF u w)(rx:RelV v x)(ry:RelV w y)(sh:shape 5 t u=true) :
  SeqAt.RcAt A s x y (eqT t u)/\SeqAt.RcNeAt A s x y (!eqT t u):=by
 have flat:(bG t&&bG u)=true->SeqAt.RcAt A s x y (eqT t u)/\SeqAt.RcNeAt A s x y (!eqT t u):=λsh=>by
  obtain⟨f1,f2⟩:=xq.mp sh;exact Gv rt ru rx ry f1 f2
 have UC:A.units<cLine:=by omega
 have dp:=λ{t u:T} {v w:V} {x y:Value} (a:Rep B al HF t v) (b:Rep B al HF u w) (c:RelV v x) (d:RelV w y) (e:(bG t&&bG u)=true)=>show SeqAt.EqAt A.in1 s x y (eqT t u)from by
  obtain⟨f1,f2⟩:=xq.mp e;rw[<- qR a b f1 f2];exact Cp c d (gD a f1) (gD b f2)
 cases t with
 |lst ts=>
  cases u with
  |lst us=>
   obtain⟨a,vs,rfl,q,r⟩:=id rt;obtain⟨b,ws,rfl,q',r'⟩:=id ru;cases rx;cases ry;obtain⟨its,rv,ht⟩:=tR I sm q;obtain⟨its',Q0,UD⟩:=tR I sm q';have l1:=rv.length;have l2:=Q0.length;have l3:=r.len;have l4:=r'.len;by_cases hsz:ts.length=us.length
   ·have it:=CY (A:=A.in1) (s:=s) r r' rv Q0 sh dp
    have hs:its.toArray.size=its'.toArray.size:=by rw[ck,ck];omega
    have z:=SeqAt.RcAt.lists ht UD hs UC it;have z2:=SeqAt.RcNeAt.lists ht UD hs UC it;have e:=mT ts us;rw[<- hsz,Nat.min_self,beq_self_eq_true,BS]at e;rw[ck,<- l1,<- l3,e]at z z2;exact⟨z,z2⟩
   ·have hs:(its.toArray.size != its'.toArray.size)=true:=by rw[ck,ck,bne_iff_ne];omega
    have z:=SeqAt.RcAt.lists_lengths (s:=s) (A:=A) ht UD hs UC;have z2:=SeqAt.RcNeAt.lists_lengths (s:=s) (A:=A) ht UD hs UC;have e:eqT (.lst ts) (.lst us)=false:=tW hsz;rw[e];exact⟨z,z2⟩
  |_=>exact flat sh
 |_=>exact flat (by cases u<;>exact sh)
def Me(hu:X.A.units+6<cLine):gc X (compareOp .Eq) (λx y H Q=>∃B al HF t u,B.K=X.K/\aM HF H/\Rep B al HF t x/\Rep B al HF u y/\shape 5 t u=true/\Q (.bl (eqT t u)) H):=by
 intro ae s σ H x y v u Q I rx ry h;obtain⟨B,al,HF,t,u',hB,sm,rt,ru,sh,q⟩:=h;exact(CZ hB I sm X.A hu rt ru rx ry sh).1 _ _ _ _ (ir I q rfl)
def Mf(hu:X.A.units+6<cLine):gc X (compareOp .NotEq) (λx y H Q=>∃B al HF t u,B.K=X.K/\aM HF H/\Rep B al HF t x/\Rep B al HF u y/\shape 5 t u=true/\Q (.bl (!eqT t u)) H):=by
 intro ae s σ H x y v u Q I rx ry h;obtain⟨B,al,HF,t,u',hB,sm,rt,ru,sh,q⟩:=h;exact(CZ hB I sm X.A hu rt ru rx ry sh).2 _ _ _ _ (ir I q rfl)
def C0:gc X (compareOp .Is) (λx y H Q=>∃a b,x=.bl a/\y=.bl b/\Q (.bl (a == b)) H):=by
 intro ae s σ H x y v u Q I rx ry h;obtain⟨a,b,rfl,rfl,q⟩:=h;cases rx;cases ry;exact PyProof.Rows.is_bool (ir I q rfl)
theorem tX{B:KT}{al:BM}{H:Hp}:∀{ts:FK}{vs:List V},aC B al H ts vs->ts.all bG=true->vs.all eG=true
 |[],_,h,_=>by cases(show _=[]from h);rfl
 |t::ts,_,h,f=>by
  obtain⟨v,r,rfl,h1,h2⟩:=h;rw[fh,dq]at f;rw[fh,gD h1 f.1,tX h2 f.2];rfl
theorem any_eq{B:KT}{al:BM}{H:Hp}{x:T}{xv:V}(hx:Rep B al H x xv)(fx:bG x=true):∀{ts:FK}{vs:List V},aC B al H ts vs->ts.all bG=true->(vs.any λy=>EX y xv)=ts.any λy=>eqT y x
 |[],_,h,_=>by cases(show _=[]from h);rfl
 |t::ts,_,h,f=>by
  obtain⟨v,r,rfl,h1,h2⟩:=h;rw[fh,dq]at f;rw[qo,qo,qR h1 hx f.1 fx,any_eq hx fx h2 f.2]
def vS{α:Type}(xs:List α)(i:Int):atT xs i=Co xs i:=by
 unfold atT Co FF;by_cases h0:0<=i
 ·rw[if_pos h0,if_pos h0]
  by_cases h1:i<xs.length
  ·rw[if_pos h1,if_pos h1];rfl
  ·rw[if_neg h1,if_neg h1];rfl
 ·rw[if_neg h0,if_neg h0]
  by_cases h1:-(xs.length:Int)<=i
  ·rw[if_pos h1,if_pos h1];rfl
  ·rw[if_neg h1,if_neg h1];rfl
def qS{B:KT}{al:BM}{H:Hp}{ts:FK}{vs:List V}{i:Int}{t:T}(r:aC B al H ts vs)(h:atT ts i=some t):∃v,Co vs i=some v/\Rep B al H t v:=by
 rw[vS]at h;unfold Co at h ⊢;rw[<- r.len];cases e:FF ts.length i with
 |none=>rw[e]at h;cases h
 |some j=>
  rw[e]at h;exact r.get h
end
section
variable{p2:Pos}{OM ON:FO}{OO OP:Option Expr}
def Mg:T->Bool
 |.non=>true
 |_=>false
def C1{al:BM}{H:Hp}{t:T}{v:V}(h:Rep B al H t v):decide (v=.non)=Mg t:=by
 cases t with
 |non=>cases(show v=.non from h);rfl
 |bl b=>cases(show v=.bl b from h);rfl
 |int i=>cases(show v=.int i from h);rfl
 |str l=>obtain⟨rfl,_⟩:=h;rfl
 |tup ts=>obtain⟨a,vs,rfl,_⟩:=h;rfl
 |lst ts=>obtain⟨a,vs,rfl,_⟩:=h;rfl
 |scr ts=>obtain⟨a,rfl,_⟩:=h;rfl
 |obj _ _=>obtain⟨a,_,_,_,_,rfl,_⟩:=h;rfl
 |own _=>obtain⟨a,rfl,_⟩:=h;rfl
 |hU _ _=>obtain⟨a,xs,rfl,_⟩:=h;rfl
def Ú:R2:=λx y H Q=>(y=.non/\Q (.bl (decide (x=.non))) H)\/∃a b,x=.bl a/\y=.bl b/\Q (.bl (a == b)) H
def V6:R2:=λx y H Q=>(y=.non/\Q (.bl (!decide (x=.non))) H)\/∃a b,x=.bl a/\y=.bl b/\Q (.bl (a != b)) H
def Gw{tx ty t:T}(h:VY tx ty=some t):(ty=.non/\t=.bl (Mg tx))\/∃a b,tx=.bl a/\ty=.bl b/\t=.bl (a == b):=by
 cases tx<;>cases ty<;>first|(cases h;done)|(cases h;exact .inl ⟨rfl,rfl⟩)|(cases h;exact .inr ⟨_,_,rfl,rfl,rfl⟩)
def C2{tx ty t:T}(h:LY tx ty=some t):(ty=.non/\t=.bl (!Mg tx))\/∃a b,tx=.bl a/\ty=.bl b/\t=.bl (a != b):=by
 cases tx<;>cases ty<;>first|(cases h;done)|(cases h;exact .inl ⟨rfl,rfl⟩)|(cases h;exact .inr ⟨_,_,rfl,rfl,rfl⟩)
def V7:qO X VY Ú:=λB hB al HF H x y t tx ty Q sm rx ry h k=>by
 rcases Gw h with⟨rfl,rfl⟩|⟨a,b,rfl,rfl,rfl⟩
 ·exact .inl ⟨ry,by rw[C1 rx];exact k _ HF H (.refl sm) rfl⟩
 ·exact .inr ⟨a,b,rx,ry,k _ HF H (.refl sm) rfl⟩
def Q2:qO X LY V6:=λB hB al HF H x y t tx ty Q sm rx ry h k=>by
 rcases C2 h with⟨rfl,rfl⟩|⟨a,b,rfl,rfl,rfl⟩
 ·exact .inl ⟨ry,by rw[C1 rx];exact k _ HF H (.refl sm) rfl⟩
 ·exact .inr ⟨a,b,rx,ry,k _ HF H (.refl sm) rfl⟩
def C3(K:bz)(neg:Bool):R2:=λx y H Q=>(∃i j,x=.str i/\y=.str j/\Q (.bl (if neg then(!(!(Builtin.Str.occurrences j i 0 j.length 1).isEmpty))else(!(Builtin.Str.occurrences j i 0 j.length 1).isEmpty))) H)\/Uq K neg x y H Q
def Mh:gc X (compareOp .In) (C3 X.K false):=zV.or z6
def Gx:gc X (compareOp .NotIn) (C3 X.K true):=qD.or qJ
def Gy{tx ty:T}{k:Bool}(h:OJ tx ty=some k):(∃x l,tx=.str x/\ty=.str l/\k=Gg x l)\/((∃ys,(ty=.tup ys\/ty=.lst ys)/\(bG tx=true/\ys.all bG=true)/\k=ys.any λy=>eqT y tx)):=by
 cases ty with
 |str l=>
  cases tx with
  |str m=>cases h;exact .inl ⟨m,l,rfl,rfl,rfl⟩
  |_=>cases h
 |tup ys=>
  have h:gd (bG tx=true/\ys.all bG=true) (ys.any λy=>eqT y tx)=some k:=by cases tx<;>exact h
  obtain⟨c,rfl⟩:=aV h;exact .inr ⟨ys,.inl rfl,c,rfl⟩
 |lst ys=>
  have h:gd (bG tx=true/\ys.all bG=true) (ys.any λy=>eqT y tx)=some k:=by cases tx<;>exact h
  obtain⟨c,rfl⟩:=aV h;exact .inr ⟨ys,.inr rfl,c,rfl⟩
 |_=>cases tx<;>cases h
def yb(x l:B1):(!(Builtin.Str.occurrences (⟨l.toArray⟩:Str) ⟨x.toArray⟩ 0 (⟨l.toArray⟩:Str).length 1).isEmpty)=(bM (l.length+1)).any λi=>decide (i+x.length<=l.length)&&((l.drop i).take x.length == x):=by
 rw[xr,StrLaws.found_iff,Bu];constructor
 ·rintro⟨i,h1,h2⟩
  rw[StrLaws.subAt_eq,eL]at h2;rw[eL,eL]at h1;exact⟨i,ig.mpr (by omega),by rw[decide_eq_true h1,xu];exact h2⟩
 ·rintro⟨i,_,h⟩
  rw[dq,decide_eq_true_iff]at h;exact⟨i,by rw[eL,eL];exact h.1,by rw[StrLaws.subAt_eq,eL];exact h.2⟩
def Gz(x l:B1):(!(Builtin.Str.occurrences (⟨l.toArray⟩:Str) ⟨x.toArray⟩ 0 (⟨l.toArray⟩:Str).length 1).isEmpty)=Gg x l:=by
 match x with
 |[]=>exact yb ..
 |[c]=>exact StrLaws.found_one ..
 |_::_::_=>exact yb ..
def J3{neg:Bool}{B:KT}(hB:B.K=X.K){al:BM}{HF H:Hp}{x y:V}{tx ty:T}{k:Bool}{Q:VK}(sm:aM HF H)(rx:Rep B al HF tx x)(ry:Rep B al HF ty y)(h:OJ tx ty=some k)(q:Q (.bl (if neg then !k else k)) H):C3 X.K neg x y H Q:=by
 rcases Gy h with⟨x,l,rfl,rfl,rfl⟩|⟨ys,hy,⟨f1,f2⟩,rfl⟩
 ·obtain⟨rfl,_⟩:=rx
  obtain⟨rfl,_⟩:=ry;refine .inl ⟨_,_,rfl,rfl,?_⟩;rw[Gz];exact q
 ·right
  have main:∀a vs,y=.ref a->(cV X.K H a vs\/lh X.K H a vs)->aC B al HF ys vs->Uq X.K neg x y H Q:=λa vs ey sq r=>by
   refine⟨a,vs,ey,sq,gD rx f1,tX r f2,?_⟩;unfold Vv;rw[any_eq rx f1 r f2];exact q
  rcases hy with rfl|rfl
  ·obtain⟨a,vs,rfl,q1,r⟩:=ry
   exact main a vs rfl (.inr (hB▸cZ sm q1)) r
  ·obtain⟨a,vs,rfl,q1,r⟩:=ry
   exact main a vs rfl (.inl (cV.of (sm _ _ q1))) r
def V8:qO X inD (C3 X.K false):=λB hB al HF H x y t tx ty Q sm rx ry h k=>by
 unfold inD at h;cases e:OJ tx ty with
 |none=>rw[e]at h;cases h
 |some d=>rw[e]at h;cases h;exact J3 hB sm rx ry e (k _ HF H (.refl sm) rfl)
def Q3:qO X LZ (C3 X.K true):=λB hB al HF H x y t tx ty Q sm rx ry h k=>by
 unfold LZ at h;cases e:OJ tx ty with
 |none=>rw[e]at h;cases h
 |some d=>rw[e]at h;cases h;exact J3 hB sm rx ry e (k _ HF H (.refl sm) rfl)
def Q4(X:Cx)(neg:Bool):R2:=λx y H Q=>∃B al HF t u,B.K=X.K/\aM HF H/\Rep B al HF t x/\Rep B al HF u y/\shape 5 t u=true/\Q (.bl (if neg then !eqT t u else eqT t u)) H
def V9:qO X Yj (Q4 X false):=λB hB al HF H x y t tx ty Q sm rx ry h k=>by
 obtain⟨c,rfl⟩:=aV h;exact⟨B,al,HF,tx,ty,hB,sm,rx,ry,c,k _ HF H (.refl sm) rfl⟩
def V_:qO X Yk (Q4 X true):=λB hB al HF H x y t tx ty Q sm rx ry h k=>by
 obtain⟨c,rfl⟩:=aV h;exact⟨B,al,HF,tx,ty,hB,sm,rx,ry,c,k _ HF H (.refl sm) rfl⟩
def yc(f:Int->Int->Bool):qO X (CI f) (AZ λi j=>.bl (f i j)):=QQ (G:=λi j=>.bl (f i j)) (λtx ty t h=>by
 cases tx<;>first | (cases h;done) | (cases ty<;>first | (cases h;done) | (cases h;exact⟨_,_,rfl,rfl,rfl⟩))) λ_ _ _ _ _=>rfl
def Q5:CmpOp->T->T->FR
 |.Eq=>Yj
 |.NotEq=>Yk
 |.Lt=>CI λi j=>decide (i<j)
 |.LtE=>CI λi j=>decide (i<=j)
 |.Gt=>CI λi j=>decide (j<i)
 |.GtE=>CI λi j=>decide (j<=i)
 |.Is=>VY
 |.IsNot=>LY
 |.In=>inD
 |.NotIn=>LZ
def Mi{op:CmpOp}{k:Nat}(hr:b8 k X.A):∃r,gc X (compareOp op) r/\qO X (Q5 op) r:=by
 have hu:X.A.units+6<cLine:=by have:=hr.units;omega
 cases op
 case Eq=>exact⟨_,Me hu,V9⟩
 case NotEq=>exact⟨_,Mf hu,V_⟩
 case Lt=>exact⟨_,Py,yc _⟩
 case LtE=>exact⟨_,Pz,yc _⟩
 case Gt=>exact⟨_,PB,yc _⟩
 case GtE=>exact⟨_,PD,yc _⟩
 case Is=>exact⟨_,Lq.or C0,V7⟩
 case IsNot=>exact⟨_,Fj.or s_,Q2⟩
 case In=>exact⟨_,Mh,V8⟩
 case NotIn=>exact⟨_,Gx,Q3⟩
def bW(a:FE):FT:=λs=>(a s).bind λp=>(aX (OL p.1)).bind λb=>.ok (b,p.2)
def J4{f:FE}{σ:St}{H:Hp}{Q:Bool->Hp->Prop}(h:tT B (bW f) σ H Q):tE B f σ H (λx H'=>∃k,x=.bl k/\Q k H'):=by
 obtain⟨g,s,t,s',x,h,k⟩:=h;obtain⟨⟨d,s1⟩,h1,h⟩:=aa h;obtain⟨d',h2,h⟩:=aa h;cases qQ (ai h2);cases h;exact⟨g,s,_,s1,x,h1,λv g1 H1 p1 x1 r1=>⟨_,r1,k g1 H1 p1 x1⟩⟩
def gi:T->T->FR
 |.hU _ _,_=>none
 |x,y=>xU x y
def C4{tx ty t:T}(h:gi tx ty=some t):∃i,ty=.int i/\((∃xs,(tx=.lst xs\/tx=.tup xs)/\atT xs i=some t)\/(∃l c,tx=.str l/\atT l i=some c/\t=.str [c])\/∃ns n,tx=.scr ns/\atT ns i=some n/\t=.int n):=by
 cases tx<;>first|(cases h;done)|(cases ty<;>first|(cases h;done)|skip)
 ·rename_i l i
  have h:(atT l i).map (λc=>T.str [c])=some t:=h;cases e:atT l i with
  |none=>rw[e]at h;cases h
  |some c=>rw[e]at h;cases h;exact⟨i,rfl,.inr (.inl ⟨l,c,rfl,e,rfl⟩)⟩
 ·exact⟨_,rfl,.inl ⟨_,.inr rfl,h⟩⟩
 ·exact⟨_,rfl,.inl ⟨_,.inl rfl,h⟩⟩
 ·rename_i l i
  have h:(atT l i).map T.int=some t:=h;cases e:atT l i with
  |none=>rw[e]at h;cases h
  |some c=>rw[e]at h;cases h;exact⟨i,rfl,.inr (.inr ⟨l,c,rfl,e,rfl⟩)⟩
def Mj{α β:Type}(f:α->β){l:List α}{i:Int}{c:α}(h:atT l i=some c):Co (l.map f) i=some (f c):=by
 rw[vS]at h;unfold Co at h ⊢;rw[bK];cases e:FF l.length i with
 |none=>rw[e]at h;cases h
 |some j=>
  rw[e]at h;show(Bk f _)[j]?=_;rw[fJ,show _[j]?=some c from h];rfl
def Wa:qO X gi (XT X.K):=λB hB al HF H x y t tx ty Q sm rx ry h k=>by
 obtain⟨i,rfl,⟨xs,hx|hx,e⟩|⟨l,c,rfl,e,rfl⟩|⟨ns,n,rfl,e,rfl⟩⟩:=C4 h
 ·subst hx
  obtain⟨p,vs,rfl,q,r⟩:=rx;obtain⟨v,e,rv⟩:=qS r e;exact .inl ⟨p,vs,_,v,rfl,ry,cV.of (sm _ _ q),e,k v HF H (.refl sm) rv⟩
 ·subst hx
  obtain⟨p,vs,rfl,q,r⟩:=rx;obtain⟨v,e,rv⟩:=qS r e;exact .inr (.inl ⟨p,vs,_,v,rfl,ry,hB▸cZ sm q,e,k v HF H (.refl sm) rv⟩)
 ·obtain⟨rfl,hz⟩:=rx
  refine .inr (.inr ⟨_,_,c,rfl,ry,V4 hz,?_,k _ HF H (.refl sm) ⟨rfl,by simp⟩⟩)
  rw[<- vS];exact e
 ·obtain⟨p,rfl,q⟩:=rx
  exact .inl ⟨p,_,_,.int n,rfl,ry,hB▸sm.seq q,Mj V.int e,k _ HF H (.refl sm) rfl⟩
def Ml(hB:B.K=X.K)(ha:PE X a (tE B fa))(hb:PE X b (tE B fb))(hs:iM b):PE X (.Subscript a b pos) (tE B (bw gi fa fb)):=aR (JN Lz ha hb hs) (jL hB Wa)
end
end D
namespace L2
open PySem PySem.Spec PyProof.Rows
section
variable{X:Cx}
theorem pW:∀(ls:Bi)(t:Nat),Vals (ls.map V.str) (strsFrom t ls)
 |[],_=>.nil
 |x::ls,t=>.cons ⟨_,rfl⟩ (pW ls (t+1))
def tY:vH X "str.split" (λx vs H Q=>∃a b,x=.str a/\vs=[.str b]/\(b.length == 0)=false/\a.length<=sizeLine/\(Txt.split a b).length<=sizeLine/\∀l,H l=none->Q (.ref l) (upd H l (.lst ((Txt.split a b).map V.str)))):=by
 intro ae s σ H x vs v us Q I rx rv h;obtain⟨a,b,rfl,rfl,hb,ha,hz,q⟩:=h;obtain⟨t,rfl⟩:=rx;obtain⟨u,rfl,⟨t',rfl⟩⟩:=rv.one;unfold Txt.split at hz q;by_cases c1:(decide (a.length<b.length) ||decide (Builtin.Str.strKind a<Builtin.Str.strKind b))=true
 ·rw[if_pos c1]at hz q
  refine call_meets F.slot_str_split (typeIs_str s a t) F.entry_str_split (F.args_str_split_2 _ _) (meets_str_split_cannot_occur a b t t' c1) ?_;exact⟨.ref s.heap.objs.size,_,I.z7 (t':=s.toks) (ys:=[V.str a]) (.cons ⟨_,rfl⟩ .nil) hz,rfl,q _ I.fresh⟩
 ·rw[if_neg c1]at hz q
  have Yn:(decide (a.length<b.length) ||decide (Builtin.Str.strKind a<Builtin.Str.strKind b))=false:=by
   rcases Jr (decide (a.length<b.length) ||decide (Builtin.Str.strKind a<Builtin.Str.strKind b))with z|z
   ·exact absurd z c1
   ·exact z
  by_cases c2:(Builtin.Str.occurrences a b 0 a.length (a.length+1)).isEmpty=true
  ·rw[if_pos c2]at hz q
   refine call_meets F.slot_str_split (typeIs_str s a t) F.entry_str_split (F.args_str_split_2 _ _) (meets_str_split_not_found a b t t' Yn hb c2) ?_;exact⟨.ref s.heap.objs.size,_,I.z7 (t':=s.toks) (ys:=[V.str a]) (.cons ⟨_,rfl⟩ .nil) hz,rfl,q _ I.fresh⟩
  ·rw[if_neg c2]at hz q
   have Û:(Builtin.Str.occurrences a b 0 a.length (a.length+1)).isEmpty=false:=by
    rcases Jr (Builtin.Str.occurrences a b 0 a.length (a.length+1)).isEmpty with z|z
    ·exact absurd z c2
    ·exact z
   refine call_meets F.slot_str_split (typeIs_str s a t) F.entry_str_split (F.args_str_split_2 _ _) (meets_str_split_sep a b t t' Yn hb Û ha hz) ?_;exact⟨.ref s.heap.objs.size,_,I.z7 (pW _ _) (by rw[bK];exact hz),rfl,q _ I.fresh⟩
end
section
variable{X:Cx}
def C5:vH X "str.find" (λx vs H Q=>∃a b,x=.str a/\vs=[.str b]/\Q (.int (Txt.find a b)) H):=by
 intro ae s σ H x vs v us Q I rx rv h;obtain⟨a,b,rfl,rfl,q⟩:=h;obtain⟨t,rfl⟩:=rx;obtain⟨u,rfl,⟨t',rfl⟩⟩:=rv.one;exact SC.find ⟨.int _,H,I.tok _,⟨_,rfl⟩,q⟩
end
end L2
namespace D
open PySem L2
variable{X:Cx}{env:Env}{a b c e o tg:Expr}{fa fb fc fo:FE}{fl:FL}{g g':G}{H H':Hp}{B:KT}{es:Bz}{bF cC p pos:Pos}{s s':S}{σ:St}{x y:Str}
section
variable{p2:Pos}{OM ON:FO}{OO OP:Option Expr}
def C6(lo hi:D2)(n:Nat):Builtin.Str.strSliceIndices lo hi 1 n=Builtin.Str.strSliceIndices (some ((D.gz n 0 lo:Nat):Int)) (some ((D.gz n n hi:Nat):Int)) 1 n:=by
 have c:∀v:Int,max 0 (min (if v<0 then v+(n:Int)else v) (n:Int))=((if v<0 then(v+(n:Int)).toNat else min v.toNat n:Nat):Int):=λv=>by
  by_cases hv:v<0
  ·rw[if_pos hv,if_pos hv];omega
  ·rw[if_neg hv,if_neg hv];omega
 have d:∀m:Nat,m<=n->max 0 (min (if((m:Nat):Int)<0 then((m:Nat):Int)+(n:Int)else((m:Nat):Int)) (n:Int))=((m:Nat):Int):=λm hm=>by
  rw[if_neg (by omega)];omega
 have l1:D.gz n 0 lo<=n:=by
  cases lo with
  |none=>exact jz _
  |some v=>show(if v<0 then(v+(n:Int)).toNat else min v.toNat n)<=n;split<;>omega
 have l2:D.gz n n hi<=n:=by
  cases hi with
  |none=>exact c_ _
  |some v=>show(if v<0 then(v+(n:Int)).toNat else min v.toNat n)<=n;split<;>omega
 unfold Builtin.Str.strSliceIndices;simp only[show((1:Int) > 0)from by decide,if_true]
 rw[d _ l1,d _ l2]
 congr 1
 ·cases lo with
  |none=>rfl
  |some v=>exact c v
 ·cases hi with
  |none=>rfl
  |some v=>exact c v
def C7(n d:Nat)(hd:d<=n)(o:D2):D.gz n d o<=n:=by
 cases o with
 |none=>exact hd
 |some v=>show(if v<0 then(v+(n:Int)).toNat else min v.toNat n)<=n;split<;>omega
def cut_str(l:B1)(lo hi:D2):Txt.slice ⟨l.toArray⟩ lo hi=⟨(bu l lo hi).toArray⟩:=by
 have e0:Txt.slice ⟨l.toArray⟩ lo hi=StrLaws.sliceText ⟨l.toArray⟩ lo hi:=rfl;have e1:StrLaws.sliceText ⟨l.toArray⟩ lo hi=StrLaws.sliceText ⟨l.toArray⟩ (some ((D.gz l.length 0 lo:Nat):Int)) (some ((D.gz l.length l.length hi:Nat):Int)):=by
  unfold StrLaws.sliceText;rw[eL,C6]
 rw[e0,e1];have h2:=C7 l.length l.length (c_ _) hi;by_cases hab:D.gz l.length 0 lo<=D.gz l.length l.length hi
 ·rw[StrLaws.sliceText_nat _ hab (by rw[eL];exact h2)]
  rfl
 ·have h1:=C7 l.length 0 (jz _) lo
  have e3:bu l lo hi=[]:=by
   unfold bu;rw[show D.gz l.length l.length hi-D.gz l.length 0 lo=0 by omega,List.take_zero]
  rw[e3];have e4:Builtin.Str.strSliceIndices (some ((D.gz l.length 0 lo:Nat):Int)) (some ((D.gz l.length l.length hi:Nat):Int)) 1 l.length=[]:=by
   have d:∀m:Nat,m<=l.length->max 0 (min (if((m:Nat):Int)<0 then((m:Nat):Int)+(l.length:Int)else((m:Nat):Int)) (l.length:Int))=((m:Nat):Int):=λm hm=>by
    rw[if_neg (by omega)];omega
   unfold Builtin.Str.strSliceIndices;simp only[show((1:Int) > 0)from by decide,if_true]
   rw[d _ h1,d _ h2];simp only[sliceRange];rw[if_pos (by decide),if_neg (by omega)]
   rfl
  unfold StrLaws.sliceText;rw[eL,e4];rw[if_neg (by simp;omega)]
  rfl
def C8{α:Type}(l:List α)(lo hi:D2):(bu l lo hi).length<=l.length:=by
 unfold bu;rw[lT,iR];omega
def qT(xs:List V)(lo hi:D2):z5 xs lo hi=bu xs lo hi:=by
 have e:∀(n d:Nat)(o:D2),HT.gz n d o=D.gz n d o:=λn d o=>by cases o<;>rfl
 unfold z5 bu;rw[e,e]
def aC.cut{B:KT}{al:BM}{H:Hp}{ts:FK}{vs:List V}(r:aC B al H ts vs)(lo hi:D2):aC B al H (bu ts lo hi) (bu vs lo hi):=by
 unfold bu;rw[r.len];exact(r.drop _).take _
def qU{α β:Type}(f:α->β)(l:List α)(lo hi:D2):(bu l lo hi).map f=bu (l.map f) lo hi:=by
 unfold bu;rw[bK,qr,zJ]
theorem tZ{B:KT}{al:BM}{H:Hp}:∀{ts:FK}{vs:List V}{ls:Ap},aC B al H ts vs->strsOf ts=some ls->vs=(ls.map λl=>(⟨l.toArray⟩:Str)).map V.str
 |[],_,_,h,e=>by cases(show _=[]from h);cases e;rfl
 |t::ts,_,ls,h,e=>by
  obtain⟨v,r,rfl,h1,h2⟩:=h;cases t<;>first|(cases e;done)|skip
  rename_i l;have e:(strsOf ts).map (l::·)=some ls:=e
  cases e':strsOf ts with
  |none=>rw[e']at e;cases e
  |some ms=>
   rw[e']at e;cases e;obtain⟨rfl,_⟩:=h1;rw[tZ h2 e'];rfl
theorem join_eq(sep:B1):∀ls:Ap,Str.join ⟨sep.toArray⟩ (ls.map λl=>(⟨l.toArray⟩:Str))=⟨(dQ sep ls).toArray⟩
 |[]=>rfl
 |[c]=>rfl
 |c::d::r=>by
  have ih:=join_eq sep (d::r);show(⟨c.toArray⟩:Str)++⟨sep.toArray⟩++Str.join ⟨sep.toArray⟩ ((d::r).map λl=>(⟨l.toArray⟩:Str))=⟨(c++sep++dQ sep (d::r)).toArray⟩;rw[ih,Mc,Mc]
theorem pX(sep:B1):∀ls:Ap,(dQ sep ls).length<=(ls.map (·.length)).sum+ls.length*sep.length
 |[]=>by simp[dQ]
 |[c]=>by simp[dQ]
 |c::d::r=>by
  have ih:=pX sep (d::r);show(c++sep++dQ sep (d::r)).length<=_;rw[b9,b9,dO,List.sum_cons,cU,Jh];omega
def C9(ls:Ap):((ls.map λl=>(⟨l.toArray⟩:Str)).map (·.length))=ls.map (·.length):=by
 rw[du];apply oz;intro l _;exact eL l
def Mm(l s:B1):Txt.startswith ⟨l.toArray⟩ ⟨s.toArray⟩=pre s l:=by
 unfold Txt.startswith pre;rw[StrLaws.subAt_eq];show(decide (0+(⟨s.toArray⟩:Str).length<=l.toArray.size)&&((l.drop 0).take (⟨s.toArray⟩:Str).length == s))=_;rw[eL,ck,BP,Bl]
def Mn(l s:B1):Txt.endswith ⟨l.toArray⟩ ⟨s.toArray⟩=L4 s l:=by
 unfold Txt.endswith L4;rw[StrLaws.subAt_eq,eL,eL];show(decide (0+s.length<=l.length)&&((l.drop (l.length-s.length)).take s.length == s))=_;rw[BP];by_cases h:s.length<=l.length
 ·rw[decide_eq_true h,xu,xu]
  rw[Bm (by rw[iR];omega)]
 ·rw[decide_eq_false h,BQ,BQ]
theorem kB{B:KT}{al:BM}{H:Hp}:∀{ts:FK}{vs:List V}{ks:Fh},aC B al H ts vs->boolsOf ts=some ks->vs=ks.map V.bl
 |[],_,_,h,e=>by cases(show _=[]from h);cases e;rfl
 |t::ts,_,ls,h,e=>by
  obtain⟨v,r,rfl,h1,h2⟩:=h;cases t<;>first|(cases e;done)|skip
  rename_i l;have e:(boolsOf ts).map (l::·)=some ls:=e
  cases e':boolsOf ts with
  |none=>rw[e']at e;cases e
  |some ms=>
   rw[e']at e;cases e;cases(show v=.bl l from h1);rw[kB h2 e'];rfl
def t_(tn T:String):Option Bool:=if(Value.type tn == Value.type T)=true then some true else if PySem.W.kitMeta T=true then(fastBuiltinMro tn).map (·.contains (Value.type T))else none
def kC(K:bz){tn T:String}{b:Bool}(h:t_ tn T=some b):sd K (.type tn) (.type T)=some b:=h
structure jg(T:String):Prop where
 non:t_ "NoneType" T=some false
 bl:t_ "bool" T=some (T == "bool" ||T == "int")
 int:t_ "int" T=some (T == "int")
 str:t_ "str" T=some (T == "str")
 tup:t_ "tuple" T=some (T == "tuple")
 lst:t_ "list" T=some (T == "list")
 dic:t_ "dict" T=some (T == "dict")
def Mp:jg "int" := by constructor<;>decide +kernel
def GA:jg "bool" := by constructor<;>decide +kernel
def Mq:jg "str" := by constructor<;>decide +kernel
def C_:jg "tuple" := by constructor<;>decide +kernel
def GC:jg "list" := by constructor<;>decide +kernel
def aP(c:Nat):B1->Ap
 |[]=>[[]]
 |d::l=>if d=c then[]::aP c l else match aP c l with
  |p::r=>(d::p)::r
  |[]=>[[d]]
theorem jh{c:Nat}:∀{p:B1},c∉p->aP c p=[p]
 |[],_=>rfl
 |d::p,h=>by
  have hd:d≠c:=λe=>h (by rw[e];exact ee ..)
  have hp:c∉p:=λe=>h (dX _ e);unfold aP;rw[if_neg hd,jh hp]
theorem mU{c:Nat}(l:B1):∀{p:B1},c∉p->aP c (p++[c]++l)=p::aP c l
 |[],_=>by
  show aP c (c::l)=_;rw[aP,if_pos rfl]
 |d::p,h=>by
  have hd:d≠c:=λe=>h (by rw[e];exact ee ..)
  have hp:c∉p:=λe=>h (dX _ e);show aP c (d::(p++[c]++l))=_;rw[aP,if_neg hd,mU l hp]
theorem kT{c:Nat}:∀{ls:Ap},ls≠[]->(∀p∈ls,c∉p)->aP c (dQ [c] ls)=ls
 |[],h,_=>absurd rfl h
 |[p],_,h=>jh (h p (ee ..))
 |p::q::r,_,h=>by
  show aP c (p++[c]++dQ [c] (q::r))=_;rw[mU _ (h p (ee ..)),kT (by simp) λx hx=>h x (dX _ hx)]
def split_len(x y:Str):(Txt.split x y).length<=x.length+2:=by
 unfold Txt.split;split
 ·simp
 ·split
  ·simp
  ·rw[length_partsBetween]
   have:=StrLaws.occ_length_le x y 0 x.length (x.length+1)
   omega
def Dc(x y:Str):Txt.split x y≠[]:=by
 unfold Txt.split;split
 ·simp
 ·split
  ·simp
  ·intro e
   have:=length_partsBetween x (Builtin.Str.occurrences x y 0 x.length (x.length+1)) y.length
   rw[e]at this;simp at this
def mV(a:B1)(c:Nat):Txt.split ⟨a.toArray⟩ ⟨#[c]⟩=(aP c a).map λl=>(⟨l.toArray⟩:Str):=by
 obtain⟨L,hL⟩:∃L:Ap,L=(Txt.split ⟨a.toArray⟩ ⟨#[c]⟩).map λp=>p.cps.toList:=⟨_,rfl⟩;have e1:Txt.split ⟨a.toArray⟩ ⟨#[c]⟩=L.map λl=>(⟨l.toArray⟩:Str):=by
  rw[hL,du]
  conv=>lhs;rw[<- List.map_id (Txt.split ⟨a.toArray⟩ ⟨#[c]⟩)]
  apply oz;intro p _;show p=(⟨p.cps.toList.toArray⟩:Str);rw[Array.toArray_toList]
 have jr:L≠[]:=by
  rw[hL];intro e;exact Dc _ _ (List.map_eq_nil_iff.mp e)
 have pD:∀p∈L,c∉p:=by
  rw[hL];intro p hp;obtain⟨q,hq,rfl⟩:=ez.mp hp;exact StrLaws.split_free _ c q hq
 have hj:=StrLaws.join_split ⟨a.toArray⟩ ⟨#[c]⟩;rw[e1,show(⟨#[c]⟩:Str)=⟨([c]:B1).toArray⟩from rfl,join_eq]at hj;have Ü:dQ [c] L=a:=by
  injection hj with hj
  simpa using hj
 rw[e1,<- Ü,kT jr pD]
theorem kD{B:KT}{al:BM}{H:Hp}:∀{ls:Ap},(∀l∈ls,l.length<=1000000)->aC B al H (ls.map T.str) (ls.map λl=>SV l)
 |[],_=>rfl
 |l::ls,h=>⟨_,_,rfl,⟨rfl,h l (ee ..)⟩,kD λx hx=>h x (dX _ hx)⟩
theorem gI(c:Nat):∀(a:B1),∀l∈aP c a,l.length<=a.length
 |[],l,h=>by
  rw[kc.mp h];simp
 |d::a,l,h=>by
  have ih:=gI c a;rw[aP]at h;split at h
  ·rcases cA.mp h with e|e
   ·rw[e];simp
   ·have:=ih l e;simp;omega
  ·split at h
   ·rename_i p r Yo
    rcases cA.mp h with e|e
    ·have:=ih p (by rw[Yo];exact ee ..)
     rw[e];simp;omega
    ·have:=ih l (by rw[Yo];exact dX _ e)
     simp;omega
   ·rw[kc.mp h];simp
def Q6:PO X none (tP B r9):=JW Fz λσ H Q z=>by
 obtain⟨g,s,t,s',x,h,k⟩:=z;cases h;exact k g H .refl x
def yd{t:T}{i:Int}(h:QD t=some i):t=.int i:=by
 cases t<;>first|(cases h;done)|(cases h;rfl)
def Q7(ha:PE X a (tE B fa)):PO X (some a) (tP B (gW fa)):=JW (FA ha) λσ H Q z=>by
 obtain⟨g,s,t,s',x,h,k⟩:=z;obtain⟨⟨d,s1⟩,h1,h⟩:=aa h;obtain⟨i,h2,h⟩:=aa h;cases yd (ai h2);cases h;exact⟨g,s,_,s1,x,h1,λv g1 H1 p1 x1 r1=>⟨_,r1,k g1 H1 p1 x1⟩⟩
def Wb(K:bz):V->D2->D2->Hp->VK->Prop:=λx lo hi H Q=>(∃z,x=.str z/\z.length<=sizeLine/\Q (.str (Txt.slice z lo hi)) H)\/P5 K x lo hi H Q
def Q8:JM X (Wb X.K):=LP.or FI
def Wc(hB:B.K=X.K)(ha:PE X a (tE B fa))(hl:PO X OO (tP B OM))(hh:PO X OP (tP B ON)):PE X (.Subscript a (.Slice OO OP none p2) pos) (tE B (j8 fa OM ON)):=by
 refine aR (sQ Q8 ha hl hh) λσ H Q zz=>?_;obtain⟨g,s,t,s',x,h,k⟩:=zz;obtain⟨⟨tx,s1⟩,h1,h⟩:=aa h;obtain⟨⟨lo,s2⟩,h2,h⟩:=aa h;obtain⟨⟨hi,s3⟩,h3,h⟩:=aa h;obtain⟨t',h4,h⟩:=aa h;cases h;have h4:EZ lo hi tx=some _:=ai h4;refine⟨g,s,_,s1,x,h1,λv g1 H1 p1 x1 r1=>⟨g1,s1,_,s2,x1,h2,λg2 H2 p2 x2=>⟨g2,s2,_,_,x2,h3,λg3 H3 p3 x3=>?_⟩⟩⟩;have r3:=(r1.mv p2.pre p2.fr).mv p3.pre p3.fr;have pp:=(p1.trans p2).trans p3;cases tx<;>first|(cases h4;done)|skip
 ·cases h4
  obtain⟨rfl,hz⟩:=r3;refine .inl ⟨_,rfl,V4 hz,?_⟩;rw[cut_str];exact k _ g3 H3 pp x3 ⟨rfl,gx (C8 _ _ _) hz⟩
 ·cases h4
  obtain⟨a,vs,rfl,q,r⟩:=r3;refine .inr ⟨a,vs,rfl,cV.of (x3.sub _ _ q),λl hl=>?_⟩;rw[qT];have gr:=Gr.new (o:=.lst (bu vs lo hi)) x3.sub hl;exact k _ _ _ (pp.trans (x3.gk gr)) (x3.grow gr) ⟨l,_,rfl,aj,(r.cut _ _).same gr.fr⟩
 ·cases h4
  obtain⟨a,rfl,q⟩:=r3;refine .inr ⟨a,_,rfl,hB▸x3.sub.seq q,λl hl=>?_⟩;rw[qT,<- qU];exact k _ _ _ (pp.trans (x3.gk (Gr.new x3.sub hl))) (x3.grow (Gr.new x3.sub hl)) ⟨l,_,rfl,aj,aC.ints _⟩
end
section
def noStar:Expr->Bool
 |.Starred _ _=>false
 |_=>true
def ao(h:noStar e=true):starEach (e::es) env=(false,eval e env)::starEach es env:=by
 cases e<;>first|rfl|(cases h)
theorem eM:∀{es:Bz},es.all noStar=true->(backTo pos (starEach es env)).any (·.1)=false
 |[],_=>rfl
 |e::es,h=>by
  rw[fh,dq]at h;rw[ao h.1];show(false ||(backTo pos (starEach es env)).any (·.1))=false
  rw[eM h.2];rfl
theorem mW:∀{es:Bz},es.all noStar=true->(backTo pos (starEach es env)).all (λx=>!x.1)=true
 |[],_=>rfl
 |e::es,h=>by
  rw[fh,dq]at h;rw[ao h.1];show(true&&(backTo pos (starEach es env)).all (λx=>!x.1))=true;rw[mW h.2];rfl
def pY(h:(e::es).all noStar=true)(hl:es.length<29):((backTo cC (starEach (e::es) env)).all (λx=>!x.1)&&(backToKw cC (keywordEach [] env)).all (λx=>x.1.isSome)
   && decide ((e::es).length+([]:List Keyword).length+(if([]:List Keyword).isEmpty then 0 else 1)<30))=true:=by
 rw[mW h,dq];exact⟨rfl,decide_eq_true (show es.length+1+0+0<30 by omega)⟩
def bq:Expr->Bool
 |.Call (.Name _ _) [] [] _=>false
 |_=>true
def dS{f:Str}{gT:Sem Value}(h:bq o=true):attributeBase o f env gT=gT:=by
 unfold attributeBase;split
 ·cases h
 ·rfl
def LM(X:Cx)(f:B1->FK->FR)(r:V->List V->Hp->VK->Prop):Prop:=∀(B:KT)(_:B.K=X.K)(al:BM)(HF H:Hp)(l:B1)(xs:List V)(t:T)(ts:FK)(Q:VK),aM HF H->l.length<=1000000->aC B al HF ts xs->f l ts=some t->(∀v fZ H',Gr HF H fZ H'->Rep B al fZ t v->Q v H')->r (SV l) xs H Q
def GD:T->Option B1
 |.str l=>some l
 |_=>none
def nZ(f:B1->FK->FR)(o:FE)(fl:FL):FE:=λs=>(o s).bind λp=>(aX (GD p.1)).bind λl=>(fl p.2).bind λq=>(aX (f l q.1)).bind λt=>.ok (t,q.2)
def Dd{t:T}{l:B1}(h:GD t=some l):t=.str l:=by
 cases t<;>first|(cases h;done)|(cases h;rfl)
def Wd{f:B1->FK->FR}{r:V->List V->Hp->VK->Prop}(hB:B.K=X.K)(hr:LM X f r):∀σ H Q,tE B (nZ f fo fl) σ H Q->XU X.K "str" r (tE B fo) (tA B fl) σ H Q:=by
 rintro σ H Q ⟨g,s,t,s',x,h,k⟩
 obtain⟨⟨tx,s1⟩,h1,h⟩:=aa h;obtain⟨l,h2,h⟩:=aa h;obtain⟨⟨ts,s2⟩,h3,h⟩:=aa h;obtain⟨t',h4,h⟩:=aa h;cases h;cases Dd (ai h2);refine⟨g,s,_,s1,x,h1,λv g1 H1 p1 x1 r1=>?_⟩;obtain⟨rfl,hz⟩:=r1;exact⟨rfl,g1,s1,_,_,x1,h3,λvs g2 H2 p2 x2 r2=>hr B hB g2.al g2.HF H2 l vs _ ts Q x2.sub hz r2 (ai h4) λu fZ H' gr r3=>k u (g2.grow fZ) H' ((p1.trans p2).trans (x2.gk gr)) (x2.grow gr) r3⟩
def A3(l:B1):FK->FR
 |[.str s]=>some (.bl (pre s l))
 |_=>none
def We(l:B1):FK->FR
 |[.str s]=>some (.bl (L4 s l))
 |_=>none
def joinM(l:B1):FK->FR
 |[t]=>xV (.str l) t
 |_=>none
def splitM(l:B1):FK->FR
 |[.str [c]]=>gd (l.length<=100000) (.lst ((aP c l).map .str))
 |_=>none
open PySem.Spec PyProof.Rows in
def ua(l:B1):FK->FR
 |[.str s]=>some (.int (Txt.find ⟨l.toArray⟩ ⟨s.toArray⟩))
 |[.str s,.int i]=>some (.int (Txt.find3 ⟨l.toArray⟩ ⟨s.toArray⟩ i))
 |_=>none
def b_{al:BM}{H:Hp}{t:T}{xs:List V}(r:aC B al H [t] xs):∃v,xs=[v]/\Rep B al H t v:=by
 obtain⟨v,w,rfl,h,e⟩:=r;cases(show w=[]from e);exact⟨v,rfl,h⟩
def GF{al:BM}{H:Hp}{t u:T}{xs:List V}(r:aC B al H [t,u] xs):∃v w,xs=[v,w]/\Rep B al H t v/\Rep B al H u w:=by
 obtain⟨v,ws,rfl,h,e⟩:=r;obtain⟨w,rfl,h'⟩:=b_ e;exact⟨v,w,rfl,h,h'⟩
def Wf:LM X A3 (λx vs H Q=>∃a b,x=.str a/\vs=[.str b]/\Q (.bl (Txt.startswith a b)) H):=λB hB al HF H l xs t ts Q sm hz r h k=>by
 match ts,h with
 |[.str s],h=>
  cases h;obtain⟨v,rfl,rfl,_⟩:=b_ r;refine⟨_,_,rfl,rfl,?_⟩;rw[Mm];exact k _ HF H (.refl sm) rfl
def Wg:LM X We (λx vs H Q=>∃a b,x=.str a/\vs=[.str b]/\Q (.bl (Txt.endswith a b)) H):=λB hB al HF H l xs t ts Q sm hz r h k=>by
 match ts,h with
 |[.str s],h=>
  cases h;obtain⟨v,rfl,rfl,_⟩:=b_ r;refine⟨_,_,rfl,rfl,?_⟩;rw[Mn];exact k _ HF H (.refl sm) rfl
def Mr:LM X joinM (λx vs H Q=>∃sep l ys,x=.str sep/\vs=[.ref l]/\cV X.K H l (ys.map V.str)/\(ys.map (·.length)).sum+ys.length*sep.length<=16777216/\Q (.str (Str.join sep ys)) H):=λB hB al HF H l xs t ts Q sm hz r h k=>by
 match ts,h with
 |[u],h=>
  obtain⟨v,rfl,ru⟩:=b_ r;have h:xV (.str l) u=some t:=h;cases u with
  |lst us=>
   have h:(strsOf us).bind (λys=>gd ((ys.map (·.length)).sum+ys.length*l.length<=1000000) (T.str (dQ l ys)))=some t:=h
   obtain⟨ls,h1,h⟩:=dH.mp h;obtain⟨z,rfl⟩:=aV h;obtain⟨a,vs,rfl,q,r⟩:=ru;have e:=tZ r h1;subst e;refine⟨_,a,_,rfl,rfl,cV.of (sm _ _ q),?_,?_⟩
   ·rw[C9,bK,eL];omega
   ·rw[join_eq]
    exact k _ HF H (.refl sm) ⟨rfl,gx (pX _ _) z⟩
  |_=>cases h
def m_find:LM X ua (λx vs H Q=>(∃a b,x=.str a/\vs=[.str b]/\Q (.int (Txt.find a b)) H)\/∃a b i,x=.str a/\vs=[.str b,.int i]/\Q (.int (Txt.find3 a b i)) H):=λB hB al HF H l xs t ts Q sm hz r h k=>by
 match ts,h with
 |[.str s],h=>
  cases h;obtain⟨v,rfl,rfl,_⟩:=b_ r;exact .inl ⟨_,_,rfl,rfl,k _ HF H (.refl sm) rfl⟩
 |[.str s,.int i],h=>
  cases h;obtain⟨v,w,rfl,⟨rfl,_⟩,rfl⟩:=GF r;exact .inr ⟨_,_,_,rfl,rfl,k _ HF H (.refl sm) rfl⟩
def m_split:LM X splitM (λx vs H Q=>∃a b,x=.str a/\vs=[.str b]/\(b.length == 0)=false/\a.length<=sizeLine/\(Txt.split a b).length<=sizeLine/\∀l,H l=none->Q (.ref l) (upd H l (.lst ((Txt.split a b).map V.str)))):=λB hB al HF H l xs t ts Q sm hz r h k=>by
 match ts,h with
 |[.str [c]],h=>
  obtain⟨z,rfl⟩:=aV h;obtain⟨v,rfl,rfl,_⟩:=b_ r;have jt:=split_len ⟨l.toArray⟩ ⟨([c]:B1).toArray⟩;rw[eL]at jt;refine⟨_,_,rfl,rfl,rfl,by rw[eL,sizeLine_eq];omega,by rw[sizeLine_eq];omega,λq hq=>?_⟩
  have e:(Txt.split ⟨l.toArray⟩ ⟨([c]:B1).toArray⟩).map V.str=(aP c l).map λl=>SV l:=by
   rw[show(⟨([c]:B1).toArray⟩:Str)=⟨#[c]⟩from rfl,mV,du];rfl
  rw[e];refine k _ _ _ (Gr.new sm hq) ⟨q,_,rfl,aj,kD λm hm=>?_⟩
  have:=gI c l m hm
  omega
 |[.str []],h=>cases h
 |[.str (_::_::_)],h=>cases h
def vH.or{id:String}{r r':V->List V->Hp->VK->Prop}(h:vH X id r)(h':vH X id r'):vH X id (λx vs H Q=>r x vs H Q\/r' x vs H Q):=λae s σ H x vs v us Q I rx rv q=>by
 rcases q with q|q
 ·exact h ae s σ H x vs v us Q I rx rv q
 ·exact h' ae s σ H x vs v us Q I rx rv q
structure Yp(X:Cx)(n:Str)(f:B1->FK->FR):Prop where
 ex:∃id r,Slot "str" n id/\typeOf (.builtin id)=pure (.type "method_descriptor")/\vH X id r/\LM X f r
def Q9{n:Str}{f:B1->FK->FR}(M:Yp X n f)(hB:B.K=X.K)(ho:PE X o (tE B fo))(ha:PA X (e::es) (tA B fl))(hb:bq o=true)(hs:(e::es).all noStar=true)(hl:es.length<29)(cL:(bF.endLine == cC.line)=true) :
  PE X (.Call (.Attribute o n bF) (e::es) [] cC) (tE B (nZ f fo fl)):=by
 obtain⟨id,r,h1,h2,h3,h4⟩:=M.ex;have Ac:=hs;rw[fh,dq]at Ac;exact aR (pM PySem.F.plainAttrs_str h1 h2 h3 ho ha (dS hb) (pY hs hl) cL (ao Ac.1) (eM Ac.2)) (Wd hB h4)
def GG(l:B1):FK->FR
 |[.str s]=>some (.int (Txt.count ⟨l.toArray⟩ ⟨s.toArray⟩))
 |_=>none
def De:vH X "str.count" (λx vs H Q=>∃a b,x=.str a/\vs=[.str b]/\Q (.int (Txt.count a b)) H):=by
 intro ae s σ H x vs v us Q I rx rv h;obtain⟨a,b,rfl,rfl,q⟩:=h;obtain⟨t,rfl⟩:=rx;obtain⟨u,rfl,⟨t',rfl⟩⟩:=rv.one;exact SC.count ⟨.int _,H,I.tok _,⟨_,rfl⟩,q⟩
def GH:LM X GG (λx vs H Q=>∃a b,x=.str a/\vs=[.str b]/\Q (.int (Txt.count a b)) H):=λB hB al HF H l xs t ts Q sm hz r h k=>by
 match ts,h with
 |[.str s],h=>
  cases h;obtain⟨v,rfl,rfl,_⟩:=b_ r;exact⟨_,_,rfl,rfl,k _ HF H (.refl sm) rfl⟩
def vU:List (Str×(B1->FK->FR)):=[("startswith",A3),("endswith",We),("join",joinM),("split",splitM),("find",ua),("count",GG)]
def Ms:∀p∈vU,Yp X p.1 p.2:=by
 intro p h;simp only[vU,cA,ow,or_false]at h;rcases h with rfl|rfl|rfl|rfl|rfl|rfl
 ·exact⟨_,_,PySem.F.slot_str_startswith,PySem.F.type_str_startswith,oN,Wf⟩
 ·exact⟨_,_,PySem.F.slot_str_endswith,PySem.F.type_str_endswith,sZ,Wg⟩
 ·exact⟨_,_,PySem.F.slot_str_join,PySem.F.type_str_join,F9,Mr⟩
 ·exact⟨_,_,PySem.F.slot_str_split,PySem.F.type_str_split,tY,m_split⟩
 ·exact⟨_,_,PySem.F.slot_str_find,PySem.F.type_str_find,vH.or C5 CA,m_find⟩
 ·exact⟨_,_,PySem.F.slot_str_count,PySem.F.type_str_count,De,GH⟩
end
section
def cz:FK->FR
 |[t]=>(match t with
  |.hU _ _=>none
  |t=>CJ t)
 |_=>none
def Q_:LN X cz (λxs H Q=>∃x n,xs=[x]/\PH X.K x H n/\Q (.int n) H):=λB hB al HF H xs t ts Q sm r h k=>by
 match ts,h with
 |[tx],h=>
  obtain⟨v,rfl,rx⟩:=b_ r;cases tx<;>first|(cases h;done)|skip
  ·cases h
   obtain⟨rfl,hz⟩:=rx;exact⟨_,_,rfl,⟨V4 hz,(eL _).symm⟩,k _ HF H (.refl sm) rfl⟩
  ·cases h
   obtain⟨a,vs,rfl,q,r⟩:=rx;exact⟨_,_,rfl,.inr ⟨vs,hB▸cZ sm q,r.len⟩,k _ HF H (.refl sm) rfl⟩
  ·cases h
   obtain⟨a,vs,rfl,q,r⟩:=rx;exact⟨_,_,rfl,.inl ⟨vs,cV.of (sm _ _ q),r.len⟩,k _ HF H (.refl sm) rfl⟩
  ·cases h
   obtain⟨a,rfl,q⟩:=rx;exact⟨_,_,rfl,.inl ⟨_,hB▸sm.seq q,(bK _).symm⟩,k _ HF H (.refl sm) rfl⟩
def Aj:FK->FR
 |[t]=>Gi t
 |_=>none
def oU:FK->FR
 |[t]=>CK t
 |_=>none
def Ra:LN X Aj (λxs H Q=>∃(p:Addr)(ks:Fh),xs=[.ref p]/\cV X.K H p (ks.map V.bl)/\Q (.bl (ks.all id)) H):=λB hB al HF H xs t ts Q sm r h k=>by
 match ts,h with
 |[tx],h=>
  obtain⟨v,rfl,rx⟩:=b_ r;have h:Gi tx=some t:=h;cases tx with
  |lst us=>
   obtain⟨ks,h1,h⟩:=dg.mp (show(boolsOf us).map _=some t from h);obtain⟨a,vs,rfl,q,r⟩:=rx;have e:=kB r h1;subst e h;exact⟨a,ks,rfl,cV.of (sm _ _ q),k _ HF H (.refl sm) rfl⟩
  |_=>cases h
def Rb:LN X oU (λxs H Q=>∃(p:Addr)(ks:Fh),xs=[.ref p]/\cV X.K H p (ks.map V.bl)/\Q (.bl (ks.any id)) H):=λB hB al HF H xs t ts Q sm r h k=>by
 match ts,h with
 |[tx],h=>
  obtain⟨v,rfl,rx⟩:=b_ r;have h:CK tx=some t:=h;cases tx with
  |lst us=>
   obtain⟨ks,h1,h⟩:=dg.mp (show(boolsOf us).map _=some t from h);obtain⟨a,vs,rfl,q,r⟩:=rx;have e:=kB r h1;subst e h;exact⟨a,ks,rfl,cV.of (sm _ _ q),k _ HF H (.refl sm) rfl⟩
  |_=>cases h
def ic(i:Int):B1:=(toString i).toList.map Char.toNat
def strN:FK->FR
 |[.int i]=>gd (i.natAbs.log2<1920/\(ic i).length<=1000000) (.str (ic i))
 |_=>none
def Rf:LN X strN (λxs H Q=>∃i,xs=[.int i]/\i.natAbs.log2<1920/\Q (.str (toString i)) H):=λB hB al HF H xs t ts Q sm r h k=>by
 match ts,h with
 |[.int i],h=>
  obtain⟨v,rfl,rx⟩:=b_ r;obtain⟨⟨h1,h2⟩,rfl⟩:=aV h;cases rx;refine⟨i,rfl,h1,k _ HF H (.refl sm) ⟨?_,h2⟩⟩;show V.str (Str.ofString (toString i))=_;rw[Str.ofString_eq_toList];rfl
def vV:FK->FR
 |[.str l]=>(PySem.intText? ⟨l.toArray⟩).bind λn=>gd (l.length<=640) (.int n)
 |[.bl b]=>some (.int (if b then 1 else 0))
 |_=>none
abbrev Rg:List V->Hp->VK->Prop:=λxs H Q=>(∃y n,xs=[.str y]/\PySem.intText? y=some n/\y.length<=640/\Q (.int n) H)\/∃b,xs=[.bl b]/\Q (.int (if b then 1 else 0)) H
def Ak:eX X (.type "int") Rg:=by
 intro ae s σ H xs us Q I r h;rcases h with⟨y,n,rfl,hn,hl,q⟩|⟨b,rfl,q⟩
 ·obtain⟨u,rfl,t,rfl⟩:=vals1 r
  exact PySem.W.KIN.call_text hn hl ⟨.int n,H,I.tok _,⟨_,rfl⟩,q⟩
 ·obtain⟨u,rfl,e⟩:=vals1 r
  cases(show u=Value.bool b from e);exact PySem.call_int_bool ⟨.int (if b then 1 else 0),H,I.tok _,⟨_,rfl⟩,q⟩
def Ri:LN X vV Rg:=λB hB al HF H xs t ts Q sm r h k=>by
 match ts,h with
 |[.str l],h=>
  obtain⟨v,rfl,rx⟩:=b_ r;obtain⟨n,h1,h⟩:=dH.mp h;obtain⟨z,rfl⟩:=aV h;obtain⟨rfl,_⟩:=rx;exact .inl ⟨_,n,rfl,h1,by rw[eL];exact z,k _ HF H (.refl sm) rfl⟩
 |[.bl b],h=>
  obtain⟨v,rfl,rx⟩:=b_ r;cases h;cases rx;exact .inr ⟨b,rfl,k _ HF H (.refl sm) rfl⟩
def ye:FK->FR
 |[t]=>JS t
 |_=>none
def Mt:LN X ye (λxs H Q=>∃p ys,xs=[.ref p]/\(cV X.K H p ys\/lh X.K H p ys)/\∀l,H l=none->Q (.ref l) (upd H l (.lst ys))):=λB hB al HF H xs t ts Q sm r h k=>by
 match ts,h with
 |[tx],h=>
  obtain⟨v,rfl,rx⟩:=b_ r;have h:JS tx=some t:=h;cases tx<;>first|(cases h;done)|skip
  ·cases h
   obtain⟨l,xs,rfl,q,r⟩:=rx;exact⟨l,xs,rfl,.inr (hB▸cZ sm q),λp hp=>k _ _ _ (Gr.new sm hp) ⟨p,_,rfl,aj,r.same (aZ (sm.free hp))⟩⟩
  ·cases h
   obtain⟨l,xs,rfl,q,r⟩:=rx;exact⟨l,xs,rfl,.inl (cV.of (sm _ _ q)),λp hp=>k _ _ _ (Gr.new sm hp) ⟨p,_,rfl,aj,r.same (aZ (sm.free hp))⟩⟩
structure Wh(X:Cx)(n:Str)(f:FK->FR):Prop where
 ex:∃r,LN X f r/\((∃id,bootBuiltins n=some (.builtin id)/\eX X (.builtin id) r)\/∃ty,bootBuiltins n=some (.type ty)/\eX X (.type ty) r)
 nn:n ≠ "__name__"
 nd:cu n
def J5{f:FK->FR}(M:Wh X x f)(hB:B.K=X.K)(hg:Gl X x)(hm:X.mg x=none)(ha:PA X (e::es) (tA B fl))(hs:(e::es).all noStar=true):PE X (.Call (.Name x p) (e::es) [] pos) (tE B (bV f fl)):=by
 obtain⟨⟨r,h1,h2⟩,nn,nd⟩:=M;rw[fh,dq]at hs;rcases h2 with⟨id,hb,hc⟩|⟨ty,hb,hc⟩
 ·exact aR (iu hc hg hm hb ha nn nd (ao hs.1) (eM hs.2)) (JY hB h1)
 ·exact aR (gy hc hg hm hb ha nn nd (ao hs.1) (eM hs.2)) (JY hB h1)
def vW:List (Str×(FK->FR)):=[("len",cz),("all",Aj),("any",oU),("str",strN),("int",vV),("list",ye)]
def Df(hc:X.calm=true):∀p∈vW,Wh X p.1 p.2:=by
 intro p h;simp only[vW,cA,ow,or_false]at h;rcases h with rfl|rfl|rfl|rfl|rfl|rfl
 ·exact⟨⟨_,Q_,.inl ⟨_,PySem.boot_len,mh⟩⟩,by decide,by decide⟩
 ·exact⟨⟨_,Ra,.inl ⟨_,PyProof.Rows.boot_all,CB hc⟩⟩,by decide,by decide⟩
 ·exact⟨⟨_,Rb,.inl ⟨_,PyProof.Rows.boot_any,CF hc⟩⟩,by decide,by decide⟩
 ·exact⟨⟨_,Rf,.inr ⟨_,JC,qE⟩⟩,by decide,by decide⟩
 ·exact⟨⟨_,Ri,.inr ⟨_,JD,Ak⟩⟩,by decide,by decide⟩
 ·exact⟨⟨_,Mt,.inr ⟨_,BZ,gG⟩⟩,by decide,by decide⟩
end
structure Pg where
 cn:Bi
 an:Bi
 tab:Ap
 sub:Ap
def Pg.fn(P:Pg):List Bi:=P.tab.map λl=>l.map λi=>P.an.getD i Str.empty
structure OQ(K:bz)(mg:Str->D1)(n:Str)(ns:Bi)(C:Addr):Prop where
 at_:om K mainGlobals n=some (some (.ref C))
 gl:mg n=some (.ref C)
 nd:ns.Nodup
 pY:ns.length<=100
 cl:pF K C
 na:∀f∈ns,eA K C f
 ca:gn K (.ref C) "__class__" = some (some (.builtin "object.__class__"))
 mo:Bf K C (.type "object")=some true
structure mX(K:bz)(mg:Str->D1)(P:Pg):Prop where
 cls:∀(c:Nat)(n:Str)(ns:Bi),P.cn[c]?=some n->P.fn[c]?=some ns->∃C,OQ K mg n ns C
 sub:∀(c d:Nat)(n n':Str)(C D:Addr)(l:B1),P.cn[c]?=some n->P.cn[d]?=some n'->mg n=some (.ref C)->mg n'=some (.ref D)->P.sub[c]?=some l->sd K (.ref C) (.ref D)=some (decide (d∈l))
 gt:Bd K (.builtin "object.__class__") "__get__" = some (some (.builtin "getset_descriptor.__get__"))/\Be K (.builtin "object.__class__")=some true
abbrev Pg.kt(P:Pg)(X:Cx):KT:=⟨X.K,X.prog,X.w,P.cn,P.fn⟩
variable{P:Pg}
def mX.of(O:mX X.K X.mg P){c:Nat}{C:Addr}{ns:Bi}(h:ib (P.kt X) c C ns):∃n,P.cn[c]?=some n/\P.fn[c]?=some ns/\OQ X.K X.mg n ns C:=by
 obtain⟨n,h1,h2,h3,h4⟩:=h;obtain⟨C',F⟩:=O.cls c n ns h1 h2
 have:C=C':=by
  have:=(show om X.K mainGlobals n=some (some (.ref C))from h4).symm.trans F.at_
  injection this with this
  injection this with this
  injection this
 subst this;exact⟨n,h1,h2,F⟩
theorem gJ{f:Str}:∀{ns:Bi}{vs:List V}{j:Nat},ns.Nodup->ns[j]?=some f->(ns.zip vs).lookup f=vs[j]?
 |[],vs,j,_,h=>by simp at h
 |n::ns,[],j,_,_=>by simp
 |n::ns,v::vs,0,nd,h=>by
  simp at h;subst h;rw[lU,List.lookup_cons_self];rfl
 |n::ns,v::vs,j+1,nd,h=>by
  simp at h;have e:(f == n)=false:=beq_eq_false_iff_ne.mpr λz=>by subst z;exact(lQ.mp nd).1 (i8 h)
  rw[lU,i_,e];simpa using gJ (lQ.mp nd).2 h
theorem mY{f:Str}:∀{ns:Bi}{vs:List V},f∉ns->(ns.zip vs).lookup f=none
 |[],vs,_=>by simp
 |n::ns,[],_=>by simp
 |n::ns,v::vs,h=>by
  have e:(f == n)=false:=beq_eq_false_iff_ne.mpr λz=>h (by rw[z];exact ee ..)
  rw[lU,i_,e];exact mY λz=>h (dX _ z)
theorem yf{f:Str}{v:V}:∀{ns:Bi}{vs:List V}{j:Nat},ns.Nodup->ns[j]?=some f->vs.length<=ns.length->j<vs.length->L2.cW f v (ns.zip vs)=ns.zip (vs.set j v)
 |[],vs,j,_,h,_,_=>by simp at h
 |n::ns,[],j,_,_,_,h=>by simp at h
 |n::ns,w::vs,0,nd,h,_,_=>by
  simp at h;subst h;show(if n=n then(n,v)::ns.zip vs else(n,w)::L2.cW n v (ns.zip vs))=_
  rw[if_pos rfl];rfl
 |n::ns,w::vs,j+1,nd,h,hl,hj=>by
  simp at h hl hj;show(if n=f then(n,v)::ns.zip vs else(n,w)::L2.cW f v (ns.zip vs))=_
  rw[if_neg λz=>(lQ.mp nd).1 (by rw[z];exact i8 h),yf (lQ.mp nd).2 h hl hj]
  rfl
theorem qV{f:Str}{v:V}:∀{ns:Bi}{vs:List V},ns.Nodup->ns[vs.length]?=some f->L2.cW f v (ns.zip vs)=ns.zip (vs++[v])
 |[],vs,_,h=>by simp at h
 |n::ns,[],nd,h=>by
  simp at h;subst h;show L2.cW n v []=(n,v)::ns.zip [];simp[L2.cW]
 |n::ns,w::vs,nd,h=>by
  simp at h;show(if n=f then(n,v)::ns.zip vs else(n,w)::L2.cW f v (ns.zip vs))=_
  rw[if_neg λz=>(lQ.mp nd).1 (by rw[z];exact i8 h),qV (lQ.mp nd).2 h]
  rfl
def GI{l:B1}{f j:Nat}(h:l.idxOf? f=some j):l[j]?=some f:=by
 rw[IL,IM]at h;obtain⟨hj,h1,_⟩:=h;rw[cX hj,eq_of_beq h1]
def lJ{c f j:Nat}{n:Str}{ns:Bi}(hf:P.an[f]?=some n)(hc:P.fn[c]?=some ns)(h:iC P.tab c f=some j):ns[j]?=some n:=by
 unfold iC at h;obtain⟨l,h1,h2⟩:=dH.mp h;unfold Pg.fn at hc;rw[fJ,h1]at hc;cases hc;rw[fJ,GI h2];show some (P.an.getD f Str.empty)=_;rw[gq,hf];rfl
def J7(O:mX X.K X.mg P){f:Nat}{n:Str}(hf:P.an[f]?=some n)(he:PE X e (tE (P.kt X) fa))(hb:bq e=true):PE X (.Attribute e n pos) (tE (P.kt X) (az P.tab f fa)):=by
 refine aR (Cf he (dS hb)) λσ H Q zz=>?_;obtain⟨g,s,t,s',x,h,k⟩:=zz;obtain⟨⟨tx,s1⟩,h1,h⟩:=aa h;refine⟨g,s,_,s1,x,h1,λv g1 H1 p1 x1 r1=>?_⟩;cases tx<;>first|(cases h;done)|skip
 ·rename_i c fs
  obtain⟨u,h2,h⟩:=aa h;cases h;obtain⟨j,h3,h4⟩:=dH.mp (ai h2);obtain⟨a,C,dx,ns,vs,rfl,hC,hq,hl,hd,r⟩:=r1;obtain⟨m,hm,nY,F⟩:=O.of hC;have hj:=lJ hf nY h3;obtain⟨w,hw,vI⟩:=r.get h4;exact⟨a,C,dx,_,w,rfl,x1.sub _ _ hq,F.cl,F.na _ (i8 hj),by rw[gJ F.nd hj,hw],k _ g1 H1 p1 x1 vI⟩
 ·rename_i kk
  obtain⟨c,h2,h⟩:=aa h;obtain⟨ob,h3,h4⟩:=dH.mp (ai h2);obtain⟨j,h5,h6⟩:=dH.mp h4;obtain⟨a,rfl,ha⟩:=r1;rcases x1.st.at_ kk ob h3 with⟨a',C,dx,ns,vs,Z⟩|⟨a',Z⟩
  case inr=>
   obtain⟨l,q,_⟩:=dH.mp h5;have z:(P.tab.map _)[ob.c]?=none:=Z.nf;rw[fJ,q]at z;cases z
  have:=Z.al.symm.trans ha
  cases this;obtain⟨m,hm,nY,F⟩:=O.of Z.cl;have hj:=lJ hf nY h5;obtain⟨w,hw,sl⟩:=Z.f j c h6;cases c with
  |val t'=>
   cases h;exact⟨a,C,dx,_,w,rfl,Z.h,F.cl,F.na _ (i8 hj),by rw[gJ F.nd hj,hw],k _ g1 H1 p1 x1 sl⟩
  |ol ts=>cases h
  |od ks ts=>cases h
  |yg t=>cases h
def tyB(ty:String):T->Option Bool
 |.non=>some false
 |.bl _=>some (ty == "bool" ||ty == "int")
 |.int _=>some (ty == "int")
 |.str _=>some (ty == "str")
 |.tup _=>some (ty == "tuple")
 |.lst _=>some (ty == "list")
 |_=>none
def Mu(ty:String):T->FR:=λt=>(tyB ty t).map .bl
def Mv{B:KT}{al:BM}{H:Hp}{t:T}{v:V}{Ty:String}{u:Bool}(ka:jg Ty)(r:Rep B al H t v)(h:tyB Ty t=some u):∃tn,iT B.K H v tn/\sd B.K tn (.type Ty)=some u:=by
 cases t with
 |non=>cases(show v=.non from r);cases h;exact⟨_,.non,kC B.K ka.non⟩
 |bl b=>cases(show v=.bl b from r);cases h;exact⟨_,.bl _,kC B.K ka.bl⟩
 |int i=>cases(show v=.int i from r);cases h;exact⟨_,.int _,kC B.K ka.int⟩
 |str l=>obtain⟨rfl,_⟩:=r;cases h;exact⟨_,.str _,kC B.K ka.str⟩
 |tup ts=>obtain⟨a,vs,rfl,q,_⟩:=r;cases h;exact⟨_,.tup q,kC B.K ka.tup⟩
 |lst ts=>obtain⟨a,vs,rfl,q,_⟩:=r;cases h;exact⟨_,.lst q,kC B.K ka.lst⟩
 |_=>cases h
def uc:List (Str×String):=[("int","int"),("bool","bool"),("str","str"),("tuple","tuple"),("list","list")]
def Rj:∀q∈uc,jg q.2/\bootBuiltins q.1=some (.type q.2)/\q.1 ≠ "__name__" /\ (q.1 == ("__debug__" : Str))=false:=by
 intro p h;simp only[uc,cA,ow,or_false]at h;rcases h with rfl|rfl|rfl|rfl|rfl
 ·exact⟨Mp,JD,by decide,by decide⟩
 ·exact⟨GA,PyProof.Rows.boot_bool,by decide,by decide⟩
 ·exact⟨Mq,JC,by decide,by decide⟩
 ·exact⟨C_,PyProof.Rows.boot_tuple,by decide,by decide⟩
 ·exact⟨GC,BZ,by decide,by decide⟩
def Mw{B:KT}(hB:B.K=X.K){ty:String}{py:Pos}(hy:(y,ty)∈uc)(hm:X.mg "isinstance" = none)(Wi:X.mg y=none)(ha:PE X a (tE B fa))(hg:Gl X "isinstance")(QW:Gl X y)(hs:noStar a=true) :
  PE X (.Call (.Name "isinstance" p) [a,.Name y py] [] pos) (tE B (dN (Mu ty) fa)):=by
 obtain⟨ka,hb,hn,hd⟩:=Rj _ hy;have AY:starEach [Expr.Name y py] X.env=(false,eval (.Name y py) X.env)::starEach [] X.env:=rfl;refine aR (iu tm hg hm JE (aW ha (aW (E8 QW Wi hb (v:=.ty ty) rfl hn hd) cj AY) (ao hs)) (he:=ao hs) (hpl:=rfl))
  (JX hB (r:=λx H Q=>∃x' T' t b,[x,.ty ty]=[x',.ty T']/\iT X.K H x' t/\sd X.K t (.type T')=some b/\Q (.bl b) H) λB hB al HF H x t tx Q sm rx h k=>?_)
 obtain⟨u,h1,rfl⟩:=dg.mp h;obtain⟨tn,h2,h3⟩:=Mv ka (rx.same sm) h1;exact⟨x,ty,tn,u,rfl,hB▸h2,hB▸h3,k _ HF H (.refl sm) rfl⟩
def gK(sub:Ap)(ds:B1):T->FR
 |.obj c _=>(sub[c]?).map λl=>.bl (ds.any λd=>decide (d∈l))
 |_=>none
def Dg:eX X (.builtin "isinstance") (λxs H Q=>∃x D t b,xs=[x,.ref D]/\iT X.K H x t/\sd X.K t (.ref D)=some b/\Q (.bl b) H):=by
 intro ae s σ H xs us Q I r h;obtain⟨x,D,t,b,rfl,ty,e,q⟩:=h;obtain⟨u,u',rfl,ru,VO⟩:=vals2 r;cases VO;exact pG I ru ty e λtk=>⟨.bl b,H,I.tok _,rfl,q⟩
def Rk(O:mX X.K X.mg P){d:Nat}{py:Pos}(hy:P.cn[d]?=some y)(hm:X.mg "isinstance" = none)(ha:PE X a (tE (P.kt X) fa))(hg:Gl X "isinstance")(QW:Gl X y)(hs:noStar a=true)(hd:cu y)(O3:(P.fn[d]?).isSome=true) :
  PE X (.Call (.Name "isinstance" p) [a,.Name y py] [] pos) (tE (P.kt X) (dN (gK P.sub [d]) fa)):=by
 obtain⟨ns,nY⟩:=Ju.mp O3;obtain⟨D,FD⟩:=O.cls d y ns hy nY;have AY:starEach [Expr.Name y py] X.env=(false,eval (.Name y py) X.env)::starEach [] X.env:=rfl;refine aR (iu Dg hg hm JE (aW ha (aW (xF (v:=.ref D) QW FD.gl rfl hd) cj AY) (ao hs)) (he:=ao hs) (hpl:=rfl)) λσ H Q zz=>?_;obtain⟨g,s,t,s',x,h,k⟩:=zz;obtain⟨⟨tx,s1⟩,h1,h⟩:=aa h;obtain⟨t',h2,h⟩:=aa h;cases h;refine⟨g,s,_,_,x,h1,λv g1 H1 p1 x1 r1=>?_⟩;have h2:=ai h2;cases tx<;>first|(cases h2;done)|skip
 obtain⟨l,hl,rfl⟩:=dg.mp h2;obtain⟨a,C,dx,E1,vs,rfl,hC,hq,hle,hdx,r⟩:=r1;obtain⟨m,Ý,Þ,F⟩:=O.of hC;refine⟨_,D,_,_,rfl,.ins (x1.sub _ _ hq) F.cl F.ca O.gt.1 O.gt.2 F.mo,O.sub _ d m y C D l Ý hy F.gl FD.gl hl,?_⟩
 have:=k (V.bl (decide (d∈l))) g1 H1 p1 x1 (by show _=V.bl (([d]:B1).any λd=>decide (d∈l));simp)
 exact this
abbrev iX(P:Pg)(K:bz)(Pr:Program)(w:World):KT:=⟨K,Pr,w,P.cn,P.fn⟩
def n_(B:KT)(f:Fn):Sp:=λvs H Q _=>∃g ts m t m',fU B g H m/\aC B g.al g.HF ts vs/\f ts m=.ok (t,m')/\∀v g' H',eV g H g' H'->fU B g' H' m'->Rep B g'.al g'.HF t v->Q v H'
structure Wj(P:Pg)(Pr:Program)(w:World)(K:bz)(mg:Str->D1)(base:Heap)(k:Nat)(x:Str)(ds:FK)(f:Fn):Prop where
 ex:∃(fa:Addr)(fd:FuncData)(ps:Bi)(gf:B2)(dV:List V),dh Pr w K mg base ko k fa fd ps (n_ (iX P K Pr w) f)/\mg x=some (.ref fa)/\oj K (.ref fa)=true/\Binds K fd ps gf/\Vals dV gf/\∀al H,aC (iX P K Pr w) al H ds dV
def jM{f:Fn}{ds:FK}{t:T}(h:av f ds fl s=.ok (t,s')):∃ts s1 m',fl s=.ok (ts,s1)/\f (ts++ds) s1.m=.ok (t,m')/\s'={s1 with m:=m'}:=by
 obtain⟨⟨ts,s1⟩,h1,h⟩:=aa h;dsimp only at h;cases q:f (ts++ds) s1.m with
 |ok r=>rw[q]at h;cases h;exact⟨ts,s1,r.2,h1,q,rfl⟩
 |bad=>rw[q]at h;cases h
 |exc c fs s2=>rw[q]at h;cases h
def ud{B:KT}{f:Fn}{ts:FK}{t:T}{m':FV}{vs:List V}{Q:VK}{E:XK}(x:SR B g H σ s)(r:aC B g.al g.HF ts vs)(h:f ts s.m=.ok (t,m'))(k:∀v g' H',eV g H g' H'->SR B g' H' σ {s with m:=m'}->Rep B g'.al g'.HF t v->Q v H'):n_ B f vs H Q E:=
 ⟨g.ah,ts,s.m,t,m',x.st.ah,r,h,λv g' H' p y rv=>let⟨p2,x2⟩:=x.back p y;k v (G.back g g') H' p2 x2 rv⟩
def s_call{k j:Nat}{ds:FK}{f:Fn}(D:Wj P X.prog X.w X.K X.mg X.base k x ds f)(hr:b8 j X.A)(Al:k<=j)(ha:PA X (e::es) (tA (P.kt X) fl))(hg:Gl X x)(mq:cu x)(hs:(e::es).all noStar=true) :
  PE X (.Call (.Name x p) (e::es) [] pos) (tE (P.kt X) (av f ds fl)):=by
 obtain⟨ff,fd,ps,gf,dV,F,hm,hk,hb,hd,E2⟩:=D.ex;rw[fh,dq]at hs;refine aR (Fv F (hr.mono Al) hg hm hk hb hd mw ha mq (ao hs.1) (eM hs.2)) λσ H Q zz=>?_;obtain⟨g,s,t,s',x,h,k⟩:=zz;obtain⟨ts,s1,m',h1,h2,rfl⟩:=jM h;exact⟨g,s,ts,s1,x,h1,λvs g1 H1 p1 x1 r1=>ud x1 (r1.app (E2 _ _)) h2 λv g' H' p2 x2 rv=>k v g' H' (p1.trans p2) x2 rv⟩
def GJ{k j:Nat}{ds:FK}{f:Fn}(D:Wj P X.prog X.w X.K X.mg X.base k x ds f)(hr:b8 j X.A)(Al:k<=j)(hg:Gl X x)(mq:cu x) :
  PE X (.Call (.Name x p) [] [] pos) (tE (P.kt X) (av f ds bg)):=by
 obtain⟨ff,fd,ps,gf,dV,F,hm,hk,hb,hd,E2⟩:=D.ex;refine aR (Ci F (hr.mono Al) hg hm hk hb hd mw mq) λσ H Q zz=>?_;obtain⟨g,s,t,s',x,h,k⟩:=zz;obtain⟨ts,s1,m',h1,h2,rfl⟩:=jM h;cases h1;exact ud (E:=E0) (vs:=[]++dV) x (E2 _ _) h2 λv g' H' p2 x2 rv=>k v g' H' p2 x2 rv
structure UE(P:Pg)(Pr:Program)(w:World)(K:bz)(mg:Str->D1)(base:Heap)(k:Nat)(c:Nat)(m:Str)(f:Fn):Prop where
 ex:∃(C fa:Addr)(fd:FuncData)(ps:Bi)(ns:Bi),ib (iX P K Pr w) c C ns/\pF K C/\Meth K C m fa/\dh Pr w K mg base ko k fa fd ps (n_ (iX P K Pr w) f)/\Binds K fd ps []/\m∉ns
def J8{ι:Type}{t:ι->TE}{t':TE}{C:ι->Prop}(h:∀i,C i->PE X e (t i))(k:∀σ H Q,t' σ H Q->∃i,C i/\t i σ H Q):PE X e t':=λae s σ H Q I q=>by
 obtain⟨i,hi,hq⟩:=k σ H Q q;exact h i hi ae s σ H Q I hq
def Dh(X:Cx)(o:Expr)(m:Str)(bF:Pos)(es:Bz)(pos:Pos):Prop:=∃pl,eval (.Call (.Attribute o m bF) es [] pos) X.env=(do
   let ov <- eval o X.env
   standAt bF.atName
   let(f,first) <- holding [ov] (getMethod ov m pl)
   callWith pos f first (backTo pos (starEach es X.env)) (backToKw pos (keywordEach [] X.env)))
def ue{gm:Nat->Option Fn}{t:T}(h:au gm fo fl s=.ok (t,s')):∃tx s1 c f ts s2 m',fo s=.ok (tx,s1)/\((∃k ob,tx=.own k/\s1.m[k]?=some ob/\ob.c=c)\/∃fs,tx=.obj c fs)/\gm c=some f/\fl s1=.ok (ts,s2)/\f (tx::ts) s2.m=.ok (t,m')/\s'={s2 with m:=m'}:=by
 obtain⟨⟨tx,s1⟩,h1,h⟩:=aa h;cases tx<;>first|(cases h;done)|skip
 ·rename_i c fs
  obtain⟨f,h2,h⟩:=aa h;obtain⟨us,s2,m',h3,h4,rfl⟩:=jM h;obtain⟨⟨ts,s3⟩,h5,h6⟩:=aa h3;cases h6;rw[cJ]at h4;exact⟨_,s1,c,f,ts,_,m',h1,.inr ⟨fs,rfl⟩,ai h2,h5,h4,rfl⟩
 ·rename_i kk
  obtain⟨f,h2,h⟩:=aa h;obtain⟨ob,h7,h8⟩:=dH.mp (ai h2);obtain⟨us,s2,m',h3,h4,rfl⟩:=jM h;obtain⟨⟨ts,s3⟩,h5,h6⟩:=aa h3;cases h6;rw[cJ]at h4;exact⟨_,s1,ob.c,f,ts,_,m',h1,.inl ⟨kk,ob,rfl,h7,rfl⟩,h8,h5,h4,rfl⟩
def Di{B:KT}{C:Addr}{ns:Bi}{c:Nat}{tx:T}{v:V}(x:SR B g H σ s)(hC:ib B c C ns)(r:Rep B g.al g.HF tx v)(h:(∃k ob,tx=.own k/\s.m[k]?=some ob/\ob.c=c)\/∃fs,tx=.obj c fs):∃a dx vs,v=.ref a/\H a=some (.ins C dx (ns.zip vs)):=by
 rcases h with⟨k,ob,rfl,h1,rfl⟩|⟨fs,rfl⟩
 ·obtain⟨a,rfl,ha⟩:=r
  rcases x.st.at_ k ob h1 with⟨a',C',dx,E1,vs,Z⟩|⟨a',Z⟩
  case inr=>
   obtain⟨n,q,_⟩:=hC;rw[Z.nc]at q;cases q
  have:=Z.al.symm.trans ha
  cases this;obtain⟨rfl,rfl⟩:=Z.cl.eq hC;exact⟨a,dx,vs,rfl,Z.h⟩
 ·obtain⟨a,C',dx,E1,vs,rfl,ß,hq,_⟩:=r
  obtain⟨rfl,rfl⟩:=ß.eq hC;exact⟨a,dx,vs,rfl,x.sub _ _ hq⟩
def Mx{m:Str}{k j:Nat}{gm:Nat->Option Fn}(D:∀c f,gm c=some f->UE P X.prog X.w X.K X.mg X.base k c m f)(hr:b8 j X.A)(Al:k<=j)(ho:PE X o (tE (P.kt X) fo))(ha:PA X (e::es) (tA (P.kt X) fl))(hs:(e::es).all noStar=true)(mc:Dh X o m bF (e::es) pos) :
  PE X (.Call (.Attribute o m bF) (e::es) [] pos) (tE (P.kt X) (au gm fo fl)):=by
 obtain⟨pl,mc⟩:=mc;rw[fh,dq]at hs;refine J8 (ι:=Addr×Fn) (C:=λi=>∃c fa fd ps ns,ib (P.kt X) c i.1 ns/\gm c=some i.2/\pF X.K i.1/\Meth X.K i.1 m fa/\dh X.prog X.w X.K X.mg X.base ko k fa fd ps (n_ (P.kt X) i.2)/\Binds X.K fd ps []/\m∉ns)
  (t:=λi=>xN i.1 m (n_ (P.kt X) i.2) [] E0 (tE (P.kt X) fo) (tA (P.kt X) fl)) (λi ⟨c,fa,fd,ps,ns,hC,_,cl,M,F,hb,_⟩=>Fw (pl:=pl) ho cl M F (hr.mono Al) hb .nil mw ha (ao hs.1) (eM hs.2) mc) ?_
 rintro σ H Q ⟨g,s,t,s',x,h,k⟩
 obtain⟨tx,s1,c,f,ts,s2,m',h1,hc,hf,h3,h4,rfl⟩:=ue h;obtain⟨C,fa,fd,ps,ns,hC,cl,M,F,hb,hn⟩:=(D c f hf).ex;refine⟨(C,f),⟨c,fa,fd,ps,ns,hC,hf,cl,M,F,hb,hn⟩,g,s,_,s1,x,h1,λv g1 H1 p1 x1 r1=>?_⟩;obtain⟨a,dx,vs,rfl,hi⟩:=Di x1 hC r1 hc;refine⟨a,dx,_,rfl,hi,mY hn,g1,s1,ts,s2,x1,h3,λus g2 H2 p2 x2 r2=>?_⟩;show n_ _ _ (V.ref a::(us++[])) H2 Q E0;rw[cJ];exact ud (ts:=tx::ts) x2 ⟨_,us,rfl,r1.mv p2.pre p2.fr,r2⟩ h4 λv g' H' p3 x3 rv=>k v g' H' ((p1.trans p2).trans p3) x3 rv
def GK{m:Str}{k j:Nat}{gm:Nat->Option Fn}(D:∀c f,gm c=some f->UE P X.prog X.w X.K X.mg X.base k c m f)(hr:b8 j X.A)(Al:k<=j)(ho:PE X o (tE (P.kt X) fo))(mc:Dh X o m bF [] pos) :
  PE X (.Call (.Attribute o m bF) [] [] pos) (tE (P.kt X) (au gm fo bg)):=by
 obtain⟨pl,mc⟩:=mc;refine J8 (ι:=Addr×Fn) (C:=λi=>∃c fa fd ps ns,ib (P.kt X) c i.1 ns/\gm c=some i.2/\pF X.K i.1/\Meth X.K i.1 m fa/\dh X.prog X.w X.K X.mg X.base ko k fa fd ps (n_ (P.kt X) i.2)/\Binds X.K fd ps []/\m∉ns)
  (t:=λi=>xN i.1 m (n_ (P.kt X) i.2) [] E0 (tE (P.kt X) fo) Fq) (λi ⟨c,fa,fd,ps,ns,hC,_,cl,M,F,hb,_⟩=>Cj (pl:=pl) ho cl M F (hr.mono Al) hb .nil mw mc) ?_
 rintro σ H Q ⟨g,s,t,s',x,h,k⟩
 obtain⟨tx,s1,c,f,ts,s2,m',h1,hc,hf,h3,h4,rfl⟩:=ue h;cases h3;obtain⟨C,fa,fd,ps,ns,hC,cl,M,F,hb,hn⟩:=(D c f hf).ex;refine⟨(C,f),⟨c,fa,fd,ps,ns,hC,hf,cl,M,F,hb,hn⟩,g,s,_,s1,x,h1,λv g1 H1 p1 x1 r1=>?_⟩;obtain⟨a,dx,vs,rfl,hi⟩:=Di x1 hC r1 hc;exact⟨a,dx,_,rfl,hi,mY hn,ud (E:=E0) (ts:=[tx]) (vs:=[.ref a]) x1 (.one r1) h4 λv g' H' p3 x3 rv=>k v g' H' (p1.trans p3) x3 rv⟩
def Yq(C:Addr)(ns:Bi):Sp:=λvs H Q _=>∃x dx args,vs=.ref x::args/\args.length=ns.length/\H x=some (.ins C dx [])/\Q .non (upd H x (.ins C dx (ns.zip args)))
structure Yr(P:Pg)(Pr:Program)(w:World)(K:bz)(mg:Str->D1)(base:Heap)(k:Nat)(c n:Nat)(x:Str):Prop where
 ex:∃(C fi:Addr)(fd:FuncData)(ps:Bi)(ns:Bi),ib (iX P K Pr w) c C ns/\ns.length=n/\mg x=some (.ref C)/\Mk K C fi/\dh Pr w K mg base ko k fi fd ps (Yq C ns)/\Binds K fd ps []
def yh{B:KT}{c:Nat}{C x dx:Addr}{ns:Bi}{ts:FK}{vs:List V}(X1:SR B g H σ s)(hC:ib B c C ns)(hl:vs.length<=ns.length)(r:aC B g.al g.HF ts vs)(nx:H x=none)(nd:H dx=none)(jr:dx≠x) :
  ∃gr:Gr g.HF H (upd (upd g.HF dx (.own x)) x (.ins C dx (ns.zip vs))) (upd (upd H dx (.own x)) x (.ins C dx (ns.zip vs))),Rep B g.al (upd (upd g.HF dx (.own x)) x (.ins C dx (ns.zip vs))) (.obj c ts) (.ref x):=by
 have g2:=Gr.new (o:=.own x) X1.sub nd;have Wk:upd H dx (.own x) x=none:=by rw[aq (Ne.symm jr)];exact nx
 have g3:=Gr.new (o:=.ins C dx (ns.zip vs)) g2.sub Wk;exact⟨g2.trans g3,x,C,dx,ns,vs,rfl,hC,aj,hl,by rw[aq jr,aj],r.same (g2.fr.trans g3.fr)⟩
def Rl{k j c n:Nat}(D:Yr P X.prog X.w X.K X.mg X.base k c n x)(hr:b8 j X.A)(Al:k+1<=j)(ha:PA X (e::es) (tA (P.kt X) fl))(hg:Gl X x)(mq:cu x)(hs:(e::es).all noStar=true) :
  PE X (.Call (.Name x p) (e::es) [] pos) (tE (P.kt X) (fX c n fl)):=by
 obtain⟨C,f,fd,ps,ns,hC,hn,hm,M,F,hb⟩:=D.ex;rw[fh,dq]at hs;refine aR (qG M F (hr.mono Al) hg hm hb .nil mw ha mq (ao hs.1) (eM hs.2)) λσ H Q zz=>?_;obtain⟨g,s,t,s',x,h,k⟩:=zz;obtain⟨⟨ts,s1⟩,h1,h⟩:=aa h;dsimp only at h;split at h
 ·rename_i hl
  cases h;refine⟨g,s,ts,_,x,h1,λvs g1 H1 p1 x1 r1 x dx nx nd jr=>?_⟩;have à:vs.length=ns.length:=by rw[<- r1.len,hl,hn]
  refine⟨x,dx,vs++[],rfl,by rw[cJ,à],aj,rfl,?_⟩
  rw[cJ,xy];obtain⟨gr,rp⟩:=yh (c:=c) (ts:=ts) x1 hC (by omega) r1 nx nd jr
  exact k _ (g1.grow _) _ (p1.trans (x1.gk gr)) (x1.grow gr) rp
 ·cases h
section
structure Ys(K:bz)(C:Addr):Prop where
 makes:A9 K C=true
 init:gn K (.ref C) "__init__" = some (some (.builtin "object.__init__"))
 kp:oj K (.ref C)=true
def Wl(C:Addr):TE:=λ_ H Q=>∀x dx,H x=none->H dx=none->dx≠x->Q (.ref x) (upd (upd H dx (.own x)) x (.ins C dx []))
open PySem.W in
def My{C:Addr}(M:Ys X.K C)(hg:Gl X x)(hm:X.mg x=some (.ref C))(mq:cu x:=by decide):PE X (.Call (.Name x p) [] [] pos) (Wl C):=by
 intro ae s σ H Q I h;refine wpAny_Call_Name_kw (jC I hg hm ?_ mq);refine Bh I.j6 M.kp ?_;have hq:=h (s.heap.objs.size+1) s.heap.objs.size (I.bL.fresh (BL _)) (I.bL.fresh (c_ _)) (eF (sC _));have I2:=Inv.made (C:=C) I;have KX:=I.j6;obtain⟨hh,g,d,t,os⟩:=s;refine wpAny_call ?_;have Y:=makes_of (M:=model X.prog X.w) KX M.makes;refine make_core Y (looks_findIn KX M.init) (λself=>Looks.of_pure (oi_bind self)) (.inr ⟨rfl,rfl⟩) ?_;have hz:(hh.push emptyDict).objs.size=hh.objs.size+1:=Heap.size_push ..;have gt:((hh.push emptyDict).push (instObj C hh.objs.size)).get? (hh.objs.size+1)=some (instObj C hh.objs.size):=by
  rw[<- hz];exact Heap.get?_push_size _ rfl
 have t1:Looks (model X.prog X.w) ((hh.push emptyDict).push (instObj C hh.objs.size)) (typeOf (.ref (hh.objs.size+1))) (.ref C):=(Looks.ld gt).andThen .now;have t2:Looks (model X.prog X.w) ((hh.push emptyDict).push (instObj C hh.objs.size)) (isInstance (.ref (hh.objs.size+1)) (.type "object")) true:=t1.andThen (Y.top.keeps λb o e=>Heap.get?_push_of_some _ (Heap.get?_push_of_some _ e));refine codeAny_call_builtin oi_plain entry_oi (@check_slot (model X.prog X.w) _ _ _ "object.__init__" "object" "__init__" (.ref (hh.objs.size+1)) [] [] _ oi_kind oi_split t2 (oi_args (.ref (hh.objs.size+1))) ?_);show wpAny _ _ (Builtin.«object.__init__» ⟨[Value.ref (hh.objs.size+1)],[]⟩) _ _ _;rw[oi_run];exact wpAny_pure (And.intro rfl ⟨V.ref (hh.objs.size+1),_,I2,rfl,hq⟩)
end
structure Rm(P:Pg)(Pr:Program)(w:World)(K:bz)(mg:Str->D1)(c:Nat)(x:Str):Prop where
 ex:∃(C:Addr)(ns:Bi),ib (iX P K Pr w) c C ns/\mg x=some (.ref C)/\Ys K C
def Mz{c:Nat}(D:Rm P X.prog X.w X.K X.mg c x)(hg:Gl X x)(mq:cu x):PE X (.Call (.Name x p) [] [] pos) (tE (P.kt X) (fX c 0 bg)):=by
 obtain⟨C,ns,hC,hm,M⟩:=D.ex;refine aR (My M hg hm mq) λσ H Q zz=>?_;obtain⟨g,s,t,s',z,h,k⟩:=zz;cases h;intro x dx nx nd jr;obtain⟨gr,rp⟩:=yh (c:=c) (ts:=[]) (vs:=[]) z hC (jz _) rfl nx nd jr;have e:ns.zip ([]:List V)=[]:=IP
 have:=k _ (g.grow _) _ (z.gk gr) (z.grow gr) rp
 rw[e]at this;exact this
section
structure Walk(B:KT)(al:BM)(J:It)(HF:Hp)(ts:FK):Prop where
 go:∀i H,aM HF H->i<ts.length->J.go i H
 yld:∀i H x H',aM HF H->i<ts.length->J.yld i H x H'->∃t,ts[i]?=some t/\∀uf,aM HF uf->aM uf H->∃MA,Gr uf H MA H'/\Rep B al MA t x
 stop:∀i H,aM HF H->i=ts.length->J.stop i H
def Am{B:KT}{al:BM}{HF:Hp}{l:Addr}{ts:FK}{vs:List V}(h:HF l=some (.lst vs))(r:aC B al HF ts vs):Walk B al (Uk B.K l) HF ts:=by
 refine⟨λi H sm hi=>?_,λi H x H' sm hi y=>?_,λi H sm hi=>⟨vs,cV.of (sm _ _ h),by rw[hi,r.len];exact c_ _⟩⟩
 ·obtain⟨v,e,_⟩:=r.get (cX hi)
  exact⟨vs,v,cV.of (sm _ _ h),e⟩
 ·obtain⟨rfl,y⟩:=y
  have e:=y vs (cV.of (sm _ _ h));obtain⟨t,e1,e2⟩:=r.vN e;exact⟨t,e1,λuf s1 s2=>⟨uf,.refl s2,e2.same s1⟩⟩
def Dj{B:KT}{al:BM}{HF:Hp}{l:Addr}{ts:FK}{vs:List V}(h:lh B.K HF l vs)(r:aC B al HF ts vs):Walk B al (Vj B.K l) HF ts:=by
 refine⟨λi H sm hi=>?_,λi H x H' sm hi y=>?_,λi H sm hi=>⟨vs,cZ sm h,by rw[hi,r.len];exact c_ _⟩⟩
 ·obtain⟨v,e,_⟩:=r.get (cX hi)
  exact⟨vs,v,cZ sm h,e⟩
 ·obtain⟨rfl,y⟩:=y
  have e:=y vs (cZ sm h);obtain⟨t,e1,e2⟩:=r.vN e;exact⟨t,e1,λuf s1 s2=>⟨uf,.refl s2,e2.same s1⟩⟩
def jN{B:KT}{al:BM}{J:It}{src:List V}{ts:FK}{HF:Hp}(d:Uw J src (λ_=>True))(r:aC B al HF ts src):Walk B al J HF ts:=by
 refine⟨λi H sm hi=>d.go i H trivial (by rw[<- r.len];exact hi),λi H x H' sm hi y=>?_,λi H sm hi=>d.stop i H trivial (by rw[<- r.len];exact hi)⟩
 obtain⟨rfl,e⟩:=d.yld i H x H' trivial (by rw[<- r.len];exact hi) y
 obtain⟨t,e1,e2⟩:=r.vN e;exact⟨t,e1,λuf s1 s2=>⟨uf,.refl s2,e2.same s1⟩⟩
theorem aC.lE{B:KT}{al:BM}{H:Hp}(lo:Int)(n:Nat):aC B al H (D.lE lo n) ((bM n).map λk=>V.int (lo+(k:Nat))):=by
 have e1:D.lE lo n=((bM n).map λk=>lo+((k:Nat):Int)).map T.int:=by unfold D.lE;rw[du];rfl
 have e2:((bM n).map λk=>V.int (lo+(k:Nat)))=((bM n).map λk=>lo+((k:Nat):Int)).map V.int:=by rw[du];rfl
 rw[e1,e2];exact aC.ints _
def Dk(hi:Int)(n:Nat):Uw (VM hi n) ((bM n).map λk=>V.int (hi-(k:Nat))) (λ_=>True):=
 ⟨λi H _ h=>by rw[bK,qp]at h;exact h,
  λi H x H' _ hi y=>by
  obtain⟨e,ex⟩:=y;refine⟨e,?_⟩;have hi:i<n:=by rw[bK,qp]at hi;exact hi
  rw[fJ,wZ hi,ex];rfl,
  λi H _ h=>by rw[bK,qp]at h;exact BI h.symm⟩
def aC.á{B:KT}{al:BM}{H:Hp}(hi:Int)(n:Nat):aC B al H ((bM n).map λk=>T.int (hi-(k:Nat))) ((bM n).map λk=>V.int (hi-(k:Nat))):=by
 have e1:((bM n).map λk=>T.int (hi-(k:Nat)))=((bM n).map λk=>hi-((k:Nat):Int)).map T.int:=by rw[du];rfl
 have e2:((bM n).map λk=>V.int (hi-(k:Nat)))=((bM n).map λk=>hi-((k:Nat):Int)).map V.int:=by rw[du];rfl
 rw[e1,e2];exact aC.ints _
structure Sets(B:KT)(al:BM)(HF:Hp)(S:B1)(σ σ':St)(ρ ρ':Fs):Prop where
 len:σ'.length=σ.length
 lenR:ρ'.length=ρ.length
 off:∀(i:Nat),i∉S->σ'[i]?=σ[i]?/\ρ'[i]?=ρ[i]?
 on:∀(i:Nat),i∈S->i<ρ.length->∃(t:T)(v:V),ρ'[i]?=some (some (.val t))/\σ'[i]?=some (some v)/\Rep B al HF t v
structure qW(B:KT)(g:TG)(fg:FG)(S:B1):Prop where
 ok:∀(al:BM)(HF H:Hp)(σ:St)(ρ:Fs)(t:T)(v:V)(ρ':Fs)(Q:St->Hp->Prop),aM HF H->Rep B al HF t v->fg t ρ=some ρ'->ρ.length=σ.length->(∀σ',Sets B al HF S σ σ' ρ ρ'->Q σ' H)->g v σ H Q
def Sets.one{B:KT}{al:BM}{HF:Hp}{i:Nat}{σ:St}{ρ:Fs}{t:T}{v:V}(hl:ρ.length=σ.length)(r:Rep B al HF t v):Sets B al HF [i] σ (σ.set i (some v)) ρ (ρ.set i (some (.val t))):=by
 refine⟨e_,e_,λj hj=>?_,λj hj je=>?_⟩
 ·have:i≠j:=λe=>hj (by simp[e])
  rw[dB this,dB this];exact⟨rfl,rfl⟩
 ·have:j=i:=by simpa using hj
  subst this;exact⟨t,v,by rw[eu je],by rw[eu (by omega)],r⟩
def yi{B:KT}(i:Nat):qW B (xJ i) (setG i) [i]:=⟨λal HF H σ ρ t v ρ' Q sm r h hl q=>by
 cases h;exact q _ (.one hl r)⟩
def Sets.cons{B:KT}{al:BM}{HF:Hp}{i:Nat}{S:B1}{σ σ':St}{ρ ρ':Fs}{t:T}{v:V}(hl:ρ.length=σ.length)(r:Rep B al HF t v)(h:Sets B al HF S (σ.set i (some v)) σ' (ρ.set i (some (.val t))) ρ'):Sets B al HF (i::S) σ σ' ρ ρ':=by
 have o:=Sets.one (B:=B) (al:=al) (i:=i) hl r;refine⟨h.len.trans o.len,h.lenR.trans o.lenR,λj hj=>?_,λj hj je=>?_⟩
 ·obtain⟨h1,h2⟩:=h.off j (λz=>hj (by simp[z]))
  obtain⟨h3,h4⟩:=o.off j (λz=>hj (by simp at z;simp[z]))
  exact⟨h1.trans h3,h2.trans h4⟩
 ·by_cases hs:j∈S
  ·exact h.on j hs (by rw[e_];exact je)
  ·obtain⟨h1,h2⟩:=h.off j hs
   obtain⟨t',v',a,b,c⟩:=o.on j (by rcases cA.mp hj with z|z;exact(by simp[z]);exact absurd z hs) je
   exact⟨t',v',h2.trans a,h1.trans b,c⟩
def mZ:B1->JJ
 |[]=>Pe
 |i::is=>JK (xJ i) (mZ is)
theorem pZ{B:KT}{al:BM}:∀(is:B1)(HF H:Hp)(σ:St)(ρ:Fs)(ts:FK)(vs:List V)(ρ':Fs)(Q:St->Hp->Prop),aM HF H->aC B al HF ts vs->xX is ts ρ=some ρ'->ρ.length=σ.length->(∀σ',Sets B al HF is σ σ' ρ ρ'->Q σ' H)->mZ is vs σ H Q
 |[],HF,H,σ,ρ,ts,vs,ρ',Q,sm,r,h,hl,q=>by
  cases ts with
  |cons t ts=>cases h
  |nil=>
   cases h;cases(show vs=[]from r);exact⟨rfl,q _ ⟨rfl,rfl,λ_ _=>⟨rfl,rfl⟩,λi hi=>by cases hi⟩⟩
 |i::is,HF,H,σ,ρ,ts,vs,ρ',Q,sm,r,h,hl,q=>by
  cases ts with
  |nil=>cases h
  |cons t ts=>
   obtain⟨v,vs',rfl,r1,r2⟩:=r;refine⟨v,vs',rfl,?_⟩;exact pZ is HF H _ _ ts vs' ρ' Q sm r2 h (by rw[e_,e_];exact hl) λσ' s=>q σ' (.cons hl r1 s)
def Dl{B:KT}(is:B1){n:Nat}(hn:is.length=n:=by rfl):qW B (La B.K n (mZ is)) (fS is) is:=⟨λal HF H σ ρ t v ρ' Q sm r h hl q=>by
 cases t<;>first|(cases h;done)|skip
 ·rename_i ts
  obtain⟨a,vs,rfl,q1,r⟩:=r;have bZ:∀(is:B1)(ts:FK)(ρ:Fs),xX is ts ρ=some ρ'->is.length=ts.length:=by
   intro is
   induction is with
   |nil=>intro ts ρ h;cases ts with
    |nil=>rfl
    |cons=>cases h
   |cons i is ih=>intro ts ρ h;cases ts with
    |nil=>cases h
    |cons t ts=>simp[ih ts _ h]
  exact⟨a,vs,rfl,cZ sm q1,by rw[<- r.len,<- bZ _ _ _ h,hn],pZ is HF H σ ρ ts vs ρ' Q sm r h hl q⟩
⟩
theorem Walk.mv{al Gn:BM}{J:It}{HF fZ:Hp}{ts:FK}(w:Walk B al J HF ts)(p:al <+: Gn)(s:aM HF fZ):Walk B Gn J fZ ts:=
 ⟨λi H h=>w.go i H (s.trans h),λi H x H' h hi y=>let⟨t,h1,h2⟩:=w.yld i H x H' (s.trans h) hi y;⟨t,h1,λuf s1 s2=>let⟨MA,gr,r⟩:=h2 uf (s.trans s1) s2;⟨MA,gr,r.mv p (aM.refl _)⟩⟩,λi H h=>w.stop i H (s.trans h)⟩
def tI(B:KT)(f:FL):TI:=λσ H R=>∃g s ts s',SR B g H σ s/\f s=.ok (ts,s')/\∀J g' H',eV g H g' H'->SR B g' H' σ s'->Walk B g'.al J g'.HF ts->R J H'
def ug:PI X tg e (tI B eU):=λ_ _ _ _ _ _ ⟨_,_,_,_,_,h,_⟩=>by cases h
def J9{t t':TI}(h:PI X tg e t)(h':PI X tg e t'):PI X tg e (λσ H R=>t σ H R\/t' σ H R):=λae s σ H R I q=>by
 rcases q with q|q
 ·exact h ae s σ H R I q
 ·exact h' ae s σ H R I q
def MB:T->Bool
 |.str _=>false
 |_=>true
def MC:T->FC
 |.str _=>none
 |t=>UA t
def Dm(a:FE):FL:=λs=>(a s).bind λp=>(aX (MC p.1)).bind λts=>.ok (ts,p.2)
def An{al:BM}{HF:Hp}{a:Addr}{ns:Dx}(h:cV B.K HF a (ns.map V.int)):Walk B al (Uk B.K a) HF (ns.map T.int):=by
 refine⟨λi H sm hi=>?_,λi H x H' sm hi y=>?_,λi H sm hi=>⟨_,sm.seq h,by rw[hi,bK,bK];exact c_ _⟩⟩
 ·rw[bK]at hi
  exact⟨_,.int ns[i],sm.seq h,by rw[fJ,cX hi];rfl⟩
 ·rw[bK]at hi
  obtain⟨rfl,y⟩:=y;have e:=y _ (sm.seq h);obtain⟨t,e1,e2⟩:=(aC.ints (B:=B) (al:=al) (H:=HF) ns).vN e;exact⟨t,e1,λuf s1 s2=>⟨uf,.refl s2,e2.same s1⟩⟩
def J_(hB:B.K=X.K)(ha:PE X e (tE B fa)):PI X tg e (tI B (Dm fa)):=by
 refine kR (J9 (Fd ha) (Lg ha)) λσ H R zz=>?_;obtain⟨g,s,t,s',x,h,k⟩:=zz;obtain⟨⟨tx,s1⟩,h1,h⟩:=aa h;obtain⟨ts,h2,h⟩:=aa h;cases h;have h2:=ai h2;have Wm:=hB.symm;cases tx<;>first|(cases h2;done)|skip
 ·cases h2
  refine .inr ⟨g,s,_,_,x,h1,λv g1 H1 p1 x1 r1=>?_⟩;obtain⟨l,vs,rfl,q,r⟩:=r1;refine⟨l,rfl,⟨vs,hB▸cZ x1.sub q⟩,?_⟩;rw[Wm];exact k _ g1 H1 p1 x1 (Dj q r)
 ·cases h2
  refine .inl ⟨g,s,_,_,x,h1,λv g1 H1 p1 x1 r1=>?_⟩;obtain⟨l,vs,rfl,q,r⟩:=r1;refine⟨l,rfl,⟨vs,cV.of (x1.sub _ _ q)⟩,?_⟩;rw[Wm];exact k _ g1 H1 p1 x1 (Am q r)
 ·cases h2
  refine .inl ⟨g,s,_,_,x,h1,λv g1 H1 p1 x1 r1=>?_⟩;obtain⟨l,rfl,q⟩:=r1;refine⟨l,rfl,⟨_,hB▸x1.sub.seq q⟩,?_⟩;rw[Wm];exact k _ g1 H1 p1 x1 (An q)
def Rn(hB:B.K=X.K){px:Pos}(ha:PE X e (tE B fa)):PI X (.Name x px) e (tI B (j9 fa)):=by
 refine kR (J9 (J_ hB ha) (LK ha)) λσ H R zz=>?_;obtain⟨g,s,t,s',z,h,k⟩:=zz;obtain⟨⟨tx,s1⟩,h1,h⟩:=aa h;obtain⟨ts,h2,h⟩:=aa h;cases h;by_cases hs:MB tx=true
 ·refine .inl ⟨g,s,t,_,z,?_,k⟩
  unfold Dm;rw[h1];show(aX (MC tx)).bind _=_;have e:MC tx=UA tx:=by cases tx<;>first|rfl|(cases hs)
  rw[e,h2];rfl
 ·cases tx<;>first|(exact absurd rfl hs)|skip
  have h2:=ai h2;cases h2;refine .inr ⟨g,s,_,_,z,h1,λv g1 H1 p1 x1 r1=>?_⟩;obtain⟨rfl,hz⟩:=r1;exact⟨_,rfl,k _ g1 H1 p1 x1 (jN (F8 _) (aC.signs _))⟩
def Dn(hg:Gl X "range")(hm:X.mg "range" = none)(ha:PE X a (tE B fa))(hs:noStar a=true):PI X tg (.Call (.Name "range" p) [a] [] pos) (tI B (xW mL (cO fa bg))):=by
 have h0:starEach [a] X.env=[(false,eval a X.env)]:=ao hs;refine kR (zS hg hm (aW ha cj h0) h0) λσ H R zz=>?_;obtain⟨g,s,t,s',x,h,k⟩:=zz;obtain⟨⟨ts,s1⟩,h1,h⟩:=aa h;obtain⟨us,h2,h⟩:=aa h;cases h;obtain⟨⟨tx,s2⟩,h3,h1⟩:=aa h1;cases h1;have h2:=ai h2;cases tx<;>first|(cases h2;done)|skip
 obtain⟨z,rfl⟩:=aV h2;refine⟨g,s,_,_,x,h3,λv g1 H1 p1 x1 r1=>?_⟩;cases r1;exact⟨_,rfl,by omega,by omega,k _ g1 H1 p1 x1 (jN (pR 0 _) (aC.lE 0 _))⟩
def Dp(hg:Gl X "range")(hm:X.mg "range" = none)(ha:PE X a (tE B fa))(hb:PE X b (tE B fb))(hs:noStar a=true)(Ac:noStar b=true):PI X tg (.Call (.Name "range" p) [a,b] [] pos) (tI B (xW mL (cO fa (cO fb bg)))):=by
 have h0:starEach [b] X.env=[(false,eval b X.env)]:=ao Ac;have Yt:starEach [a,b] X.env=[(false,eval a X.env),(false,eval b X.env)]:=by rw[ao hs,h0]
 refine kR (zT hg hm (aW ha (aW hb cj h0) (by rw[Yt,h0])) Yt h0) λσ H R zz=>?_
 obtain⟨g,s,t,s',x,h,k⟩:=zz;obtain⟨⟨ts,s1⟩,h1,h⟩:=aa h;obtain⟨us,h2,h⟩:=aa h;cases h;obtain⟨⟨tx,s2⟩,h3,h1⟩:=aa h1;obtain⟨⟨ty,s3⟩,h4,h1⟩:=aa h1;cases h1;obtain⟨⟨tz,s4⟩,h5,h4⟩:=aa h4;cases h4;have h2:=ai h2;cases tx<;>first|(cases h2;done)|(cases tz<;>first|(cases h2;done)|skip)
 obtain⟨z,rfl⟩:=aV h2;refine⟨g,s,_,_,x,h3,λv g1 H1 p1 x1 r1=>⟨g1,_,_,_,x1,h5,λw g2 H2 p2 x2 r2=>?_⟩⟩;cases r1;cases r2;exact⟨_,_,rfl,⟨by omega,by omega,by omega,by omega⟩,k _ g2 H2 (p1.trans p2) x2 (jN (pR _ _) (aC.lE _ _))⟩
def mQ.sets{al:BM}{S':B1}{σ':St}{r r':Fs}(x:mQ B g H σ r)(â:al=g.al)(t:Sets B al g.HF S' σ σ' r r'):mQ B g H σ' r':=by
 subst â;refine⟨by rw[t.lenR,t.len];exact x.len,λi c h=>?_⟩
 by_cases hi:i∈S'
 ·have je:i<r.length:=by rw[<- t.lenR];exact(bD.mp h).1
  obtain⟨u,v,h1,h2,h3⟩:=t.on i hi je;rw[h]at h1;cases h1;exact⟨v,h2,h3⟩
 ·obtain⟨h1,h2⟩:=t.off i hi
  rw[h2]at h;obtain⟨v,h3,h4⟩:=x.at_ i c h;exact⟨v,h1.trans h3,h4⟩
end
def vX{B:KT}{al:BM}{HF:Hp}{S:B1}{σ':St}{ρ ρ':Fs}{k:Nat}{js:B1}{σ:St}(hS:∀i∈S,i<k)(s:Sets B al HF S (cQ k js σ) σ' ρ ρ'):dc (cQ k js σ) σ':=by
 have gen:∀(a b:St),a.length=b.length->(∀(i:Nat)(v:V),a[i]?=some (some v)->b[i]?=some (some v))->dc a b:=by
  intro a
  induction a with
  |nil=>intro b hl _;cases b with
   |nil=>trivial
   |cons=>cases hl
  |cons x a ih=>intro b hl h;cases b with
   |nil=>cases hl
   |cons y b=>
    have hr:=ih b (by simpa using hl) λi v e=>by simpa using h (i+1) v (by simpa using e)
    cases x with
    |none=>exact hr
    |some v=>
     have:=h 0 v rfl
     simp at this;subst this;exact⟨rfl,hr⟩
 refine gen _ _ s.len.symm λi v e=>?_;by_cases hi:i∈S
 ·have hk:=hS i hi
  unfold cQ at e;rw[gp (by rw[i9];exact hk),vj,if_pos hk]at e
  cases e
 ·rw[(s.off i hi).1];exact e
section
variable{scope:Scope}{ls fs:Bi}{js S':B1}{iter elt:Expr}{ifs:Bz}{gt:TG}{pA:FL}{fg:FG}{ft:FT}{fe:FE}
theorem SR.iW:∀(js:B1){g:G}{s:S},SR B g H σ s->∃g',eV g H g' H/\SR B g' H σ {s with r:=iW js s.r}
 |[],g,s,x=>⟨g,.refl,x⟩
 |j::js,g,s,x=>by
  show ∃g',eV g H g' H/\SR B g' H σ {s with r:=D.iW js (Gj s.r j)}
  have one:∃g1,eV g H g1 H/\SR B g1 H σ {s with r:=Gj s.r j}:=by
   unfold Gj;split
   ·rename_i ts h
    obtain⟨g1,v,p,y,_⟩:=x.iL h;exact⟨g1,p,y⟩
   ·exact⟨g,.refl,x⟩
  obtain⟨g1,p1,x1⟩:=one;obtain⟨g2,p2,x2⟩:=SR.iW js x1;exact⟨g2,p1.trans p2,x2⟩
def mQ.block{r:Fs}(x:mQ B g H σ r)(k:Nat)(js:B1):mQ B g.ah H (cQ k js σ) (iD k js r):=by
 refine⟨by unfold iD cQ;simp,λi c h=>?_⟩
 unfold iD at h;unfold cQ;by_cases hi:i<k
 ·rw[gp (by simpa using hi),vj,if_pos hi]at h
  cases h
 ·rw[eT (by simpa using hi),i9,fJ]at h
  rw[eT (by simpa using hi),i9,fJ]
  cases hj:js[i-k]? with
  |none=>rw[hj]at h;cases h
  |some j=>
   rw[hj]at h;have h:(match r[j]? with|some (some (.val t))=>some (C.val t)|_=>none)=some c:=by injection h
   split at h
   ·rename_i t hr
    cases h;obtain⟨v,h1,h2⟩:=x.at_ j _ hr;exact⟨v,by show some ((σ[j]?).join)=_;rw[h1];rfl,h2⟩
   ·cases h
def SR.MD{D:Addr}{u:HO}(x:SR B g H σ s)(hf:g.HF D=none)(ho:g.o D=none)(hl:∃w,H D=some w):SR B g (upd H D u) σ s:=by
 have ne:∀b p,g.o b=some p->b≠D:=λb p e z=>by rw[z,ho]at e;cases e
 refine⟨x.st.mv (λb w e=>?_) (λb p e=>?_) (aM.refl _) rfl λl p h _=>⟨h,aq (ne l p h)⟩,x.lc.len,λi c e=>?_⟩
 ·have:b≠D:=λz=>by rw[z,hf]at e;cases e
  rw[aq this];exact x.sub _ _ e
 ·obtain⟨h1,w,h2⟩:=x.st.live b p e
  exact⟨h1,w,by rw[aq (ne b p e)];exact h2⟩
 ·obtain⟨v,h1,h2⟩:=x.lc.at_ i c e
  exact⟨v,h1,a_.mv (g:=g) (g':=g) (aM.refl _) fj (λl h=>⟨h,aq (ne l _ h)⟩) h2⟩
def eV.MD{D:Addr}{u:HO}{g1:G}{H1:Hp}(p:eV g H g1 H1)(h0:H D=none):eV g H g1 (upd H1 D u):=
 ⟨p.fr,p.pre,λb w h n z=>by
  have:b≠D:=aK h h0
  rw[aq this];exact p.rest b w h n z,λb h=>by
  by_cases hb:b=D
  ·subst hb;exact h0
  ·rw[aq hb]at h;exact p.there b h⟩
def Ro:EY X [] (tT B fQ):=λae s σ H Q I z=>by
 obtain⟨g,st,t,s',x,h,k⟩:=z;cases h;exact FW ae s σ H Q I (k g H .refl x)
def Rp{c:Expr}(h:PT X c (tT B ft)):EY X [c] (tT B ft):=FY h
def vY{k:Nat}(E3:qW B gt fg S')(hS:∀i∈S',i<k):∀σ H Q,tO B (cT pA k js fg ft fe) σ H Q->tComp (tI B pA) k js gt (tT B ft) (tE B fe) σ H Q:=by
 rintro σ H Q ⟨g,s,ys,s',x,h,kk⟩
 obtain⟨⟨xs,s1⟩,h1,h⟩:=aa h;dsimp only at h;split at h
 case isFalse=>cases h
 rename_i hz;obtain⟨⟨rs,mm⟩,h2,h⟩:=aa h;cases h;unfold tComp;refine⟨g,s,xs,s1,x,h1,λJ g1 H1 p1 x1 wk D hD=>?_⟩;obtain⟨g2,p2,x2⟩:=x1.iW js;have wk:=wk.mv p2.pre p2.fr;obtain⟨b,hb⟩:∃b,b=iD k js (_root_.D.iW js s1.r):=⟨_,rfl⟩;rw[<- hb]at h2;have Yu:=p1.trans p2;have ã:H D=none:=Yu.there D hD;have nD:∀{gg:G}{ss:S},SR B gg H1 σ ss->gg.HF D=none/\gg.o D=none:=λ{gg ss} x=>⟨x.sub.free hD,by
  cases q:gg.o D with
  |none=>rfl
  |some p=>obtain⟨_,u,z⟩:=x.st.live D p q;rw[hD]at z;cases z⟩
 obtain⟨f2,o2⟩:=nD x2;obtain⟨Yv,_,_⟩:=mO (u:=.lst []) x2 hD;refine⟨λi m zs H2=>m=xs.length-i/\i<=xs.length/\∃g3 m3 done rest,eV g2 H1 g3 H2/\SR B g3 H2 σ ⟨_root_.D.iW js s1.r,m3⟩/\g3.HF D=none/\g3.o D=none/\H2 D=some (.lst zs)/\aC B g3.al g3.HF done zs/\done.length<=i/\cP fg ft fe b (xs.drop i) m3=.ok (rest,mm)/\rs=done++rest,
  ⟨xs.length,by simp,jz _,g2.grow g2.HF,s1.m,[],rs,x2.gk Yv,x2.grow Yv,f2,o2,aj,rfl,c_ _,by rw[Bl];exact h2,rfl⟩,?_⟩
 rintro i m zs H2 ⟨rfl,hi,g3,m3,done,rest,p3,x3,f3,o3,hl,rd,hdn,hr,rfl⟩
 by_cases je:i<xs.length
 ·have Yw:=p3.fr.trans x3.sub
  refine .inr ⟨wk.go i H2 Yw je,λv H3 y=>?_⟩;obtain⟨t,ht,y2⟩:=wk.yld i H2 v H3 Yw je y;obtain⟨Rq,ME,rx⟩:=y2 g3.HF p3.fr x3.sub;have Rr:xs.drop i=t::xs.drop (i+1):=by
   obtain⟨hh,e⟩:=bD.mp ht;rw[qt hh,e]
  rw[Rr]at hr;obtain⟨b1,q1,hr⟩:=aa hr;obtain⟨⟨c,s5⟩,q2,hr⟩:=aa hr;have x4:=x3.grow ME;have p4:=p3.trans (x3.gk ME);obtain⟨hl4,f4⟩:=ME.rest D _ hl f3;have eb:=x4.lc.block k js;rw[<- hb]at eb;refine E3.ok g3.al Rq H3 _ _ t v b1 _ x4.sub (rx.mv p3.pre (aM.refl _)) (ai q1) eb.len λσ5 Ff=>⟨vX hS Ff,?_⟩;have xb:SR B (g3.grow Rq).ah H3 σ5 ⟨b1,m3⟩:=⟨x4.st.ah,eb.sets rfl Ff⟩;refine⟨(g3.grow Rq).ah,⟨b1,m3⟩,c,s5,xb,q2,λg6 H6 p6 x6=>?_⟩;cases c with
  |true=>
   obtain⟨⟨y',s7⟩,q3,hr⟩:=aa hr;obtain⟨⟨ä,m8⟩,q4,hr⟩:=aa hr;cases hr;refine sY ⟨g6,s5,y',s7,x6,q3,λv7 g7 H7 p7 x7 r7=>?_⟩;obtain⟨pB,xB⟩:=x4.back (p6.trans p7) x7.st;have p8:=p4.trans pB;obtain⟨UG,f7,o7⟩:=(x3.gk ME |>.trans pB).rest D _ hl f3 o3;have Wn:zs.length<sizeLine:=by rw[<- rd.len,sizeLine_eq];omega
   refine⟨UG,Wn,xs.length-(i+1),by omega,rfl,je,G.back (g3.grow Rq) g7,s7.m,done++[y'],ä,p8.MD hD,xB.MD f7 o7 ⟨_,UG⟩,f7,o7,aj,?_,by simp;omega,q4,by simp⟩
   have st:=(x3.gk ME).trans pB;exact(rd.mv st.pre st.fr).app (.one r7)
  |false=>
   obtain⟨pB,xB⟩:=x4.back p6 x6.st;obtain⟨UG,f7,o7⟩:=(x3.gk ME |>.trans pB).rest D _ hl f3 o3;have st:=(x3.gk ME).trans pB;exact sX ⟨xs.length-(i+1),by omega,rfl,je,G.back (g3.grow Rq) g6,s5.m,done,rest,p4.trans pB,xB,f7,o7,UG,rd.mv st.pre st.fr,by omega,hr,rfl⟩
 ·have e:i=xs.length:=by omega
  subst e;rw[Bv]at hr;cases hr;rw[cJ]at kk;exact .inl ⟨wk.stop _ H2 (p3.fr.trans x3.sub) rfl,kk D zs g3 H2 (Yu.trans p3) x3 ã f3 o3 hl rd⟩
def MF(ls:Bi)(hc:X.calm=true)(Sc:fY X scope)(F:fM X scope js fs)(hi:PI X tg iter (tI B pA))(hg:∀cl C fp s H,PG (X.block (ls++fs) scope cl C fp s H) tg gt)(E3:qW B gt fg S')
  (ht:∀cl C fp s H,EY (X.block (ls++fs) scope cl C fp s H) ifs (tT B ft)) (he:∀cl C fp s H,PE (X.block (ls++fs) scope cl C fp s H) elt (tE B fe))
  (hS:∀i∈S',i<ls.length) (hs:∀x,foldedSetIterable iter X.env x=pure x):PE X (.ListComp elt [⟨tg,iter,ifs,0⟩] scope pos) (tO B (cT pA ls.length js fg ft fe)):=
 aR (FZ ls hc Sc F hi hg ht he hs) (vY E3 hS)
end
def Dq(B:KT)(g:G)(H:Hp)(D:Ends):Out->S->Prop
 |.nx,s'=>∀σ' g' H',eV g H g' H'->SR B g' H' σ' s'->D.nx σ' H'
 |.rt t,s'=>∀v g' H',eV g H g' H'->fU B g' H' s'.m->Rep B g'.al g'.HF t v->D.rt v H'
 |.bk,s'=>∀σ' g' H',eV g H g' H'->SR B g' H' σ' s'->D.bk σ' H'
 |.ct,s'=>∀σ' g' H',eV g H g' H'->SR B g' H' σ' s'->D.ct σ' H'
def tS(B:KT)(f:FS):TS:=λD σ H=>∃g s o s',SR B g H σ s/\f s=.ok (o,s')/\Dq B g H D o s'
section
variable{cy Ad:Pos}{ft:FT}{H1:Hp}{g1:G}{F Gf:FS}{st:Stmt}{rest MG:Ee}{i:Nat}
def Dq.mv{D:Ends}{o:Out}(k:Dq B g H D o s')(p:eV g H g1 H1):Dq B g1 H1 D o s':=by
 cases o with
 |nx=>exact λσ' g' H' q x=>k σ' g' H' (p.trans q) x
 |rt t=>exact λv g' H' q x r=>k v g' H' (p.trans q) x r
 |bk=>exact λσ' g' H' q x=>k σ' g' H' (p.trans q) x
 |ct=>exact λσ' g' H' q x=>k σ' g' H' (p.trans q) x
def Rt:jB X MG (tS B cD):=λ_ _ _ _ _ _ ⟨_,_,_,_,_,h,_⟩=>by cases h
def bU:PS X st (tS B cD):=λ_ _ _ _ _ _ ⟨_,_,_,_,_,h,_⟩=>by cases h
def Ru:jB X [] (tS B aG):=CP xG λD σ H z=>by
 obtain⟨g,s,o,s',x,h,k⟩:=z;cases h;exact k σ g H .refl x
def MH(h1:PS X st (tS B F))(h2:jB X rest (tS B Gf)):jB X (st::rest) (tS B (af F Gf)):=CP (sL h1 h2) λD σ H z=>by
 obtain⟨g,s,o,s',x,h,k⟩:=z;obtain⟨⟨o1,s1⟩,e1,h⟩:=aa h;refine⟨g,s,o1,s1,x,e1,?_⟩;cases o1 with
 |nx=>exact λσ1 g1 H1 p1 x1=>⟨g1,s1,o,s',x1,h,k.mv p1⟩
 |rt t=>cases h;exact k
 |bk=>cases h;exact k
 |ct=>cases h;exact k
def Rv(h:PS X st (tS B F)):jB X [st] (tS B F):=xH h
def MI:PS X (.Pass pos) (tS B aG):=c5 E_ λD σ H z=>by
 obtain⟨g,s,o,s',x,h,k⟩:=z;cases h;exact k σ g H .refl x
def Ka(hN:X.N.Nodup)(hi:X.N[i]?=some x)(hx:Loc X.env.scope x)(he:PE X e (tE B fa))(hs:swapsWith e (some (.Name x cy)) pos.line X.env=pure false)(hf:X.fn x=true\/X.env.scope.names.lookup x=some .local) :
  PS X (.Assign [.Name x cy] e pos) (tS B (aE i fa)):=c5 (vp hN hi hx he hs hf) λD σ H z=>by
 obtain⟨g,s,o,s',x,h,k⟩:=z;obtain⟨⟨t,s1⟩,e1,h⟩:=aa h;cases h;exact⟨g,s,t,s1,x,e1,λv g1 H1 p1 x1 r1=>k _ g1 H1 p1 (x1.set r1)⟩
def yj{D:Ends}{ts:FK}{s1:S}(k:Dq B g H D .nx (j7 s1 i (.ol ts))){l:Addr}{vs:List V}(p1:eV g H g1 H1)(x1:SR B g1 H1 σ s1)(h0:H l=none)(n1:g1.HF l=none)(n2:g1.o l=none)(hl:H1 l=some (.lst vs))(r:aC B g1.al g1.HF ts vs):D.nx (σ.set i (some (.ref l))) H1:=by
 refine k _ (g1.own l (.loc i)) H1 ⟨p1.fr,p1.pre,λb u h n z=>?_,p1.there⟩ (x1.own n2 n1 hl r);obtain⟨a,b',c⟩:=p1.rest b u h n z
 have:b≠l:=aK h h0
 exact⟨a,b',by show(if b=l then some (jd.loc i)else g1.o b)=none;rw[if_neg this];exact c⟩
def Kc(hN:X.N.Nodup)(hi:X.N[i]?=some x)(hx:Loc X.env.scope x)(he:PE X e (tO B fl))(hs:swapsWith e (some (.Name x cy)) pos.line X.env=pure false)(hf:X.fn x=true\/X.env.scope.names.lookup x=some .local) :
  PS X (.Assign [.Name x cy] e pos) (tS B (ia i fl)):=c5 (vp hN hi hx he hs hf) λD σ H z=>by
 obtain⟨g,s,o,s',x,h,k⟩:=z;obtain⟨⟨ts,s1⟩,e1,h⟩:=aa h;cases h;exact⟨g,s,ts,s1,x,e1,λl vs g1 H1 p1 x1 h0 n1 n2 hl r=>yj k p1 x1 h0 n1 n2 hl r⟩
section
variable{scope:Scope}{ls fs:Bi}{js S':B1}{iter elt:Expr}{ifs:Bz}{gt:TG}{pA:FL}{fg:FG}{fe:FE}
def MJ(ls:Bi)(hc:X.calm=true)(hN:X.N.Nodup)(hi:X.N[i]?=some x)(hx:Loc X.env.scope x)(Sc:fY X scope)(Fr:fM X scope js fs)(hit:PI X tg iter (tI B pA))(hg:∀cl C fp s H,PG (X.block (ls++fs) scope cl C fp s H) tg gt)(E3:qW B gt fg S')
  (ht:∀cl C fp s H,EY (X.block (ls++fs) scope cl C fp s H) ifs (tT B ft)) (he:∀cl C fp s H,PE (X.block (ls++fs) scope cl C fp s H) elt (tE B fe))
  (hS:∀i∈S',i<ls.length) (hs:∀x,foldedSetIterable iter X.env x=pure x) (hf:X.fn x=true\/X.env.scope.names.lookup x=some .local)
  (Uv:swapsWith (.ListComp elt [⟨tg,iter,ifs,0⟩] scope cC) (some (.Name x cy)) pos.line X.env=pure true) :
  PS X (.Assign [.Name x cy] (.ListComp elt [⟨tg,iter,ifs,0⟩] scope cC) pos) (tS B (ia i (cT pA ls.length js fg ft fe))) /\
  PS X (.Assign [.Name x cy] (.ListComp elt [⟨tg,iter,ifs,0⟩] scope cC) pos) (tS B (aE i (eK (cT pA ls.length js fg ft fe)))):=by
 constructor
 ·refine c5 (xR ls hc hN hi hx Sc Fr hit hg ht he hs hf Uv) λD σ H zz=>?_
  obtain⟨g,s,o,s',x,h,k⟩:=zz;obtain⟨⟨ts,s1⟩,e1,h⟩:=aa h;cases h;exact vY E3 hS σ H _ ⟨g,s,ts,s1,x,e1,λl vs g1 H1 p1 x1 h0 n1 n2 hl r=>yj k p1 x1 h0 n1 n2 hl r⟩
 ·refine c5 (xR ls hc hN hi hx Sc Fr hit hg ht he hs hf Uv) λD σ H zz=>?_
  obtain⟨g,s,o,s',x,h,k⟩:=zz;obtain⟨⟨t,s2⟩,e0,h⟩:=aa h;obtain⟨⟨ts,s1⟩,e1,e0⟩:=aa e0;cases e0;cases h;exact vY E3 hS σ H _ ⟨g,s,ts,s1,x,e1,λl vs g1 H1 p1 x1 h0 n1 n2 hl r=>k _ (g1.grow (upd g1.HF l (.lst vs))) H1 (p1.CQ h0 n1) ((x1.CQ n1 n2 hl).set (t:=.lst ts) ⟨l,vs,rfl,aj,r.same (aZ n1)⟩)⟩
end
def Rw{gt:TG}{fg:FG}{S':B1}(he:PE X e (tE B fa))(hg:PG X tg gt)(E3:qW B gt fg S')(hs:swapsWithSole [tg] e pos.line X.env=pure false)(hw:swappedStores [tg] e X.env=pure none)
  (h1:(assignEach [tg] X.env).map (·.2)=[assign tg X.env]):PS X (.Assign [tg] e pos) (tS B (Gk fg fa)):=c5 (B_ he hg hs hw h1) λD σ H z=>by
 obtain⟨g,s,o,s',x,h,k⟩:=z;obtain⟨⟨t,s1⟩,e1,h⟩:=aa h;obtain⟨r',e2,h⟩:=aa h;cases h;exact⟨g,s,t,s1,x,e1,λv g1 H1 p1 x1 r1=>E3.ok g1.al g1.HF H1 σ s1.r t v r' _ x1.sub r1 (ai e2) x1.lc.len λσ' st=>k σ' g1 H1 p1 ⟨x1.st,x1.lc.sets rfl st⟩⟩
def Rx(he:PE X e (tE B fa)):PS X (.Return (some e) pos) (tS B (aA fa)):=c5 (K9 he) λD σ H z=>by
 obtain⟨g,s,o,s',x,h,k⟩:=z;obtain⟨⟨t,s1⟩,e1,h⟩:=aa h;cases h;exact⟨g,s,t,s1,x,e1,λv g1 H1 p1 x1 r1=>k v g1 H1 p1 x1.st r1⟩
def MK:PS X (.Return none pos) (tS B (aA (cF .non))):=c5 Fb λD σ H z=>by
 obtain⟨g,s,o,s',x,h,k⟩:=z;cases h;exact k _ g H .refl x.st rfl
def ML(he:PE X e (tE B fa))(hs:swapsWith e none pos.line X.env=pure false):PS X (.Expr e pos) (tS B (aJ fa)):=c5 (jD he hs) λD σ H z=>by
 obtain⟨g,s,o,s',x,h,k⟩:=z;obtain⟨⟨t,s1⟩,e1,h⟩:=aa h;cases h;exact⟨g,s,t,s1,x,e1,λv g1 H1 p1 x1 r1=>k σ g1 H1 p1 x1⟩
def Wo{A A':Ee}(hc:PT X c (tT B ft))(ha:jB X A (tS B F))(hb:jB X A' (tS B Gf)):PS X (.If c A A' pos) (tS B (aY ft F Gf)):=c5 (Pb hc ha hb) λD σ H z=>by
 obtain⟨g,s,o,s',x,h,k⟩:=z;obtain⟨⟨d,s1⟩,e1,h⟩:=aa h;refine⟨g,s,d,s1,x,e1,λg1 H1 p1 x1=>?_⟩;cases d with
 |true=>exact sY ⟨g1,s1,o,s',x1,h,k.mv p1⟩
 |false=>exact sX ⟨g1,s1,o,s',x1,h,k.mv p1⟩
def eE{r:Fs}{ts:FK}(h:ku r[i]?=some ts):r[i]?=some (some (.ol ts)):=by
 unfold ku at h;split at h
 ·rename_i h2;cases h;exact h2
 ·cases h
def SR.oV(x:SR B g H σ s){ts:FK}(h:s.r[i]?=some (some (.ol ts))):∃l vs,σ[i]?=some (some (.ref l))/\g.o l=some (.loc i)/\H l=some (.lst vs)/\aC B g.al g.HF ts vs:=by
 obtain⟨v,h1,l,vs,rfl,h2,h3,h4⟩:=x.lc.at_ i _ h;exact⟨l,vs,h1,h2,h3,h4⟩
def Ry{py:Pos}(he:PE X e (tE B fa))(hN:X.N[i]?=some y)(hv:vd X.env.scope y)(hd:cu y)(lG:jA y)(hs:noStar e=true)(cL:(bF.endLine == cC.line)=true) :
  PS X (.Expr (.Call (.Attribute (.Name y py) "append" bF) [e] [] cC) pos) (tS B (iE i fa)):=by
 refine c5 (jD (pM PySem.F.plainAttrs_list PySem.F.slot_list_append PySem.F.type_list_append km (fL hN hv hd lG) (aW he cj (ao hs)) (dS rfl) (pY (by rw[fh,hs];rfl) (by decide)) cL (ao hs) rfl) rfl) λD σ H zz=>?_
 obtain⟨g,s,o,s',x,h,k⟩:=zz;obtain⟨us,e0,h⟩:=aa h;obtain⟨⟨t,s1⟩,e1,h⟩:=aa h;obtain⟨ts,e2,h⟩:=aa h;obtain⟨ts',e3,h⟩:=aa h;obtain⟨z,rfl⟩:=aV (ai e3);cases h;obtain⟨l0,å,q1,q2,q3,q4⟩:=x.oV (eE (ai e0));refine⟨_,q1,.inl ⟨rfl,_,cV.of q3⟩,g,s,t,s1,x,e1,λv g1 H1 p1 x1 r1=>?_⟩;have ho:=eE (ai e2);obtain⟨l,vs,w1,w2,w3,w4⟩:=x1.oV ho;rw[q1]at w1;cases w1;obtain⟨x2,p2⟩:=x1.chg ho q1 (w4.app (.one r1));exact⟨l0,vs,v,rfl,rfl,w3,by rw[<- w4.len,sizeLine_eq];omega,k σ g1 _ (p1.trans p2) x2⟩
def Rz{iter:Expr}{body:Ee}{gt:TG}{fg:FG}{S':B1}(hc:X.calm=true)(hi:PI X tg iter (tI B fl))(hg:PG X tg gt)(E3:qW B gt fg S')(hb:jB X body (tS B F))(hp:PassesOwn (model X.prog X.w) X.A X.env X.xe)
  (hs:∀x,foldedSetIterable iter X.env x=pure x):PS X (.For tg iter body [] pos) (tS B (fm fl fg F)):=by
 refine c5 (Lh hp hc hi hg hb hs) λD σ H zz=>?_;obtain⟨g,s,o,s',x,h,k⟩:=zz;obtain⟨⟨xs,s1⟩,e1,h⟩:=aa h;refine⟨g,s,xs,s1,x,e1,λJ g1 H1 p1 x1 wk=>?_⟩;refine⟨λi m σ2 H2=>m=xs.length-i/\i<=xs.length/\∃g2 s2,eV g1 H1 g2 H2/\SR B g2 H2 σ2 s2/\bo fg F (xs.drop i) s2=.ok (o,s'),
  ⟨xs.length,by simp,jz _,g1,s1,.refl,x1,by rw[Bl];exact h⟩,?_⟩
 rintro i m σ2 H2 ⟨rfl,Ø,g2,s2,p2,x2,oh⟩
 have Wq:=p2.fr.trans x2.sub;by_cases je:i<xs.length
 ·have hx:xs[i]?=some xs[i]:=cX je
  rw[qt je]at oh;obtain⟨r3,q1,oh⟩:=aa oh;obtain⟨⟨o3,s4⟩,q2,oh⟩:=aa oh;refine .inr ⟨wk.go i H2 Wq je,λσ' H'=>∃g' s5,eV g1 H1 g' H'/\SR B g' H' σ' s5/\bo fg F (xs.drop (i+1)) s5=.ok (o,s'),
   λσ' H' ⟨g',s5,a,b,c⟩=>⟨xs.length-(i+1),by omega,rfl,je,g',s5,a,b,c⟩,λv H3 y=>?_⟩
  obtain⟨t,ht,y2⟩:=wk.yld i H2 v H3 Wq je y;rw[hx]at ht;cases ht;obtain⟨MA,Yx,rx⟩:=y2 g2.HF p2.fr x2.sub;have x3:=x2.grow Yx;have p3:=p2.trans (x2.gk Yx);refine E3.ok g2.al MA H3 σ2 s2.r _ v r3 _ x3.sub (rx.mv p2.pre (aM.refl _)) (ai q1) x3.lc.len λσ4 st=>⟨g2.grow MA,⟨r3,s2.m⟩,o3,s4,⟨x3.st,x3.lc.sets rfl st⟩,q2,?_⟩;cases o3 with
  |nx=>exact λσ5 g5 H5 p5 x5=>⟨g5,s4,p3.trans p5,x5,oh⟩
  |ct=>exact λσ5 g5 H5 p5 x5=>⟨g5,s4,p3.trans p5,x5,oh⟩
  |bk=>
   cases oh;exact λσ5 g5 H5 p5 x5=>k σ5 g5 H5 ((p1.trans p3).trans p5) x5
  |rt t=>
   cases oh;exact λv g5 H5 p5 x5 r=>k v g5 H5 ((p1.trans p3).trans p5) x5 r
 ·have e:i=xs.length:=by omega
  subst e;rw[Bv]at oh;cases oh;exact .inl ⟨wk.stop _ H2 Wq rfl,k σ2 g2 H2 (p1.trans p2) x2⟩
def GL{body:Ee}(n:Nat)(hc:PT X c (tT B ft))(hb:jB X body (tS B F))(hp:PassesOwn (model X.prog X.w) X.A X.env X.xe):PS X (.While c body [] pos) (tS B (iF n ft F)):=by
 refine c5 (Cb hp hc hb) λD σ H zz=>?_;obtain⟨g,s,o,s',x,h,k⟩:=zz;refine⟨λm σ2 H2=>∃g2 s2,eV g H g2 H2/\SR B g2 H2 σ2 s2/\bB ft F m s2=.ok (o,s'),⟨n,g,s,.refl,x,h⟩,?_⟩
 rintro m σ2 H2 ⟨g2,s2,p2,x2,oh⟩
 cases m with
 |zero=>cases oh
 |succ m=>
  obtain⟨⟨d,s3⟩,q1,oh⟩:=aa oh;refine⟨g2,s2,d,s3,x2,q1,λg3 H3 p3 x3=>?_⟩;cases d with
  |false=>
   cases oh;exact sX (k σ2 g3 H3 (p2.trans p3) x3)
  |true=>
   obtain⟨⟨o4,s4⟩,q2,oh⟩:=aa oh;refine sY ⟨λσ' H'=>∃g' s5,eV g H g' H'/\SR B g' H' σ' s5/\bB ft F m s5=.ok (o,s'),λσ' H' ⟨g',s5,a,b,c⟩=>⟨m,sC m,g',s5,a,b,c⟩,?_⟩;refine⟨g3,s3,o4,s4,x3,q2,?_⟩;have UH:=p2.trans p3;cases o4 with
   |nx=>exact λσ5 g5 H5 p5 x5=>⟨g5,s4,UH.trans p5,x5,oh⟩
   |ct=>exact λσ5 g5 H5 p5 x5=>⟨g5,s4,UH.trans p5,x5,oh⟩
   |bk=>
    cases oh;exact λσ5 g5 H5 p5 x5=>k σ5 g5 H5 (UH.trans p5) x5
   |rt t=>
    cases oh;exact λv g5 H5 p5 x5 r=>k v g5 H5 (UH.trans p5) x5 r
end
section
def Ao{N:Bi}{vs:List V}{ts:FK}(r:aC B g.al g.HF ts vs):mQ B g H (L2.start N vs) (ts.map (λt=>some (C.val t))++dM (N.length-ts.length) none):=by
 refine⟨by unfold L2.start;simp[r.len],λi c h=>?_⟩
 by_cases hi:i<ts.length
 ·rw[gp (by simpa using hi),fJ,cX hi]at h
  cases h;obtain⟨v,h1,h2⟩:=r.get (cX hi);refine⟨v,?_,h2⟩;unfold L2.start;rw[gp (by rw[bK,<- r.len];exact hi),fJ,h1];rfl
 ·rw[eT (by simpa using hi),vj]at h
  split at h<;>cases h
def yk{np n:Nat}{F:FS}{ts:FK}{m m':FV}{t:T}(h:aF np n F ts m=.ok (t,m')):ts.length=np/\∃o s',F ⟨ts.map (λt=>some (.val t))++dM (n-ts.length) none,m⟩=.ok (o,s')/\s'.m=m'/\(o=.rt t\/(o=.nx/\t=.non)):=by
 unfold aF at h;split at h
 ·rename_i hl
  obtain⟨⟨o,s'⟩,h1,h⟩:=aa h;refine⟨hl,o,s',h1,?_⟩;cases o with
  |rt u=>cases h;exact⟨rfl,.inl rfl⟩
  |nx=>cases h;exact⟨rfl,.inr ⟨rfl,rfl⟩⟩
  |bk=>cases h
  |ct=>cases h
 ·cases h
variable{P:Program}{w:World}{K:bz}{mg:Str->D1}{base:Heap}
structure uh(K:bz)(x qual:Str)(st:Stmt)(f:Addr)(fd:FuncData):Prop where
 ex:∃(oc:Value)(od:Option Addr)(dV kV doc pm:Value)(an:Option Addr)(gU ct:Value)(z4:Array D1),
  fd=se x qual (jG st) (bA st) (aD st) dV kV doc pm an gU ct/\K.lookup f=some ⟨oc,od,.func fd,z4⟩/\wW K gU qual=true
 kp:oj K (.ref f)=true
def uh.ok{x qual:Str}{st:Stmt}{f:Addr}{fd:FuncData}{N ps:Bi}{k:Nat}{sp:Sp}(F:uh K x qual st f fd)(Sc:fk N ps (aD st))(len:∀vs H Q E,sp vs H Q E->vs.length=ps.length)
  (sP:∀(gU:Value)(A:Around)(outer:List Env)(s:Shared)(H:Hp)(vs:List V)(Q:VK)(E:XK),b8 k (A.deeper (JF qual (aD st) s.heap.objs.size f gU))->sp vs H Q E ->
   ∃t,jB (kj ko P w K mg base N qual (aD st) f gU A outer s H E).JI (bA st) t/\t {nx:=λ_ H'=>Q .non H',rt:=Q} (L2.start N vs) H):dh P w K mg base ko (k+1) f fd ps sp:=by
 obtain⟨oc,od,dV,kV,doc,pm,an,gU,ct,z4,rfl,lk,lG⟩:=F.ex;refine PV lk lG Sc len λA outer s H vs Q E hr Fx=>?_;obtain⟨t,h,q⟩:=sP gU A outer s H vs Q E hr Fx;exact⟨t,h.JI,q⟩
def MM{x qual:Str}{st:Stmt}{f:Addr}{fd:FuncData}{N ps:Bi}{k:Nat}{F:FS}(Fn:uh K x qual st f fd)(Sc:fk N ps (aD st))
  (body:∀(gU:Value)(A:Around)(outer:List Env)(s:Shared)(H:Hp)(E:XK),b8 k (A.deeper (JF qual (aD st) s.heap.objs.size f gU))->jB (kj ko P w K mg base N qual (aD st) f gU A outer s H E).JI (bA st) (tS B F)) :
  dh P w K mg base ko (k+1) f fd ps (n_ B (aF ps.length N.length F)):=by
 refine Fn.ok Sc (λvs H Q E h=>?_) (λgU A outer s H vs Q E hr h=>?_)
 ·obtain⟨g,ts,m,t,m',x,r,h,_⟩:=h
  rw[<- r.len,(yk h).1]
 ·obtain⟨g,ts,m,t,m',x,r,h,q⟩:=h
  obtain⟨_,o,s',h1,rfl,ho⟩:=yk h;refine⟨_,body gU A outer s H E hr,g,_,o,s',⟨x,Ao r⟩,h1,?_⟩;rcases ho with rfl|⟨rfl,rfl⟩
  ·exact λv g' H' p y rv=>q v g' H' p y rv
  ·exact λσ' g' H' p y=>q _ g' H' p y.st rfl
def GN{f:Addr}{fd:FuncData}{ps:Bi}{k:Nat}{fn:Fn}(F:dh P w K mg base ko k f fd ps (n_ B fn)):dh P w K mg base ko k f fd ps (n_ B (aN fn)):=F.imp λvs H Q E h=>by
 obtain⟨g,ts,m,t,m',x,r,h,q⟩:=h;unfold aN at h;split at h
 case isFalse=>cases h
 rename_i hn;cases e:fn ts []with
 |bad=>rw[e]at h;cases h
 |exc c fs s=>rw[e]at h;dsimp only at h;split at h<;>cases h
 |ok z=>
  rw[e]at h;dsimp only at h;split at h
  case isFalse=>cases h
  rename_i Uo;cases h;refine⟨⟨g.HF,λ_=>none,[]⟩,ts,[],z.1,z.2,⟨x.sub,λb p e=>(by cases e),rfl,λk ob e=>(by simp at e)⟩,aC.no hn r,e,λv g0 H' p y rv=>?_⟩
  have keep:∀b p,g.o b=some p->H' b=H b/\g0.HF b=none:=λb q hb=>by
   obtain⟨h1,u,h2⟩:=x.live b q hb;obtain⟨h3,h4,_⟩:=p.rest b u h2 h1 rfl;exact⟨h3.trans h2.symm,h4⟩
  refine q v ⟨g0.HF,g.o,g.al⟩ H' ⟨p.fr,fj,λb u h n z=>?_,p.there⟩ (x.mv y.sub (λb p e=>?_) p.fr rfl λl p h _=>⟨h,(keep l p h).1⟩) (Rep.no Uo rv)
  ·obtain⟨h3,h4,_⟩:=p.rest b u h n rfl
   exact⟨h3,h4,z⟩
  ·obtain⟨h1,u,h2⟩:=x.live b p e
   obtain⟨h3,h4⟩:=keep b p e;exact⟨h4,u,h3.trans h2⟩
end
section
variable{cy:Pos}
def SR.Kd{k:Nat}{ob m_:Ob}{a C dx:Addr}{ns:Bi}{vs vs':List V}(x:SR B g H σ s)(Z:A1 B g H k ob a C dx ns vs)(hk:s.m[k]?=some ob)(hc:m_.c=ob.c)(hle:vs'.length<=ns.length)(æ:vs'.length=m_.fs.length)
  (hf:∀j c,m_.fs[j]?=some c->∃v,vs'[j]?=some v/\a_ B g H (.fld k j) c v) :
  eV g H g (upd H a (.ins C dx (ns.zip vs')))/\SR B g (upd H a (.ins C dx (ns.zip vs'))) σ {s with m:=s.m.set k m_}:=by
 have ne:∀l q,g.o l=some q->q≠.ob k->upd H a (.ins C dx (ns.zip vs')) l=H l:=λl q hl hq=>aq λz=>hq (by rw[z,Z.o]at hl;cases hl;rfl)
 have sl:∀{q:jd}{c:_root_.D.C}{v:V},q≠.ob k->a_ B g H q c v->a_ B g (upd H a (.ins C dx (ns.zip vs'))) q c v:=λhq h=>a_.mv (g:=g) (g':=g) (aM.refl _) fj (λl hl=>⟨hl,ne l _ hl hq⟩) h;refine⟨qN Z.o,⟨⟨λb w e=>?_,λb q e=>?_,by rw[e_];exact x.st.len,λk' vZ e=>?_⟩,x.lc.len,λi c e=>?_⟩⟩
 ·have:b≠a:=λz=>by rw[z,(x.st.live a _ Z.o).1]at e;cases e
  rw[aq this];exact x.sub _ _ e
 ·obtain⟨h1,w,h2⟩:=x.st.live b q e
  by_cases hb:b=a
  ·exact⟨h1,_,by rw[hb,aj]⟩
  ·exact⟨h1,w,by rw[aq hb];exact h2⟩
 ·by_cases oW:k=k'
  ·subst oW
   have je:k<s.m.length:=(bD.mp hk).1;have e:(s.m.set k m_)[k]?=some vZ:=e;rw[eu je]at e;cases e;exact .inl ⟨a,C,dx,ns,vs',Z.al,Z.o,by rw[hc];exact Z.cl,aj,hle,æ,λj c h=>let⟨v,h1,h2⟩:=hf j c h;⟨v,h1,sl (λz=>by cases z) h2⟩⟩
  ·have e:(s.m.set k m_)[k']?=some vZ:=e
   rw[dB oW]at e;refine(x.st.at_ k' vZ e).mv (aM.refl _) fj λl q h hq=>⟨h,ne l q h ?_⟩;rcases hq with rfl|⟨j,rfl⟩
   ·exact λz=>oW (by cases z;rfl)
   ·exact λz=>by cases z
 ·obtain⟨v,h1,h2⟩:=x.lc.at_ i c e
  exact⟨v,h1,sl (λz=>by cases z) h2⟩
def Aq{fs pA:List C}{j:Nat}{c:C}(h:setAt fs j c=some pA):(j<fs.length/\pA=fs.set j c)\/(j=fs.length/\pA=fs++[c]):=by
 unfold setAt at h;split at h
 ·rename_i q;cases h;exact .inl ⟨q,rfl⟩
 ·split at h
  ·rename_i q;cases h;exact .inr ⟨q,rfl⟩
  ·cases h
def yl(O:mX X.K X.mg P){f:Nat}{n:Str}{k:Nat}{ob m_:Ob}{c':_root_.D.C}{a C dx:Addr}{ns:Bi}{vs:List V}{v:V}(hf:P.an[f]?=some n)(x:SR (P.kt X) g H σ s)(Z:A1 (P.kt X) g H k ob a C dx ns vs)(hk:s.m[k]?=some ob)(h:cY P.tab f c' ob=some m_)
  (hv:∀j,a_ (P.kt X) g H (.fld k j) c' v):pF X.K C/\eA X.K C n/\(ns.zip vs).length<1000 /\
  ∃vs',L2.cW n v (ns.zip vs)=ns.zip vs'/\eV g H g (upd H a (.ins C dx (ns.zip vs')))/\SR (P.kt X) g (upd H a (.ins C dx (ns.zip vs'))) σ {s with m:=s.m.set k m_}:=by
 obtain⟨j,h1,h2⟩:=dH.mp h;obtain⟨pA,h3,rfl⟩:=dg.mp h2;obtain⟨m,hm,nY,F⟩:=O.of Z.cl;have hj:=lJ hf nY h1;have ç:j<ns.length:=(bD.mp hj).1;refine⟨F.cl,F.na _ (i8 hj),by rw[sj];have:=F.pY;omega,?_⟩
 rcases Aq h3 with⟨je,rfl⟩|⟨rfl,rfl⟩
 ·refine⟨vs.set j v,yf F.nd hj Z.le (by rw[Z.ln];exact je),?_⟩
  refine x.Kd Z hk rfl (by rw[e_];exact Z.le) (by rw[e_,e_];exact Z.ln) λi c e=>?_
  by_cases hi:j=i
  ·subst hi
   rw[eu je]at e;cases e;exact⟨v,by rw[eu (by rw[Z.ln];exact je)],hv j⟩
  ·rw[dB hi]at e
   obtain⟨w,h4,h5⟩:=Z.f i c e;exact⟨w,by rw[dB hi];exact h4,h5⟩
 ·refine⟨vs++[v],qV F.nd (by rw[Z.ln];exact hj),?_⟩
  refine x.Kd Z hk rfl (by rw[b9,Z.ln];exact ç) (by rw[b9,b9,Z.ln];rfl) λi c e=>?_
  by_cases hi:i<ob.fs.length
  ·rw[gp hi]at e
   obtain⟨w,h4,h5⟩:=Z.f i c e;exact⟨w,by rw[gp (by rw[Z.ln];exact hi)];exact h4,h5⟩
  ·rw[eT (by omega)]at e
   have hz:i-ob.fs.length=0:=by
    have:=(bD.mp e).1
    simp at this;omega
   rw[hz]at e;cases e;exact⟨v,by rw[eT (by rw[Z.ln];omega),Z.ln,hz];rfl,hv i⟩
def RB(O:mX X.K X.mg P){f:Nat}{n:Str}(hf:P.an[f]?=some n)(ho:PE X o (tE (P.kt X) fo))(he:PE X e (tE (P.kt X) fa))(hs:swapsWith e (some (.Attribute o n cy)) pos.line X.env=pure false) :
  PS X (.Assign [.Attribute o n cy] e pos) (tS (P.kt X) (aH P.tab f fo fa)):=c5 (vC ho he hs) λD σ H z=>by
 obtain⟨g,s,oo,s',x,h,k⟩:=z;obtain⟨⟨t,s1⟩,h1,h⟩:=aa h;obtain⟨⟨tx,s2⟩,h2,h⟩:=aa h;cases tx<;>first|(cases h;done)|skip
 rename_i kk;obtain⟨m_,h3,h⟩:=aa h;cases h;obtain⟨ob,h4,h5⟩:=dH.mp (ai h3);refine⟨g,s,t,s1,x,h1,λv g1 H1 p1 x1 r1=>⟨g1,s1,_,s2,x1,h2,λw g2 H2 p2 x2 r2=>?_⟩⟩;obtain⟨a,rfl,ha⟩:=r2;rcases x2.st.at_ kk ob h4 with⟨a',C,dx,ns,vs,Z⟩|⟨a',Z⟩
 case inr=>
  obtain⟨j,q,_⟩:=dH.mp h5;obtain⟨l,q,_⟩:=dH.mp q;have z:(P.tab.map _)[ob.c]?=none:=Z.nf;rw[fJ,q]at z;cases z
 have:=Z.al.symm.trans ha
 cases this;obtain⟨cl,na,hl,vs',e1,p3,x3⟩:=yl O hf x2 Z h4 h5 (v:=v) λj=>r1.mv p2.pre p2.fr;refine⟨a,C,dx,_,rfl,Z.h,cl,na,hl,?_⟩;rw[e1];exact k σ g2 _ ((p1.trans p2).trans p3) x3
end
end D
namespace L2
open PySem PySem.Spec PyProof.Rows
section
variable{X:Cx}
end
end L2
namespace D
open PySem L2
variable{X:Cx}{env:Env}{a b c e o tg:Expr}{fa fb fc fo:FE}{fl:FL}{g g':G}{H H':Hp}{B:KT}{es:Bz}{i k n:Nat}{P:Pg}{bF cC p pos cy:Pos}{s s':S}{σ:St}{x y:Str}
section
def G.dU(g:G)(a:Addr):G:={g with o:=λb=>if b=a then some (.ob g.al.length)else g.o b,al:=g.al++[a]}
theorem SR.dU{c:Nat}{C q dx:Addr}{ns:Bi}(x:SR B g H σ s)(hC:ib B c C ns)(nx:H q=none)(nd:H dx=none)(jr:dx≠q) :
  eV g H (g.dU q) (upd (upd H dx (.own q)) q (.ins C dx []))/\SR B (g.dU q) (upd (upd H dx (.own q)) q (.ins C dx [])) σ {s with m:=s.m++[⟨c,[]⟩]}:=by
 have nf:g.HF q=none:=x.sub.free nx;have è:g.HF dx=none:=x.sub.free nd;have no:∀l p',g.o l=some p'->l≠q/\l≠dx:=λl p' h=>by
  obtain⟨_,u,z⟩:=x.st.live l p' h;exact⟨aK z nx,aK z nd⟩
 have OR:∀l,l≠q->l≠dx->upd (upd H dx (.own q)) q (.ins C dx []) l=H l:=λl h1 h2=>by rw[aq h1,aq h2]
 have ho:∀l p',g.o l=some p'->(g.dU q).o l=some p':=λl p' h=>by
  show(if l=q then some (jd.ob g.al.length)else g.o l)=_
  rw[if_neg (no l p' h).1];exact h
 have pre:g.al <+: (g.dU q).al:=xh _ _;refine⟨⟨aM.refl _,pre,λb u h n z=>?_,λb h=>?_⟩,⟨⟨λb u e=>?_,λb p' e=>?_,?_,λk ob e=>?_⟩,x.lc.len,λi c' e=>?_⟩⟩
 ·have h1:=aK h nx
  have h2:=aK h nd;refine⟨(OR b h1 h2).trans h,n,?_⟩;show(if b=q then some (jd.ob g.al.length)else g.o b)=none
  rw[if_neg h1];exact z
 ·by_cases h1:b=q
  ·subst h1;exact nx
  ·by_cases h2:b=dx
   ·subst h2;exact nd
   ·rw[OR b h1 h2]at h;exact h
 ·have h1:b≠q:=λz=>by rw[z]at e;have e:g.HF q=some u:=e;rw[nf]at e;cases e
  have h2:b≠dx:=λz=>by rw[z]at e;have e:g.HF dx=some u:=e;rw[è]at e;cases e
  rw[OR b h1 h2];exact x.sub _ _ e
 ·have e:(if b=q then some (jd.ob g.al.length)else g.o b)=some p':=e
  by_cases hb:b=q
  ·subst hb;exact⟨nf,_,aj⟩
  ·rw[if_neg hb]at e
   obtain⟨h1,u,h2⟩:=x.st.live b p' e;obtain⟨h3,h4⟩:=no b p' e;exact⟨h1,u,(OR b h3 h4).trans h2⟩
 ·show(s.m++[_]).length=(g.al++[q]).length
  rw[b9,b9,x.st.len];rfl
 ·have e:(s.m++[(⟨c,[]⟩:Ob)])[k]?=some ob:=e
  by_cases hk:k<s.m.length
  ·rw[gp hk]at e
   refine(x.st.at_ k ob e).mv (aM.refl _) pre λl p' h _=>⟨ho l p' h,?_⟩;obtain⟨h3,h4⟩:=no l p' h;exact OR l h3 h4
  ·rw[eT (by omega)]at e
   have Wr:k-s.m.length=0:=by
    have:=(bD.mp e).1
    simp at this;omega
   rw[Wr]at e;cases e;have oW:k=g.al.length:=by have:=x.st.len;omega
   subst oW;refine .inl ⟨q,C,dx,ns,[],?_,?_,hC,?_,jz _,rfl,λj c h=>by simp at h⟩
   ·show(g.al++[q])[g.al.length]?=some q
    rw[eT (c_ _),lV];rfl
   ·show(if q=q then some (jd.ob g.al.length)else g.o q)=_
    rw[if_pos rfl]
   ·rw[aj,IP]
 ·obtain⟨v,h1,h2⟩:=x.lc.at_ i c' e
  refine⟨v,h1,a_.mv (g:=g) (g':=g.dU q) (aM.refl _) pre (λl h=>⟨ho l _ h,?_⟩) h2⟩;obtain⟨h3,h4⟩:=no l _ h;exact OR l h3 h4
structure Yy(P:Pg)(Pr:Program)(w:World)(K:bz)(mg:Str->D1)(base:Heap)(k:Nat)(c:Nat)(x:Str)(f:Fn):Prop where
 ex:∃(C fi:Addr)(fd:FuncData)(ps:Bi)(ns:Bi),ib (iX P K Pr w) c C ns/\mg x=some (.ref C)/\Mk K C fi/\dh Pr w K mg base ko k fi fd ps (n_ (iX P K Pr w) f)/\Binds K fd ps []
def GO{c:Nat}{f:Fn}{t:T}(h:mK c f fl s=.ok (t,s')):∃ts s1 m',fl s=.ok (ts,s1)/\f (.own s1.m.length::ts) (s1.m++[⟨c,[]⟩])=.ok (.non,m')/\t=.own s1.m.length/\s'={s1 with m:=m'}:=by
 obtain⟨⟨ts,s1⟩,h1,h⟩:=aa h;dsimp only at h;cases q:f (.own s1.m.length::ts) (s1.m++[⟨c,[]⟩])with
 |ok r=>
  rw[q]at h;obtain⟨u,m'⟩:=r;cases u<;>first|(cases h;done)|skip
  cases h;exact⟨ts,s1,m',h1,q,rfl,rfl⟩
 |bad=>rw[q]at h;cases h
 |exc c fs s2=>rw[q]at h;cases h
def GP{c:Nat}{f:Fn}{C:Addr}{ns:Bi}{ts:FK}{vs:List V}{m':FV}{Q:VK}(hC:ib B c C ns)(x1:SR B g H σ s)(r1:aC B g.al g.HF ts vs)(h2:f (.own s.m.length::ts) (s.m++[⟨c,[]⟩])=.ok (.non,m'))
  (k:∀v g' H',eV g H g' H'->SR B g' H' σ {s with m:=m'}->Rep B g'.al g'.HF (.own s.m.length) v->Q v H'):∀q dx,H q=none->H dx=none->dx≠q->n_ B f (.ref q::(vs++[])) (upd (upd H dx (.own q)) q (.ins C dx [])) (λv H2=>v=.non/\Q (.ref q) H2) E0:=λq dx nx nd jr=>by
 obtain⟨p2,x2⟩:=x1.dU hC nx nd jr;rw[cJ];have hq:(g.dU q).al[s.m.length]?=some q:=by
  show(g.al++[q])[s.m.length]?=some q;rw[x1.st.len,eT (c_ _),lV];rfl
 refine ud (E:=E0) (ts:=.own s.m.length::ts) x2 ⟨_,vs,rfl,⟨q,rfl,hq⟩,r1.mv p2.pre p2.fr⟩ h2 λv g' H' p3 x3 rv=>⟨rv,k _ g' H' (p2.trans p3) x3 ⟨q,rfl,dR p3.pre hq⟩⟩
def MN{k j c:Nat}{f:Fn}(D:Yy P X.prog X.w X.K X.mg X.base k c x f)(hr:b8 j X.A)(Al:k+1<=j)(ha:PA X (e::es) (tA (P.kt X) fl))(hg:Gl X x)(mq:cu x)(hs:(e::es).all noStar=true) :
  PE X (.Call (.Name x p) (e::es) [] pos) (tE (P.kt X) (mK c f fl)):=by
 obtain⟨C,fi,fd,ps,ns,hC,hm,M,F,hb⟩:=D.ex;rw[fh,dq]at hs;refine aR (qG M F (hr.mono Al) hg hm hb .nil mw ha mq (ao hs.1) (eM hs.2)) λσ H Q zz=>?_;obtain⟨g,s,t,s',x,h,k⟩:=zz;obtain⟨ts,s1,m',h1,h2,rfl,rfl⟩:=GO h;exact⟨g,s,ts,s1,x,h1,λvs g1 H1 p1 x1 r1=>GP hC x1 r1 h2 λv g' H' p2 x2 rv=>k v g' H' (p1.trans p2) x2 rv⟩
def ji:Expr->Option (Expr×Bz×List Keyword×Pos)
 |.Call f a k p=>some (f,a,k,p)
 |_=>none
def asName:Expr->Option Str
 |.Name x _=>some x
 |_=>none
def fV:Expr->Option (Expr×Str×Pos)
 |.Attribute o f p=>some (o,f,p)
 |_=>none
def kE(e:Expr):Option (Str×Bz×List Keyword):=(ji e).bind λq=>(asName q.1).map λf=>(f,q.2.1,q.2.2.1)
def fG{e:Expr}{q}(h:ji e=some q):e=.Call q.1 q.2.1 q.2.2.1 q.2.2.2:=by
 cases e<;>first|(cases h;done)|(cases h;rfl)
def c7{e:Expr}{x:Str}(h:asName e=some x):∃p,e=.Name x p:=by
 cases e<;>first|(cases h;done)|(cases h;exact⟨_,rfl⟩)
def fq{e:Expr}{q}(h:fV e=some q):e=.Attribute q.1 q.2.1 q.2.2:=by
 cases e<;>first|(cases h;done)|(cases h;rfl)
def fW{e:Expr}{q}(h:kE e=some q):∃p pos,e=.Call (.Name q.1 p) q.2.1 q.2.2 pos:=by
 obtain⟨w,h1,h2⟩:=dH.mp h;obtain⟨f,h3,rfl⟩:=dg.mp h2;obtain⟨p,h4⟩:=c7 h3;rw[fG h1,h4];exact⟨_,_,rfl⟩
def Dr:Stmt->Option (Str×Str×Expr)
 |.Assign ts e _=>(match ts with
  |[t]=>(fV t).bind λq=>(asName q.1).map λs=>(s,q.2.1,e)
  |_=>none)
 |_=>none
def ym{st:Stmt}{q}(h:Dr st=some q):∃p0 pf pos,st=.Assign [.Attribute (.Name q.1 p0) q.2.1 pf] q.2.2 pos:=by
 cases st<;>first|(cases h;done)|skip
 rename_i ts e pos
 match ts,h with
 |[t],h=>
  obtain⟨w,h1,h2⟩:=dH.mp (show(fV t).bind _=some q from h);obtain⟨s,h3,rfl⟩:=dg.mp h2;obtain⟨p,h4⟩:=c7 h3;rw[fq h1,h4];exact⟨_,_,_,rfl⟩
def qX(st:Stmt):Option (Str×Str×Str):=(Dr st).bind λw=>(asName w.2.2).map λq=>(w.1,w.2.1,q)
def v9{st:Stmt}{z:Str×Str×Str}(h:qX st=some z):∃p0 pf pq pos,st=.Assign [.Attribute (.Name z.1 p0) z.2.1 pf] (.Name z.2.2 pq) pos:=by
 obtain⟨w,h1,h2⟩:=dH.mp h;obtain⟨q,h3,rfl⟩:=dg.mp h2;obtain⟨p0,pf,pos,rfl⟩:=ym h1;obtain⟨p,h4⟩:=c7 h3;rw[h4];exact⟨_,_,_,_,rfl⟩
def nh(N:Bi):Nat->Ee->Bi->Bool
 |_,[],[]=>true
 |i,st::rest,n::ns=>(match qX st with
  |some z=>decide (N[0]?=some z.1)&&decide (N[i]?=some z.2.2)&&decide (z.2.1=n)
  |none=>false)&&nh N (i+1) rest ns
 |_,_,_=>false
def UI(K:bz):Nat->Bi->TS
 |_,[]=>B7
 |i,n::ns=>O9 (PK K (K1 0) (K1 i) n) (UI K (i+1) ns)
theorem yn(hv:∀(i:Nat)(x:Str),X.N[i]?=some x->vd X.env.scope x/\cu x/\jA x):∀(body:Ee)(ns:Bi)(i:Nat),nh X.N i body ns=true->jB X body (UI X.K i ns)
 |[],[],_,_=>xG
 |[],_::_,_,h=>by cases h
 |st::rest,[],_,h=>by cases h
 |st::rest,n::ns,i,h=>by
  have h:((match qX st with
   |some z=>decide (X.N[0]?=some z.1)&&decide (X.N[i]?=some z.2.2)&&decide (z.2.1=n)
   |none=>false)&&nh X.N (i+1) rest ns)=true:=h
  rw[dq]at h;obtain⟨h1,h5⟩:=h;cases e:qX st with
  |none=>rw[e]at h1;cases h1
  |some z=>
   rw[e]at h1;simp only[dq,decide_eq_true_eq]at h1;obtain⟨⟨h2,h3⟩,rfl⟩:=h1;obtain⟨p0,pf,pq,pos,rfl⟩:=v9 e;obtain⟨v1,v2,v3⟩:=hv 0 _ h2;obtain⟨w1,w2,w3⟩:=hv i _ h3;exact sL (vC (fL h2 v1 v2 v3) (fL h3 w1 w2 w3) rfl) (yn hv rest ns (i+1) h5)
theorem yo{K:bz}{C q dx:Addr}{N:Bi}{all:List V}{D:Ends}(cl:pF K C):∀(ns qY:Bi)(as qZ:List V)(H:Hp),(∀f∈ns,eA K C f)->(qY++ns).Nodup->(qY++ns).length<=100->qZ.length=qY.length->as.length=ns.length->all=.ref q::(qZ++as)->H q=some (.ins C dx (qY.zip qZ)) ->
  D.nx (L2.start N all) (upd H q (.ins C dx ((qY++ns).zip (qZ++as))))->UI K (qZ.length+1) ns D (L2.start N all) H
 |[],qY,as,qZ,H,_,_,_,hl0,hl,ha,hq,k=>by
  have:as=[]:=Bt.mp hl
  subst this;rw[cJ,cJ]at k;have e:upd H q (.ins C dx (qY.zip qZ))=H:=by
   funext b
   by_cases hb:b=q
   ·subst hb;rw[aj,hq]
   ·rw[aq hb]
  rw[e]at k;exact k
 |n::ns,qY,[],qZ,H,_,_,_,hl0,hl,ha,hq,k=>by cases hl
 |n::ns,qY,v::as,qZ,H,hna,nd,hsz,hl0,hl,ha,hq,k=>by
  have hg:(L2.start N all)[qZ.length+1]?=some (some v):=by
   unfold L2.start;rw[gp (by rw[ha];simp),fJ,ha,List.getElem?_cons_succ,eT (c_ _),lV];rfl
  have h0:(L2.start N all)[0]?=some (some (.ref q)):=by
   unfold L2.start;rw[gp (by rw[ha];simp),fJ,ha];rfl
  have hn:n∉qY:=λz=>by
   rw[IQ]at nd;exact nd.2.2 n z n (ee ..) rfl
  refine⟨v,hg,.ref q,h0,q,C,dx,qY.zip qZ,rfl,hq,cl,hna n (ee ..),?_,?_⟩
  ·rw[sj];rw[b9]at hsz;omega
  ·have e1:L2.cW n v (qY.zip qZ)=(qY++[n]).zip (qZ++[v]):=by
    have:=qV (f:=n) (v:=v) (ns:=qY++[n]) (vs:=qZ) (by
     rw[show qY++n::ns=(qY++[n])++ns by simp]at nd
     exact(IQ.mp nd).1) (by rw[hl0,eT (c_ _),lV];rfl)
    rw[<- this]
    congr 1
    have:∀(a:Bi)(b:List V)(r:Bi),b.length=a.length->a.zip b=(a++r).zip b:=by
     intro a
     induction a with
     |nil=>intro b r h;cases b with
      |nil=>simp
      |cons=>cases h
     |cons x a ih=>intro b r h;cases b with
      |nil=>cases h
      |cons y b=>rw[lU,vm,lU,ih b r (by simpa using h)]
    exact this qY qZ [n] hl0
   rw[e1];have h5:=yo (N:=N) (all:=all) (D:=D) (q:=q) (dx:=dx) cl ns (qY++[n]) as (qZ++[v]) (upd H q (.ins C dx ((qY++[n]).zip (qZ++[v])))) (λf hf=>hna f (dX _ hf)) (by simpa using nd) (by simpa using hsz) (by simp[hl0]) (by simpa using hl) (by rw[ha];simp) aj (by
    rw[xy];simpa using k)
   rw[show(qZ++[v]).length+1=qZ.length+1+1 by simp]at h5
   exact h5
end
section
theorem ni:∀(k:Int)(ts:FK),(fR k ts).length=ts.length
 |_,[]=>rfl
 |k,_::ts=>congrArg (· + 1) (ni (k+1) ts)
theorem yp:∀(k:Nat)(ts:FK)(i:Nat)(t:T),ts[i]?=some t->(fR (k:Int) ts)[i]?=some (.tup [.int ((k+i:Nat):Int),t])
 |_,[],_,_,h=>by simp at h
 |k,_::ts,0,_,h=>by simp at h;subst h;rfl
 |k,_::ts,i+1,t,h=>by
  have:=yp (k+1) ts i t (by simpa using h)
  rw[show k+(i+1)=k+1+i by omega]
  exact this
def RC(hB:B.K=X.K)(m:Nat):∀σ H R,tI B (i0 (m:Int) fa) σ H R->LW X.K m (tA B (cO fa bg)) σ H R:=by
 rintro σ H R ⟨g,s,t,s',x,h,k⟩
 obtain⟨⟨tx,s1⟩,h1,h⟩:=aa h;obtain⟨ts,h2,h⟩:=aa h;cases h;have h2:=ai h2;obtain⟨RD,rfl,rfl⟩:∃RD,tx=.lst RD/\t=fR m RD:=by
  cases tx<;>first|(cases h2;done)|(cases h2;exact⟨_,rfl,rfl⟩)
 have hc:cO fa bg s=.ok ([.lst RD],s1):=by
  show(fa s).bind _=_;rw[h1];rfl
 refine⟨g,s,_,_,x,hc,λvs g1 H1 p1 x1 r1=>?_⟩;obtain⟨v,rfl,l,ws,rfl,q1,r1⟩:=b_ r1;refine⟨l,ws,rfl,cV.of (x1.sub _ _ q1),k _ g1 H1 p1 x1 ⟨λi H3 s3 hi=>?_,λi H3 x H4 s3 hi y=>?_,λi H3 s3 hi=>?_⟩⟩
 ·rw[ni,r1.len]at hi
  exact⟨hi,cV.of (s3 _ _ q1)⟩
 ·obtain⟨p,x',hn,e1,rfl,rfl⟩:=y
  obtain⟨t1,f1,é⟩:=r1.vN e1;refine⟨_,yp m RD i t1 f1,λuf s4 s5=>⟨upd uf p (.tup [.int ((m+i:Nat):Int),x']),.new s5 hn,p,[.int ((m+i:Nat):Int),x'],rfl,lh.of aj,?_⟩⟩;have s6:=s4.trans (aZ (o:=.tup [.int ((m+i:Nat):Int),x']) (s5.free hn));exact⟨.int ((m+i:Nat):Int),[x'],rfl,rfl,.one (é.same s6)⟩
 ·rw[ni,r1.len]at hi
  exact⟨hi,cV.of (s3 _ _ q1)⟩
def RE(hB:B.K=X.K){elts:Bz}{x1:Nat}{oH:Pos}(hg:Gl X "enumerate")(hm:X.mg "enumerate" = none)(ha:PE X a (tE B fa))(hs:noStar a=true):PI X (.Tuple elts x1 oH) (.Call (.Name "enumerate" p) [a] [] pos) (tI B (i0 0 fa)):=
 kR (Qv hg hm (qP ha vO (ao hs)) (ao hs)) (RC hB 0)
def RG(hB:B.K=X.K){elts:Bz}{x1 k1:Nat}{oH p1 kp:Pos}(hg:Gl X "enumerate")(hm:X.mg "enumerate" = none)(ha:PE X a (tE B fa))(hs:noStar a=true):PI X (.Tuple elts x1 oH) (.Call (.Name "enumerate" p) [a] [⟨some (Str.ofString "start"),.Constant (.int 1) k1 p1,kp⟩] pos) (tI B (i0 1 fa)):=
 kR (LX hg hm (qP ha vO (ao hs)) (ao hs)) (RC hB 1)
end
section
def Ke{m:Str}(hb:bq o=true)(hs:es.all noStar=true)(hl:es.length<30)(hp:(bF.endLine == pos.line)=true):Dh X o m bF es pos:=by
 have hf:methodCallForm (es.length+0) (backTo pos (starEach es X.env)) (backToKw pos (keywordEach [] X.env))=true:=by
  unfold methodCallForm;rw[mW hs];show(true&&true&&decide (es.length+0+0<30))=true;rw[decide_eq_true (show es.length+0+0<30 by omega)];rfl
 refine⟨(do return(<- importBound o X.env).getD true),?_⟩
 show(do
  let ov <- attributeBase o m X.env (eval o X.env)
  standAt bF.atName
  methodCall o m bF pos X.env ov (es.length+0) (backTo pos (starEach es X.env)) (backToKw pos (keywordEach [] X.env)))=_
 rw[dS hb];unfold methodCall;rw[hf];unfold calleeOf methodCallPos;rw[hp];rfl
def q_{Pr:Program}{w:World}{K:bz}{mg:Str->D1}{base:Heap}{n qual:Str}{st:Stmt}{f C:Addr}{fd:FuncData}{N ps ns:Bi}{k:Nat}(Fn:uh K n qual st f fd)(Sc:fk N ps (aD st))
  (hv:∀(i:Nat)(x:Str),N[i]?=some x->vd (aD st) x/\cu x/\jA x) (hi:nh N 1 (bA st) ns=true) (hl:ps.length=ns.length+1) (cl:pF K C) (na:∀f∈ns,eA K C f) (nd:ns.Nodup) (pY:ns.length<=100) :
  dh Pr w K mg base ko (k+1) f fd ps (Yq C ns):=by
 refine Fn.ok Sc (λvs H Q E h=>?_) (λgU A outer s H vs Q E hr h=>?_)
 ·obtain⟨x,dx,args,rfl,xC,_⟩:=h
  rw[cU,xC,hl]
 ·obtain⟨x,dx,args,rfl,xC,hx,q⟩:=h
  refine⟨UI K 1 ns,yn (X:=(kj ko Pr w K mg base N qual (aD st) f gU A outer s H E).JI) hv _ ns 1 hi,?_⟩;exact yo (N:=N) (D:={nx:=λ_ H'=>Q .non H',rt:=Q}) cl ns [] args [] H na (by simpa using nd) (by simpa using pY) rfl xC rfl (by simpa using hx) (by simpa using q)
def Yz(K:bz)(C:Addr)(n:Str):Sp:=λvs H Q _=>∃x dx p ys,vs=[.ref x,.ref p]/\H x=some (.ins C dx [])/\cV K H p ys/\∀l,H l=none->Q .non (upd (upd H l (.lst ys)) x (.ins C dx [(n,.ref l)]))
noncomputable def rf(st:Stmt):Option (Str×Str×Str):=(Dr st).bind λw=>(kE w.2.2).bind λc=>(match c.2.1,c.2.2 with
 |[a],[]=>if c.1=("list" : Str)then(asName a).map λq=>(w.1,w.2.1,q)else none
 |_,_=>none)
def um{st:Stmt}{z:Str×Str×Str}(h:rf st=some z):∃p0 pf pq pl pc pos,st=.Assign [.Attribute (.Name z.1 p0) z.2.1 pf] (.Call (.Name "list" pl) [.Name z.2.2 pq] [] pc) pos:=by
 obtain⟨w,h1,h2⟩:=dH.mp h;obtain⟨⟨f,as,ks⟩,h3,h4⟩:=dH.mp h2
 match as,ks,h3,h4 with
 |[a],[],h3,h4=>
  dsimp only at h4;split at h4
  ·rename_i e
   obtain⟨q,h5,rfl⟩:=dg.mp h4;obtain⟨p0,pf,pos,rfl⟩:=ym h1;obtain⟨pl,pc,h6⟩:=fW h3;obtain⟨pq,h7⟩:=c7 h5;rw[h6,h7,e];exact⟨_,_,_,_,_,_,rfl⟩
  ·cases h4
def Ds{Pr:Program}{w:World}{K:bz}{mg:Str->D1}{base:Heap}{nm qual s0 q n:Str}{st RH:Stmt}{f C:Addr}{fd:FuncData}{N ps:Bi}{k:Nat}(Fn:uh K nm qual st f fd)(Sc:fk N ps (aD st))
  (hb:bA st=[RH]) (h1:rf RH=some (s0,n,q)) (h0:N[0]?=some s0) (hq:N[1]?=some q) (hv:∀(i:Nat)(x:Str),N[i]?=some x->vd (aD st) x/\cu x/\jA x) (hm:mg "list" = none) (hg:(aD st).names.lookup ("list" : Str)=some .globalImplicit) (hl:ps.length=2) (cl:pF K C) (na:eA K C n) :
  dh Pr w K mg base ko (k+1) f fd ps (Yz K C n):=by
 obtain⟨p0,pf,pq,pl,pc,pos,rfl⟩:=um h1;refine Fn.ok Sc (λvs H Q E h=>?_) (λgU A outer s H vs Q E hr h=>?_)
 ·obtain⟨x,dx,p,ys,rfl,_⟩:=h
  exact hl.symm
 ·obtain⟨x,dx,p,ys,rfl,hx,hp,k⟩:=h
  obtain⟨v1,v2,v3⟩:=hv 0 _ h0;obtain⟨w1,w2,w3⟩:=hv 1 _ hq;rw[hb];refine⟨_,xH (vC (fL h0 v1 v2 v3) (gy gG (X:=(kj ko Pr w K mg base N qual (aD st) f gU A outer s H E).JI) hg hm BZ (aW (fL hq w1 w2 w3) cj)) rfl),?_⟩;refine⟨.ref p,rfl,p,ys,rfl,.inl hp,λl hl=>⟨.ref x,rfl,x,C,dx,[],rfl,?_,cl,na,by decide,k l hl⟩⟩
  rw[aq (λe=>by subst e;rw[hl]at hx;cases hx)]
  exact hx
structure YA(P:Pg)(Pr:Program)(w:World)(K:bz)(mg:Str->D1)(base:Heap)(k:Nat)(c:Nat)(x:Str):Prop where
 ex:∃(C fi:Addr)(fd:FuncData)(ps:Bi)(n:Str),ib (iX P K Pr w) c C [n]/\mg x=some (.ref C)/\Mk K C fi/\dh Pr w K mg base ko k fi fd ps (Yz K C n)/\Binds K fd ps []
def MO{k j c:Nat}(D:YA P X.prog X.w X.K X.mg X.base k c x)(hr:b8 j X.A)(Al:k+1<=j)(ha:PE X e (tE (P.kt X) fa))(hg:Gl X x)(mq:cu x)(hs:noStar e=true) :
  PE X (.Call (.Name x p) [e] [] pos) (tE (P.kt X) (dN (L5 c) fa)):=by
 obtain⟨C,fi,fd,ps,n,hC,hm,M,F,hb⟩:=D.ex;refine aR (qG M F (hr.mono Al) hg hm hb .nil mw (aW ha cj (ao hs)) mq (ao hs) rfl) λσ H Q zz=>?_;obtain⟨g,s,t,s',z,h,k⟩:=zz;obtain⟨⟨tx,s1⟩,h1,h⟩:=aa h;obtain⟨t',h2,h⟩:=aa h;cases h;have h2:=ai h2;cases tx<;>first|(cases h2;done)|skip
 rename_i ts;cases h2;refine⟨g,s,_,_,z,h1,λv g1 H1 p1 x1 r1 x dx nx nd jr=>?_⟩;obtain⟨q,vs,rfl,hq,rr⟩:=r1;have g2:=Gr.new (o:=.own x) x1.sub nd;have Wk:upd H1 dx (.own x) x=none:=by rw[aq (Ne.symm jr)];exact nx
 have RI:H1 q=some (.lst vs):=x1.sub _ _ hq;have qd:q≠dx:=λe=>by subst e;rw[nd]at RI;cases RI
 have qx:q≠x:=λe=>by subst e;rw[nx]at RI;cases RI
 refine⟨x,dx,q,vs,rfl,aj,cV.of (by rw[aq qx,aq qd];exact RI),λl hl=>⟨rfl,?_⟩⟩
 have lx:l≠x:=λe=>by subst e;rw[aj]at hl;cases hl
 have FQ:upd H1 dx (.own x) l=none:=by rw[aq lx]at hl;exact hl
 have ld:l≠dx:=λe=>by subst e;rw[aj]at FQ;cases FQ
 have g3:=Gr.new (o:=.lst vs) g2.sub FQ;have ê:upd (upd H1 dx (.own x)) l (.lst vs) x=none:=by rw[aq (Ne.symm lx)];exact Wk
 have g4:=Gr.new (o:=.ins C dx [(n,.ref l)]) g3.sub ê;have e:upd (upd (upd (upd H1 dx (.own x)) x (.ins C dx [])) l (.lst vs)) x (.ins C dx [(n,.ref l)])=upd (upd (upd H1 dx (.own x)) l (.lst vs)) x (.ins C dx [(n,.ref l)]):=by
  funext b
  by_cases hb:b=x
  ·subst hb;rw[aj,aj]
  ·rw[aq hb,aq hb]
   by_cases hb2:b=l
   ·subst hb2;rw[aj,aj]
   ·rw[aq hb2,aq hb2,aq hb]
 rw[e];have gr:=(g2.trans g3).trans g4;refine k _ (g1.grow _) _ (p1.trans (x1.gk gr)) (x1.grow gr) ⟨x,C,dx,[n],[.ref l],rfl,hC,aj,c_ _,?_,.one ⟨l,vs,rfl,?_,rr.same gr.fr⟩⟩
 ·show upd (upd (upd g1.HF dx (.own x)) l (.lst vs)) x _ dx=_
  rw[aq jr,aq (Ne.symm ld),aj]
 ·show upd (upd (upd g1.HF dx (.own x)) l (.lst vs)) x _ l=_
  rw[aq lx,aj]
def namesOf:Bz->Option Bi
 |[]=>some []
 |.Name x _::es=>(namesOf es).map (x::·)
 |_=>none
def GQ(hB:B.K=X.K){px:Pos}(hN:X.N[i]?=some y)(hv:vd X.env.scope y)(hd:cu y)(lG:jA y)(hg:Gl X "len")(hm:X.mg "len" = none) :
  PE X (.Call (.Name "len" p) [.Name y px] [] pos) (tE B (JT i)):=by
 refine aR (iu mh hg hm PySem.boot_len (aW (fL hN hv hd lG) cj rfl) (he:=rfl) (hpl:=rfl)) λσ H Q zz=>?_;obtain⟨g,s,t,s',x,h,k⟩:=zz;obtain⟨ts,h1,h⟩:=aa h;cases h;obtain⟨l,vs,w1,w2,w3,w4⟩:=x.oV (eE (ai h1));exact⟨_,w1,_,_,rfl,.inl ⟨vs,cV.of w3,w4.len⟩,k _ g H .refl x rfl⟩
def MP{px:Pos}(hN:X.N[i]?=some y)(hv:vd X.env.scope y)(hd:cu y)(lG:jA y)(hb:PE X b (tE B fb))(hs:iM b) :
  PE X (.Subscript (.Name y px) b pos) (tE B (lr i fb)):=by
 refine aR (JN xP (fL hN hv hd lG) hb hs) λσ H Q zz=>?_;obtain⟨g,s,t,s',x,h,k⟩:=zz;obtain⟨us,h0,h⟩:=aa h;obtain⟨⟨ty,s1⟩,h1,h⟩:=aa h;obtain⟨ts,h2,h⟩:=aa h;obtain⟨t',h3,h⟩:=aa h;cases h;obtain⟨l,vs,w1,w2,w3,w4⟩:=x.oV (eE (ai h0));refine⟨_,w1,g,s,ty,_,x,h1,λv g1 H1 p1 x1 r1=>?_⟩;obtain⟨l',vs',q1,q2,q3,q4⟩:=x1.oV (eE (ai h2));rw[w1]at q1;cases q1;have h3:=ai h3;cases ty<;>first|(cases h3;done)|skip
 obtain⟨w,e,vI⟩:=qS q4 (show atT ts _=some _ from h3);exact⟨l,vs',_,w,rfl,r1,cV.of q3,e,k w g1 H1 p1 x1 vI⟩
def f6:T->T->FR
 |.int i,.int j=>some (.int (i+j))
 |_,_=>none
def RJ(hN:X.N.Nodup)(hi:X.N[i]?=some x)(hx:Loc X.env.scope x)(he:PE X e (tE B fa))(hf:X.fn x=true\/X.env.scope.names.lookup x=some .local) :
  PS X (.AugAssign (.Name x cy) .Add e pos) (tS B (CM f6 i fa)):=c5 (Ld hN hi hx he Le hf) λD σ H zz=>by
 obtain⟨g,s,o,s',z,h,k⟩:=zz;unfold CM at h;split at h
 ·rename_i tx hr
  obtain⟨⟨ty,s1⟩,h1,h⟩:=aa h;obtain⟨t,h2,h⟩:=aa h;cases h;obtain⟨v,hv,rv⟩:=z.lc.at_ i _ hr;have h2:=ai h2;cases tx<;>first|(cases h2;done)|(cases ty<;>first|(cases h2;done)|skip)
  cases h2;cases(show v=V.int _ from rv);refine⟨_,hv,g,s,_,s1,z,h1,λw g1 H1 p1 x1 r1=>?_⟩;cases(show w=V.int _ from r1);exact⟨_,_,rfl,rfl,k _ g1 H1 p1 (x1.set (t:=.int _) rfl)⟩
 ·cases h
def yq(K:bz)(mg:Str->D1)(x:Str)(t:T):Prop:=∃u v,mg x=some u/\RelV v u/\∀(B:KT)(al:BM)(H:Hp),B.K=K->Rep B al H t v
def RK{t:T}(h:yq X.K X.mg x t)(hB:B.K=X.K)(hg:Gl X x)(hd:cu x):PE X (.Name x pos) (tE B (cF t)):=by
 obtain⟨u,v,h1,h2,h3⟩:=h;exact jK (xF hg h1 h2 hd) λal H=>h3 B al H hB
def RL{body:Ee}{h0:ExceptHandler}{hs:List ExceptHandler}{t:TS}(UJ:X.xe=λ_ _=>False)(h:jB X body t):PS X (.Try body (h0::hs) [] [] pos) t:=λae s σ H D I q=>by
 refine wpAny_Try_except (wpAny_mono (h ae s σ H D I q) (λf s1 z=>?_) λe s1 z=>?_)
 ·cases f with
  |next=>exact wpAny_execs_nil z
  |brk=>exact z
  |cont=>exact z
  |ret u=>exact z
 ·rw[UJ]at z;exact z.elim
end
abbrev aL:CmpOp->T->T->FR:=Q5
def yr:CmpOp->Option Bool
 |.In=>some false
 |.NotIn=>some true
 |_=>none
def yt(i:Nat):FS:=λs=>.ok (.nx,j7 s i (.od [] []))
def jO(ks:List Ky)(ts:FK)(k:Ky)(t:T):List Ky×FK:=if k∈ks then(ks,(ks.zip ts).map λp=>if p.1=k then t else p.2)else(ks++[k],ts++[t])
section
variable{tM p1:Pos}{al:BM}
def rh{a b:Ky}(h:ly a=ly b):a=b:=by
 cases a<;>cases b
 ·injection h with h;rw[h]
 ·cases h
 ·cases h
 ·injection h with h
  injection h with h
  have h:=congrArg Array.toList h;dsimp only at h;rw[h]
def lK{t:T}{v:V}{k:Ky}(h:mH t=some k)(r:Rep B al H t v):v=kV (ly k):=by
 cases t<;>first|(cases h;done)|skip
 ·cases h;exact r
 ·cases h;exact r.1
theorem v_:∀{ks:List Ky}{vs:List V},ks.length=vs.length->∀k,(ja ((ks.map ly).zip vs) (ly k)).isSome=decide (k∈ks)
 |[],_,_,k=>by simp[ja]
 |q::ks,[],h,_=>by cases h
 |q::ks,v::vs,h,k=>by
  rw[dO,lU];by_cases e:q=k
  ·rw[iy (p:=(ly q,v)) (by rw[e])]
   simp[e]
  ·rw[iz (p:=(ly q,v)) (λz=>e (rh z)),v_ (qv.inj h) k]
   have:(k∈q::ks) ↔ (k∈ks):=⟨λz=>(cA.mp z).elim (λz=>absurd z.symm e) id,dX _⟩
   simp only[this]
theorem yu{k:Ky}{v:V}{t:T}(rt:Rep B al H t v):∀{ks:List Ky}{vs:List V}{ts:FK},ks.length=vs.length->aC B al H ts vs ->
  ((ks.map ly).zip vs).map (λkv=>if kv.1=ly k then(kv.1,v)else kv)=(ks.map ly).zip ((ks.zip vs).map λp=>if p.1=k then v else p.2)/\ks.length=((ks.zip vs).map λp=>if p.1=k then v else p.2).length/\aC B al H ((ks.zip ts).map λp=>if p.1=k then t else p.2) ((ks.zip vs).map λp=>if p.1=k then v else p.2)
 |[],[],_,_,r=>⟨rfl,rfl,by cases ‹FK›<;>exact rfl⟩
 |q::ks,[],_,h,_=>by cases h
 |[],_::_,_,h,_=>by cases h
 |q::ks,u::vs,ts,h,r=>by
  cases ts with
  |nil=>cases(show u::vs=[]from r)
  |cons t' ts=>
   obtain⟨u',vs',e,ru,rs⟩:=r;cases e;obtain⟨h1,h2,h3⟩:=yu rt (ks:=ks) (vs:=vs) (ts:=ts) (qv.inj h) rs;refine⟨?_,?_,?_⟩
   ·simp only[dO,lU]at h1 ⊢
    rw[h1];by_cases e:q=k
    ·rw[if_pos (by rw[e]),if_pos e]
    ·rw[if_neg (λz=>e (rh z)),if_neg e]
   ·simp only[lU,dO,cU]
    rw[<- h2]
   ·simp only[lU,dO]
    refine⟨_,_,rfl,?_,h3⟩;by_cases e:q=k
    ·rw[if_pos e,if_pos e];exact rt
    ·rw[if_neg e,if_neg e];exact ru
def MQ{ks:List Ky}{ts:FK}{vs:List V}{k:Ky}{t:T}{v:V}(hl:ks.length=vs.length)(r:aC B al H ts vs)(rt:Rep B al H t v) :
  ∃vs',L2.putK ((ks.map ly).zip vs) (ly k) v=((jO ks ts k t).1.map ly).zip vs'/\(jO ks ts k t).1.length=vs'.length/\aC B al H (jO ks ts k t).2 vs':=by
 unfold L2.putK jO;rw[mC,v_ hl];by_cases e:k∈ks
 ·rw[if_pos (decide_eq_true e),if_pos e]
  obtain⟨h1,h2,h3⟩:=yu (k:=k) rt hl r;exact⟨_,h1,h2,h3⟩
 ·rw[if_neg (by simpa using e),if_neg e]
  refine⟨vs++[v],?_,by simp[hl],r.app (.one rt)⟩
  rw[d_,List.zip_append (by rw[bK];exact hl)]
  rfl
def UK(neg:Bool):R2:=λx y H Q=>∃a o,y=.ref a/\tH H a x o/\Q (.bl (if neg then !o.isSome else o.isSome)) H
def MR(hu:X.A.units+1<cLine):gc X (compareOp .In) (UK false):=λae s σ H x y v u Q I rx ry z=>by
 obtain⟨a,o,ey,g,q⟩:=z;subst ey
 obtain rfl:u=Value.ref a:=ry
 exact VT hu I g rx λs3 I3=>⟨.bl o.isSome,H,I3,rfl,q⟩
def GR(hu:X.A.units+1<cLine):gc X (compareOp .NotIn) (UK true):=λae s σ H x y v u Q I rx ry z=>by
 obtain⟨a,o,ey,g,q⟩:=z;subst ey
 obtain rfl:u=Value.ref a:=ry
 exact Ga hu I g rx λs3 I3=>⟨.bl (!o.isSome),H,I3,rfl,q⟩
def yv{op:CmpOp}{k:Nat}(hr:b8 k X.A):∃r,gc X (compareOp op) r/\qO X (aL op) r:=Mi hr
def MS{op:CmpOp}{k:Nat}(hB:B.K=X.K)(hr:b8 k X.A)(ha:PE X a (tE B fa))(hb:PE X b (tE B fb))(hm:behindInMarks op b=false):PE X (.Compare a [op] [b] pos) (tE B (bw (aL op) fa fb)):=by
 obtain⟨r,ho,hl⟩:=yv (op:=op) hr;exact aR (xK ho ha hb hm) (jL hB hl)
def GS{op:CmpOp}{k:Nat}(hB:B.K=X.K)(hr:b8 k X.A)(ha:PE X a (tE B fa))(hb:PE X b (tE B fb))(hm:behindInMarks op b=false):PT X (.Compare a [op] [b] pos) (tT B (bW (bw (aL op) fa fb))):=by
 obtain⟨r,ho,hl⟩:=yv (op:=op) hr;exact x8 (xM ho ha hb hm) λσ H Q q=>jL hB hl σ H _ (J4 q)
def uo{op:CmpOp}{neg:Bool}(hu:X.A.units+1<cLine)(h:yr op=some neg):gc X (compareOp op) (UK neg):=by
 cases op<;>first|(cases h;done)|skip
 ·cases h;exact MR hu
 ·cases h;exact GR hu
def MT{dp:Pos}(hN:X.N.Nodup)(hi:X.N[i]?=some x)(hx:Loc X.env.scope x)(hf:X.fn x=true\/X.env.scope.names.lookup x=some .local) :
  PS X (.Assign [.Name x cy] (.Dict [] [] dp) pos) (tS B (yt i)):=c5 (vp hN hi hx tL rfl hf) λD σ H z=>by
 obtain⟨g,s,o,s',x,h,k⟩:=z;cases h;intro q hq;obtain⟨gr,n1,n2⟩:=mO (u:=.dK []) x hq;have x1:=x.grow gr;have p1:=x.gk gr;refine k _ ((g.grow g.HF).own q (.loc i)) _ ⟨p1.fr,p1.pre,λb u h n z=>?_,p1.there⟩ (x1.V0 (ks:=[]) (ts:=[]) (vs:=[]) n2 n1 aj rfl rfl);obtain⟨a,b',c⟩:=p1.rest b u h n z
 have:b≠q:=aK h hq
 exact⟨a,b',by show(if b=q then some (jd.loc i)else g.o b)=none;rw[if_neg this];exact c⟩
end
def uq(n:Nat)(m:FV):T->Option (Nat×C)
 |.own k=>(m[k]?).bind λob=>(match ob.fs with
  |[c]=>if ob.c=n then some (k,c)else none
  |_=>none)
 |_=>none
def Ws:C->FC
 |.ol ts=>some ts
 |_=>none
def Wt:C->Option (List Ky×FK)
 |.od ks ts=>some (ks,ts)
 |_=>none
def oX(n:Nat)(m:FV)(t:T):Option (Nat×FK):=(uq n m t).bind λz=>(Ws z.2).map λts=>(z.1,ts)
def oY(n:Nat)(m:FV)(t:T):Option (Nat×List Ky×FK):=(uq n m t).bind λz=>(Wt z.2).map λd=>(z.1,d.1,d.2)
def setB(n:Nat)(s:S)(k:Nat)(c:C):S:={s with m:=s.m.set k ⟨n,[c]⟩}
def lA(n:Nat):FE:=λs=>.ok (.own s.m.length,{s with m:=s.m++[⟨n,[.od [] []]⟩]})
def eZ(n:Nat)(o a:FE):FS:=λs=>(o s).bind λp=>(aX (oX n p.2.m p.1)).bind λ_=>(a p.2).bind λq=>(aX (oX n q.2.m p.1)).bind λz=>(aX (gd (z.2.length<1000000) ())).bind λ_=>.ok (.nx,setB n q.2 z.1 (.ol (z.2++[q.1])))
def Ar(n:Nat)(o b a:FE):FS:=λs=>(a s).bind λv=>(o v.2).bind λp=>(b p.2).bind λq=>(aX (oY n q.2.m p.1)).bind λz=>(aX (mH q.1)).bind λk=>(aX (gd (z.2.1.length<1000000) ())).bind λ_=>.ok (.nx,setB n q.2 z.1 (let y:=jO z.2.1 z.2.2 k v.1;.od y.1 y.2))
def rj(n:Nat)(neg:Bool)(a o:FE):FE:=λs=>(a s).bind λp=>(o p.2).bind λq=>(aX (oY n q.2.m q.1)).bind λz=>(aX (mH p.1)).bind λk=>.ok (.bl (if neg then !decide (k∈z.2.1)else decide (k∈z.2.1)),q.2)
def Dt(n:Nat)(o b:FE):FE:=λs=>(o s).bind λp=>(b p.2).bind λq=>(aX (oY n q.2.m p.1)).bind λz=>(aX (mH q.1)).bind λk=>(aX (h_ z.2.1 z.2.2 k)).bind λt=>.ok (t,q.2)
section
variable{f:Expr}{H1:Hp}{g1:G}
def nj{m:FV}{t:T}{z:Nat×C}(h:uq n m t=some z):t=.own z.1/\m[z.1]?=some ⟨n,[z.2]⟩:=by
 cases t<;>first|(cases h;done)|skip
 obtain⟨ob,h1,h⟩:=dH.mp (show(m[_]?).bind _=some z from h);obtain⟨d,fs⟩:=ob
 match fs,h,h1 with
 |[c],h,h1=>
  dsimp only at h;split at h
  ·rename_i q;cases h;subst q;exact⟨rfl,h1⟩
  ·cases h
def iH{m:FV}{t:T}{z:Nat×FK}(h:oX n m t=some z):t=.own z.1/\m[z.1]?=some ⟨n,[.ol z.2]⟩:=by
 obtain⟨w,h1,h2⟩:=dH.mp h;obtain⟨ts,h3,rfl⟩:=dg.mp h2;obtain⟨e1,e2⟩:=nj h1;obtain⟨k,c⟩:=w;cases c<;>first|(cases h3;done)|skip
 cases h3;exact⟨e1,e2⟩
def jP{m:FV}{t:T}{z:Nat×List Ky×FK}(h:oY n m t=some z):t=.own z.1/\m[z.1]?=some ⟨n,[.od z.2.1 z.2.2]⟩:=by
 obtain⟨w,h1,h2⟩:=dH.mp h;obtain⟨d,h3,rfl⟩:=dg.mp h2;obtain⟨e1,e2⟩:=nj h1;obtain⟨k,c⟩:=w;cases c<;>first|(cases h3;done)|skip
 cases h3;exact⟨e1,e2⟩
def SR.oZ(x:SR B g H σ s)(hc:B.cn[n]?=none){c:C}(hm:s.m[k]?=some ⟨n,[c]⟩){l:Addr}(ha:g.al[k]?=some l):UB B g H k ⟨n,[c]⟩ l/\a_ B g H (.ob k) c (.ref l):=by
 rcases x.st.at_ k _ hm with⟨a',C,dx,ns,vs,Z⟩|⟨a',Z⟩
 ·obtain⟨m,q,_⟩:=Z.cl
  rw[hc]at q;cases q
 ·have:=Z.al.symm.trans ha
  cases this;exact⟨Z,Z.f c rfl⟩
def SR.ur{l:Addr}{c:C}(x:SR B g H σ s)(hc:B.cn[n]?=none)(hf:B.fn[n]?=none)(n1:g.HF l=none)(n2:g.o l=none){u:HO}(hl:H l=some u)(r:a_ B (g.dU l) H (.ob g.al.length) c (.ref l)):SR B (g.dU l) H σ {s with m:=s.m++[⟨n,[c]⟩]}:=by
 have ho:∀b p',g.o b=some p'->(g.dU l).o b=some p':=λb p' h=>by
  show(if b=l then some (jd.ob g.al.length)else g.o b)=_
  rw[if_neg λz=>by rw[z,n2]at h;cases h];exact h
 have pre:g.al <+: (g.dU l).al:=xh _ _;refine⟨⟨x.sub,λb p' e=>?_,?_,λk ob e=>?_⟩,x.lc.len,λi c' e=>?_⟩
 ·have e:(if b=l then some (jd.ob g.al.length)else g.o b)=some p':=e
  by_cases hb:b=l
  ·subst hb;exact⟨n1,_,hl⟩
  ·rw[if_neg hb]at e;exact x.st.live b p' e
 ·show(s.m++[_]).length=(g.al++[l]).length
  rw[b9,b9,x.st.len];rfl
 ·have e:(s.m++[(⟨n,[c]⟩:Ob)])[k]?=some ob:=e
  by_cases hk:k<s.m.length
  ·rw[gp hk]at e
   exact(x.st.at_ k ob e).mv (aM.refl _) pre λb p' h _=>⟨ho b p' h,rfl⟩
  ·rw[eT (by omega)]at e
   have Wr:k-s.m.length=0:=by
    have:=(bD.mp e).1
    simp at this;omega
   rw[Wr]at e;cases e;have oW:k=g.al.length:=by have:=x.st.len;omega
   subst oW;refine .inr ⟨l,?_,hc,hf,λd z=>by cases z;exact r⟩
   show(g.al++[l])[g.al.length]?=some l;rw[eT (c_ _),lV];rfl
 ·obtain⟨v,h1,h2⟩:=x.lc.at_ i c' e
  exact⟨v,h1,a_.mv (g:=g) (g':=g.dU l) (aM.refl _) pre (λb h=>⟨ho b _ h,rfl⟩) h2⟩
def yw{l:Addr}:(g.dU l).o l=some (.ob g.al.length):=by
 show(if l=l then some (jd.ob g.al.length)else g.o l)=_
 rw[if_pos rfl]
def eV.ur(q:eV g H g1 H1){l:Addr}(h0:H l=none):eV g H (g1.dU l) H1:=⟨q.fr,q.pre.trans (xh _ _),λb u h n z=>by
 obtain⟨h1,h2,h3⟩:=q.rest b u h n z;refine⟨h1,h2,?_⟩;show(if b=l then some (jd.ob g1.al.length)else g1.o b)=none
 rw[if_neg (aK h h0)];exact h3,q.there⟩
def uu(x:SR B g H σ s){l:Addr}:Rep B (g.dU l).al (g.dU l).HF (.own s.m.length) (.ref l):=⟨l,rfl,by
 show(g.al++[l])[s.m.length]?=some l;rw[x.st.len,eT (c_ _),lV];rfl⟩
def MU(hc:B.cn[n]?=none)(hf:B.fn[n]?=none)(he:PE X e (tO B fl)):PE X e (tE B (jI n fl)):=aR he λσ H Q z=>by
 obtain⟨g,s,t,s',x,h,k⟩:=z;obtain⟨⟨ts,s1⟩,h1,h⟩:=aa h;cases h;exact⟨g,s,ts,s1,x,h1,λl vs g1 H1 p1 x1 h0 n1 n2 hl r=>k _ (g1.dU l) H1 (p1.ur h0) (x1.ur (c:=.ol ts) hc hf n1 n2 hl ⟨l,vs,rfl,yw,hl,r.mv (xh _ _) (aM.refl _)⟩) (uu x1)⟩
def MV{dp:Pos}(hc:B.cn[n]?=none)(hf:B.fn[n]?=none):PE X (.Dict [] [] dp) (tE B (lA n)):=aR tL λσ H Q z=>by
 obtain⟨g,s,t,s',x,h,k⟩:=z;cases h;intro q hq;obtain⟨gr,n1,n2⟩:=mO (u:=.dK []) x hq;have x1:=x.grow gr;exact k _ ((g.grow g.HF).dU q) _ ((x.gk gr).ur hq) (x1.ur (c:=.od [] []) hc hf n1 n2 aj ⟨q,[],rfl,yw,aj,rfl,rfl⟩) (uu x1)
def SR.Du{l:Addr}{c c':C}{u:HO}(x:SR B g H σ s)(Z:UB B g H k ⟨n,[c]⟩ l)(hk:s.m[k]?=some ⟨n,[c]⟩)(ho:g.o l=some (.ob k))(r:a_ B g (upd H l u) (.ob k) c' (.ref l)) :
  eV g H g (upd H l u)/\SR B g (upd H l u) σ (setB n s k c'):=by
 have ne:∀b q,g.o b=some q->q≠.ob k->upd H l u b=H b:=λb q hb hq=>aq λz=>hq (by rw[z,ho]at hb;cases hb;rfl)
 refine⟨qN ho,⟨⟨λb w e=>?_,λb q e=>?_,by show(s.m.set k _).length=_;rw[e_];exact x.st.len,λk' vZ e=>?_⟩,x.lc.len,λi c e=>?_⟩⟩
 ·have:b≠l:=λz=>by rw[z,(x.st.live l _ ho).1]at e;cases e
  rw[aq this];exact x.sub _ _ e
 ·obtain⟨h1,w,h2⟩:=x.st.live b q e
  by_cases hb:b=l
  ·exact⟨h1,_,by rw[hb,aj]⟩
  ·exact⟨h1,w,by rw[aq hb];exact h2⟩
 ·have e:(s.m.set k ⟨n,[c']⟩)[k']?=some vZ:=e
  by_cases oW:k=k'
  ·subst oW
   rw[eu (bD.mp hk).1]at e;cases e;exact .inr ⟨l,Z.al,Z.nc,Z.nf,λd z=>by cases z;exact r⟩
  ·rw[dB oW]at e
   refine(x.st.at_ k' vZ e).mv (aM.refl _) fj λb q h hq=>⟨h,ne b q h ?_⟩;rcases hq with rfl|⟨j,rfl⟩
   ·exact λz=>oW (by cases z;rfl)
   ·exact λz=>by cases z
 ·obtain⟨v,h1,h2⟩:=x.lc.at_ i c e
  exact⟨v,h1,a_.mv (g:=g) (g':=g) (aM.refl _) fj (λb hb=>⟨hb,ne b _ hb λz=>by cases z⟩) h2⟩
def MW(hc:B.cn[n]?=none)(ho:PE X o (tE B fo))(hb:bq o=true)(he:PE X e (tE B fa))(hs:noStar e=true)(cL:(bF.endLine == cC.line)=true) :
  PS X (.Expr (.Call (.Attribute o "append" bF) [e] [] cC) pos) (tS B (eZ n fo fa)):=by
 refine c5 (jD (pM PySem.F.plainAttrs_list PySem.F.slot_list_append PySem.F.type_list_append km ho (aW he cj (ao hs)) (dS hb) (pY (by rw[fh,hs];rfl) (by decide)) cL (ao hs) rfl) rfl) λD σ H z=>?_
 obtain⟨g,s,oo,s',x,h,k⟩:=z;obtain⟨⟨tx,s1⟩,h1,h⟩:=aa h;obtain⟨z0,h2,h⟩:=aa h;obtain⟨⟨t,s2⟩,h3,h⟩:=aa h;obtain⟨z,h4,h⟩:=aa h;obtain⟨_,h5,h⟩:=aa h;obtain⟨hz,_⟩:=aV (ai h5);cases h;obtain⟨e1,m1⟩:=iH (ai h2);obtain⟨e2,m2⟩:=iH (ai h4);dsimp only at e1 e2;subst e1;refine⟨g,s,_,s1,x,h1,λv g1 H1 p1 x1 r1=>?_⟩;obtain⟨l,rfl,ha⟩:=r1;obtain⟨Z1,l1,vs1,q1,o1,ë,_⟩:=x1.oZ hc m1 ha;cases q1;refine⟨.inl ⟨rfl,_,cV.of ë⟩,g1,s1,t,s2,x1,h3,λv g2 H2 p2 x2 r2=>?_⟩;have ek:z.1=z0.1:=by injection e2 with e2;exact e2.symm
 rw[<- ek]at ha;obtain⟨Z2,l2,UL,q2,o2,ì,rr⟩:=x2.oZ hc m2 (dR p2.pre ha);cases q2;obtain⟨p3,x3⟩:=x2.Du (c':=.ol (z.2++[t])) Z2 m2 o2 ⟨l,_,rfl,o2,aj,rr.app (.one r2)⟩;exact⟨l,UL,v,rfl,rfl,ì,by rw[<- rr.len,sizeLine_eq];omega,k σ g2 _ ((p1.trans p2).trans p3) x3⟩
def RM{kk:Nat}(hc:B.cn[n]?=none)(hr:b8 kk X.A)(he:PE X e (tE B fa))(ho:PE X o (tE B fo))(hb:PE X b (tE B fb))(hs:swapsWith e (some (.Subscript o b cy)) pos.line X.env=pure false) :
  PS X (.Assign [.Subscript o b cy] e pos) (tS B (Ar n fo fb fa)):=by
 have hu:X.A.units+1<cLine:=by have:=hr.units;omega
 refine c5 (Gd hu ho hb he hs) λD σ H z=>?_;obtain⟨g,s,oo,s',x,h,k⟩:=z;obtain⟨⟨t,s1⟩,h1,h⟩:=aa h;obtain⟨⟨tx,s2⟩,h2,h⟩:=aa h;obtain⟨⟨tk,s3⟩,h3,h⟩:=aa h;obtain⟨z,h4,h⟩:=aa h;obtain⟨ky,h5,h⟩:=aa h;obtain⟨_,h6,h⟩:=aa h;obtain⟨hz,_⟩:=aV (ai h6);cases h;obtain⟨e1,m1⟩:=jP (ai h4);dsimp only at e1;subst e1;refine⟨g,s,t,s1,x,h1,λv g1 H1 p1 x1 r1=>⟨g1,s1,_,s2,x1,h2,λw g2 H2 p2 x2 r2=>⟨g2,s2,tk,s3,x2,h3,λu g3 H3 p3 x3 r3=>?_⟩⟩⟩;obtain⟨l,rfl,ha⟩:=r2;obtain⟨Z,l1,vs,q1,o1,hh,hl,rr⟩:=x3.oZ hc m1 (dR p3.pre ha);cases q1;obtain⟨UL,e1,e2,e3⟩:=MQ (k:=ky) hl rr ((r1.mv p2.pre p2.fr).mv p3.pre p3.fr);obtain⟨p4,x4⟩:=x3.Du (c':=.od (jO z.2.1 z.2.2 ky t).1 (jO z.2.1 z.2.2 ky t).2) Z m1 o1 ⟨l,UL,rfl,o1,aj,e2,e3⟩;rw[lK (ai h5) r3];refine⟨l,_,rfl,.k hh ?_,?_⟩
 ·rw[sj,bK,sizeLine_eq]
  have:z.2.1.length<1000000:=hz
  omega
 ·rw[e1]
  exact k σ g3 _ (((p1.trans p2).trans p3).trans p4) x4
def Kf{neg:Bool}(hc:B.cn[n]?=none):∀σ H Q,tE B (rj n neg fa fo) σ H Q->OD (UK neg) (tE B fa) (tE B fo) σ H Q:=by
 rintro σ H Q ⟨g,s,t,s',x,h,k⟩
 obtain⟨⟨tx,s1⟩,h1,h⟩:=aa h;obtain⟨⟨ty,s2⟩,h2,h⟩:=aa h;obtain⟨z,h3,h⟩:=aa h;obtain⟨kk,h4,h⟩:=aa h;cases h;obtain⟨e1,m1⟩:=jP (ai h3);dsimp only at e1;subst e1;refine⟨g,s,tx,s1,x,h1,λv g1 H1 p1 x1 r1=>⟨g1,s1,_,s2,x1,h2,λw g2 H2 p2 x2 r2=>?_⟩⟩;obtain⟨l,rfl,ha⟩:=r2;obtain⟨Z,l1,vs,q1,o1,hh,hl,rr⟩:=x2.oZ hc m1 ha;cases q1;rw[lK (ai h4) r1];refine⟨l,_,rfl,.k hh,?_⟩;rw[v_ hl];exact k _ g2 H2 (p1.trans p2) x2 rfl
def MX{op:CmpOp}{neg:Bool}{kk:Nat}(hc:B.cn[n]?=none)(hr:b8 kk X.A)(hn:yr op=some neg)(ha:PE X a (tE B fa))(ho:PE X o (tE B fo))(hm:behindInMarks op o=false):PE X (.Compare a [op] [o] pos) (tE B (rj n neg fa fo)):=
 aR (xK (uo (by have:=hr.units;omega) hn) ha ho hm) (Kf hc)
def MY{op:CmpOp}{neg:Bool}{kk:Nat}(hc:B.cn[n]?=none)(hr:b8 kk X.A)(hn:yr op=some neg)(ha:PE X a (tE B fa))(ho:PE X o (tE B fo))(hm:behindInMarks op o=false):PT X (.Compare a [op] [o] pos) (tT B (bW (rj n neg fa fo))):=
 x8 (xM (uo (by have:=hr.units;omega) hn) ha ho hm) λσ H Q q=>Kf hc σ H _ (J4 q)
theorem rk{al:BM}{HF:Hp}{k:Ky}:∀{ks:List Ky}{ts:FK}{vs:List V},ks.length=vs.length->aC B al HF ts vs->(∀t,h_ ks ts k=some t->∃v,ja ((ks.map ly).zip vs) (ly k)=some v/\Rep B al HF t v)/\(h_ ks ts k=none->ja ((ks.map ly).zip vs) (ly k)=none)
 |[],ts,[],_,r=>by
  refine⟨λt h=>?_,λ_=>rfl⟩;cases ts<;>cases h
 |[],_,_::_,h,_=>by cases h
 |q::ks,_,[],h,_=>by cases h
 |q::ks,[],u::vs,h,r=>by cases(show u::vs=[]from r)
 |q::ks,t::ts,u::vs,h,r=>by
  obtain⟨u',vs',e,ru,rs⟩:=r;cases e;rw[dO,lU];by_cases e:q=k
  ·rw[iy (p:=(ly q,u)) (by rw[e])]
   refine⟨λt' h'=>?_,λh'=>?_⟩
   ·rw[h_,if_pos e]at h'
    cases h';exact⟨u,rfl,ru⟩
   ·rw[h_,if_pos e]at h';cases h'
  ·rw[iz (p:=(ly q,u)) (λz=>e (rh z)),h_,if_neg e]
   exact rk (qv.inj h) rs
def RN{kk:Nat}(hc:B.cn[n]?=none)(hr:b8 kk X.A)(ho:PE X o (tE B fo))(hb:PE X b (tE B fb))(hs:LU b):PE X (.Subscript o b pos) (tE B (Dt n fo fb)):=by
 refine aR (xT (by have:=hr.units;omega) ho hb hs) λσ H Q z=>?_
 obtain⟨g,s,t,s',x,h,k⟩:=z;obtain⟨⟨tx,s1⟩,h1,h⟩:=aa h;obtain⟨⟨ty,s2⟩,h2,h⟩:=aa h;obtain⟨z,h3,h⟩:=aa h;obtain⟨ky,h4,h⟩:=aa h;obtain⟨t',h5,h⟩:=aa h;cases h;obtain⟨e1,m1⟩:=jP (ai h3);dsimp only at e1;subst e1;refine⟨g,s,_,s1,x,h1,λv g1 H1 p1 x1 r1=>⟨g1,s1,ty,s2,x1,h2,λw g2 H2 p2 x2 r2=>?_⟩⟩;obtain⟨l,rfl,ha⟩:=r1;obtain⟨Z,l1,vs,q1,o1,hh,hl,rr⟩:=x2.oZ hc m1 (dR p2.pre ha);cases q1;obtain⟨v,hv,rv⟩:=(rk (k:=ky) hl rr).1 _ (ai h5);rw[lK (ai h4) r2];exact⟨l,v,rfl,hv▸.k hh,k v g2 H2 (p1.trans p2) x2 rv⟩
end
section
variable{m:FV}{j:Nat}{ob:Ob}{c c':C}{a Ca dx:Addr}{ns:Bi}{vs:List V}{w:V}
def fU.one(x:fU B g H m)(hk:m[k]?=some ob)(Z:A1 B g H k ob a Ca dx ns vs)(hw:vs[j]?=some w)(sub:aM g'.HF H')(live:∀b p,g'.o b=some p->g'.HF b=none/\∃u,H' b=some u)(fr:aM g.HF g'.HF)(QF:g'.al=g.al)
  (kk:∀l p,g.o l=some p->p≠.fld k j->(∀i,p≠.loc i)->g'.o l=some p/\H' l=H l) (q:a_ B g' H' (.fld k j) c' w):fU B g' H' (m.set k ⟨ob.c,ob.fs.set j c'⟩):=by
 have pre:g.al <+: g'.al:=by rw[QF];exact fj
 refine⟨sub,live,by rw[e_,QF];exact x.len,λk' m_ e=>?_⟩
 by_cases oW:k=k'
 ·subst oW
  rw[eu (bD.mp hk).1]at e;cases e;obtain⟨o',h'⟩:=kk a _ Z.o (λz=>by cases z) (λi z=>by cases z)
  refine .inl ⟨a,Ca,dx,ns,vs,dR pre Z.al,o',Z.cl,h'.trans Z.h,Z.le,by rw[e_];exact Z.ln,λj' d e=>?_⟩
  by_cases hj:j=j'
  ·subst hj
   have je:j<ob.fs.length:=by rw[<- Z.ln];exact(bD.mp hw).1
   have e:(ob.fs.set j c')[j]?=some d:=e;rw[eu je]at e;cases e;exact⟨w,hw,q⟩
  ·have e:(ob.fs.set j c')[j']?=some d:=e
   rw[dB hj]at e;obtain⟨v,h1,h2⟩:=Z.f j' d e;exact⟨v,h1,h2.mv fr pre λl z=>kk l _ z (λz=>hj (by cases z;rfl)) (λi z=>by cases z)⟩
 ·rw[dB oW]at e
  refine(x.at_ k' m_ e).mv fr pre λl p h hp=>kk l p h ?_ ?_
  ·rcases hp with rfl|⟨j',rfl⟩
   ·exact λz=>by cases z
   ·exact λz=>oW (by cases z;rfl)
  ·rcases hp with rfl|⟨j',rfl⟩
   ·exact λi z=>by cases z
   ·exact λi z=>by cases z
end
def f9(tab:Ap)(f:Nat)(m:FV):T->Option (Nat×Ob×Nat×C)
 |.own k=>(m[k]?).bind λob=>(iC tab ob.c f).bind λj=>(ob.fs[j]?).map λc=>(k,ob,j,c)
 |_=>none
def Dv(m:FV)(z:Nat×Ob×Nat×C)(c:C):FV:=m.set z.1 ⟨z.2.1.c,z.2.1.fs.set z.2.2.1 c⟩
def MZ:C->FR
 |.ol ts=>some (.lst ts)
 |.od ks ts=>some (.hU ks ts)
 |_=>none
def As(n:Nat)(tab:Ap)(f:Nat)(a:FE):FE:=λs=>(a s).bind λp=>(aX (f9 tab f p.2.m p.1)).bind λz=>match z.2.2.2 with
 |.val t=>(match uq n p.2.m t with
  |some y=>(aX (MZ y.2)).bind λu=>.ok (u,{p.2 with m:=Dv (p.2.m.set y.1 ⟨n,[]⟩) z (.val u)})
  |none=>.ok (t,p.2))
 |_=>.bad
def nk(tab:Ap)(f:Nat)(gg:T->T->FR)(o a:FE):FS:=λs=>(o s).bind λp=>(aX (f9 tab f p.2.m p.1)).bind λz=>match z.2.2.2 with
 |.val t=>(a p.2).bind λq=>(aX (f9 tab f q.2.m p.1)).bind λy=>(aX (gd (y.2.1.c=z.2.1.c) ())).bind λ_=>(aX (gg t q.1)).bind λu=>.ok (.nx,{q.2 with m:=Dv q.2.m y (.val u)})
 |_=>.bad
section
def SR.GU(O:mX X.K X.mg P){f:Nat}{n:Str}(hf:P.an[f]?=some n)(x:SR (P.kt X) g H σ s){t:T}{z:Nat×Ob×Nat×C}(h:f9 P.tab f s.m t=some z){v:V}(r:Rep (P.kt X) g.al g.HF t v) :
  ∃a Ca dx ns vs w,v=.ref a/\A1 (P.kt X) g H z.1 z.2.1 a Ca dx ns vs/\s.m[z.1]?=some z.2.1/\vs[z.2.2.1]?=some w/\a_ (P.kt X) g H (.fld z.1 z.2.2.1) z.2.2.2 w/\pF X.K Ca/\eA X.K Ca n/\(ns.zip vs).lookup n=some w:=by
 cases t<;>first|(cases h;done)|skip
 rename_i k;obtain⟨ob,h1,h⟩:=dH.mp (show(s.m[k]?).bind _=some z from h);obtain⟨j,h2,h⟩:=dH.mp h;obtain⟨c,h3,rfl⟩:=dg.mp h;obtain⟨a,rfl,ha⟩:=r;rcases x.st.at_ k ob h1 with⟨a',Ca,dx,ns,vs,Z⟩|⟨a',Z⟩
 case inr=>
  obtain⟨l,q,_⟩:=dH.mp h2;have z:(P.tab.map _)[ob.c]?=none:=Z.nf;rw[fJ,q]at z;cases z
 have:=Z.al.symm.trans ha
 cases this;obtain⟨mm,hm,nY,F⟩:=O.of Z.cl;have hj:=lJ hf nY h2;obtain⟨w,hw,sl⟩:=Z.f j c h3;exact⟨a,Ca,dx,ns,vs,w,rfl,Z,h1,hw,sl,F.cl,F.na _ (i8 hj),by rw[gJ F.nd hj,hw]⟩
def SR.Wu{l:Addr}{c:C}{u:HO}(x:SR B g H σ s)(Z:UB B g H k ⟨n,[c]⟩ l)(hk:s.m[k]?=some ⟨n,[c]⟩)(ho:g.o l=some (.ob k))(hh:H l=some u) :
  eV g H (g.iL l u) H/\SR B (g.iL l u) H σ {s with m:=s.m.set k ⟨n,[]⟩}:=by
 have hf:=(x.st.live l _ ho).1;have ne:∀b p,g.o b=some p->p≠.ob k->(g.iL l u).o b=some p:=λb p hb hp=>by
  have:b≠l:=λe=>hp (by rw[e,ho]at hb;cases hb;rfl)
  show(if b=l then none else g.o b)=_
  rw[if_neg this];exact hb
 refine⟨qM ho hf,⟨⟨λb w e=>?_,λb q e=>?_,by show(s.m.set k _).length=_;rw[e_];exact x.st.len,λk' vZ e=>?_⟩,x.lc.len,λi d e=>?_⟩⟩
 ·have e:upd g.HF l u b=some w:=e
  by_cases hb:b=l
  ·subst hb;rw[aj]at e;cases e;exact hh
  ·rw[aq hb]at e;exact x.sub _ _ e
 ·have e:(if b=l then none else g.o b)=some q:=e
  by_cases hb:b=l
  ·rw[if_pos hb]at e;cases e
  ·rw[if_neg hb]at e
   obtain⟨h1,h2⟩:=x.st.live b q e;exact⟨by show upd g.HF l u b=none;rw[aq hb];exact h1,h2⟩
 ·have e:(s.m.set k ⟨n,[]⟩)[k']?=some vZ:=e
  by_cases oW:k=k'
  ·subst oW
   rw[eu (bD.mp hk).1]at e;cases e;exact .inr ⟨l,Z.al,Z.nc,Z.nf,λd z=>by cases z⟩
  ·rw[dB oW]at e
   refine(x.st.at_ k' vZ e).mv (g':=g.iL l u) (aZ hf) fj λb q h hq=>⟨ne b q h ?_,rfl⟩;rcases hq with rfl|⟨j,rfl⟩
   ·exact λz=>oW (by cases z;rfl)
   ·exact λz=>by cases z
 ·obtain⟨v,h1,h2⟩:=x.lc.at_ i d e
  exact⟨v,h1,mR (q:=.loc i) ho hf (λz=>by cases z) h2⟩
def SR.Wv{z:Nat×Ob×Nat×C}{c':C}{a Ca dx:Addr}{ns:Bi}{vs:List V}{w:V}(x:SR B g H σ s)(hk:s.m[z.1]?=some z.2.1)(Z:A1 B g H z.1 z.2.1 a Ca dx ns vs)(hw:vs[z.2.2.1]?=some w)(q:a_ B g H (.fld z.1 z.2.2.1) c' w):SR B g H σ {s with m:=Dv s.m z c'}:=
 ⟨x.st.one hk Z hw x.st.sub x.st.live (aM.refl _) rfl (λ_ _ h _ _=>⟨h,rfl⟩) q,x.lc⟩
def p9{tab:Ap}{f:Nat}{m:FV}{t:T}{z:Nat×Ob×Nat×C}(h:f9 tab f m t=some z):t=.own z.1/\m[z.1]?=some z.2.1/\iC tab z.2.1.c f=some z.2.2.1/\z.2.1.fs[z.2.2.1]?=some z.2.2.2:=by
 cases t<;>first|(cases h;done)|skip
 rename_i k;obtain⟨ob,h1,h⟩:=dH.mp (show(m[k]?).bind _=some z from h);obtain⟨j,h2,h⟩:=dH.mp h;obtain⟨c,h3,rfl⟩:=dg.mp h;exact⟨rfl,h1,h2,h3⟩
def GW{l:Addr}{c:C}{u:T}(h:MZ c=some u)(q:a_ B g H (.ob k) c (.ref l))(lv:g.HF l=none):∃hu,g.o l=some (.ob k)/\H l=some hu/\Rep B (g.iL l hu).al (g.iL l hu).HF u (.ref l):=by
 cases c<;>first|(cases h;done)|skip
 ·cases h
  obtain⟨l',vs,e,ho,hh,r⟩:=q;cases e;exact⟨_,ho,hh,l,vs,rfl,aj,r.mv fj (aZ lv)⟩
 ·cases h
  obtain⟨l',vs,e,ho,hh,hl,r⟩:=q;cases e;exact⟨_,ho,hh,l,vs,rfl,aj,hl,r.mv fj (aZ lv)⟩
def M0(O:mX X.K X.mg P){f:Nat}{nm:Str}(hc:P.cn[n]?=none)(hf:P.an[f]?=some nm)(he:PE X e (tE (P.kt X) fa))(hb:bq e=true):PE X (.Attribute e nm pos) (tE (P.kt X) (As n P.tab f fa)):=by
 refine aR (Cf he (dS hb)) λσ H Q z=>?_;obtain⟨g,s,t,s',x,h,k⟩:=z;obtain⟨⟨tx,s1⟩,h1,h⟩:=aa h;obtain⟨z,h2,h⟩:=aa h;have hz:=ai h2;refine⟨g,s,_,s1,x,h1,λv g1 H1 p1 x1 r1=>?_⟩;obtain⟨a,Ca,dx,ns,vs,w,rfl,Z,hk,hw,sl,cl,na,lk⟩:=x1.GU O hf hz r1;refine⟨a,Ca,dx,_,w,rfl,Z.h,cl,na,lk,?_⟩;obtain⟨k0,ob,j,c⟩:=z;cases c<;>first|(cases h;done)|skip
 rename_i tv;dsimp only at h;cases hb:uq n s1.m tv with
 |none=>
  rw[hb]at h;cases h;exact k w g1 H1 p1 x1 sl
 |some y=>
  rw[hb]at h;obtain⟨u,h3,h⟩:=aa h;cases h;obtain⟨e1,m1⟩:=nj hb;subst e1;obtain⟨l,rfl,ha⟩:=sl;obtain⟨ZB,qB⟩:=x1.oZ hc m1 ha;have í:g1.HF l=none:=by
   have h3:=ai h3;obtain⟨kb,cb⟩:=y;cases cb<;>first|(cases h3;done)|skip
   ·obtain⟨l',_,e,ho,_⟩:=qB
    cases e;exact(x1.st.live l _ ho).1
   ·obtain⟨l',_,e,ho,_⟩:=qB
    cases e;exact(x1.st.live l _ ho).1
  obtain⟨hu,ho,hh,ru⟩:=GW (ai h3) qB í;obtain⟨p2,x2⟩:=x1.Wu ZB m1 ho hh;obtain⟨e0,e1,e2,e3⟩:=p9 hz;dsimp only at e0 e1 e2 e3;have oW:y.1≠k0:=λz=>by
   rw[z,e1]at m1;cases m1;obtain⟨l,q,_⟩:=dH.mp e2;obtain⟨mm,q2,_⟩:=Z.cl;rw[hc]at q2;cases q2
  have YB:(s1.m.set y.1 ⟨n,[]⟩)[k0]?=some ob:=by rw[dB oW];exact e1
  have î:f9 P.tab f (s1.m.set y.1 ⟨n,[]⟩) tx=some (k0,ob,j,.val (.own y.1)):=by
   rw[e0];show((s1.m.set y.1 ⟨n,[]⟩)[k0]?).bind _=_;rw[YB];show(iC P.tab ob.c f).bind _=_;rw[e2];show(ob.fs[j]?).map _=_;rw[e3];rfl
  obtain⟨a',Ca',Up,E1,vs',w',e4,Z',ï,ð,Uh,_⟩:=x2.GU O hf î (r1.mv p2.pre p2.fr);obtain⟨l',e5,Ut⟩:=Uh
  have:l=l':=by
   have q:=dR p2.pre ha;rw[q]at Ut;exact kg.inj Ut
  subst this;subst e5;exact k _ _ H1 (p1.trans p2) (x2.Wv ï Z' ð (c':=.val _) ru) ru
def Au{t u w:T}(h:f6 t u=some w):∃i j,t=.int i/\u=.int j/\w=.int (i+j):=by
 cases t<;>first|(cases h;done)|(cases u<;>first|(cases h;done)|(cases h;exact⟨_,_,rfl,rfl,rfl⟩))
def RO(O:mX X.K X.mg P){f:Nat}{nm:Str}(hf:P.an[f]?=some nm)(ho:PE X o (tE (P.kt X) fo))(he:PE X e (tE (P.kt X) fa)):PS X (.AugAssign (.Attribute o nm cy) .Add e pos) (tS (P.kt X) (nk P.tab f f6 fo fa)):=by
 refine c5 (z3 ho he Lu) λD σ H z=>?_;obtain⟨g,s,oo,s',x,h,k⟩:=z;obtain⟨⟨tx,s1⟩,h1,h⟩:=aa h;obtain⟨z,h2,h⟩:=aa h;have hz:=ai h2;refine⟨g,s,_,s1,x,h1,λv g1 H1 p1 x1 r1=>?_⟩;obtain⟨a,Ca,dx,ns,vs,w,rfl,Z,hk,hw,sl,cl,na,lk⟩:=x1.GU O hf hz r1;refine⟨a,Ca,dx,_,w,rfl,Z.h,cl,na,lk,?_⟩;obtain⟨k0,ob,j,c⟩:=z;cases c<;>first|(cases h;done)|skip
 rename_i tv;obtain⟨⟨ty,s2⟩,h3,h⟩:=aa h;obtain⟨y,h4,h⟩:=aa h;obtain⟨_,h5,h⟩:=aa h;obtain⟨xE,_⟩:=aV (ai h5);obtain⟨u,h6,h⟩:=aa h;cases h;have h6:=ai h6;obtain⟨i,j',rfl,rfl,rfl⟩:=Au h6;cases(show w=V.int i from sl);refine⟨g1,s1,_,s2,x1,h3,λw2 g2 H2 p2 x2 r2=>?_⟩;cases(show w2=V.int j' from r2);refine⟨_,_,rfl,rfl,?_⟩;have hy:=ai h4;obtain⟨a2,Ca2,ñ,ns2,UL,w3,e4,Z2,YB,hw2,_,_⟩:=x2.GU O hf hy (r1.mv p2.pre p2.fr);cases e4;obtain⟨k2,vZ,j2,c2⟩:=y;have xE:vZ.c=ob.c:=xE;have ec:=Z2.cl;rw[xE]at ec;obtain⟨rfl,rfl⟩:=ec.eq Z.cl;obtain⟨e0,e1,e2,e3⟩:=p9 hy;have hp:cY P.tab f (.val (.int (i+j'))) vZ=some ⟨vZ.c,vZ.fs.set j2 (.val (.int (i+j')))⟩:=by
  unfold cY;rw[e2];show(setAt vZ.fs j2 _).map _=_;unfold setAt;rw[if_pos (bD.mp e3).1];rfl
 obtain⟨_,_,hl,vs',e5,p3,x3⟩:=yl O hf x2 Z2 e1 hp (v:=.int (i+j')) λj=>rfl;refine⟨ñ,_,Z2.h,hl,?_⟩;rw[e5];exact k σ g2 _ ((p1.trans p2).trans p3) x3
end
def UM(c:FT)(a b:FL):FL:=λs=>(c s).bind λp=>if p.1 then a p.2 else b p.2
def Ww:T->FC
 |.tup ts=>some ts
 |.lst ts=>some ts
 |_=>none
def o1(g:T->FC)(a:FE):FL:=λs=>(a s).bind λp=>(aX (g p.1)).bind λts=>.ok (ts,p.2)
def Dw:T->T->FC
 |.lst a,.int k=>gd (k<1000000/\-1000000<k/\a.length*k.toNat<=1000000) (dM k.toNat a).flatten
 |_,_=>none
def o2(g:T->T->FC)(a b:FE):FL:=λs=>(a s).bind λp=>(b p.2).bind λq=>(aX (g p.1 q.1)).bind λts=>.ok (ts,q.2)
def Av:T->FC
 |.int j=>gd (0<=j/\j<1000000) (lE 0 j.toNat)
 |_=>none
def Aw:FK->FC
 |[.int i,.int j,.int k]=>gd (j=-1/\k=-1/\-1<=i/\i<1000000) ((bM (i+1).toNat).map λk=>.int (i-(k:Nat)))
 |_=>none
def M1:T->FC
 |.lst ts=>some ts.reverse
 |_=>none
def isSlice:Expr->Bool
 |.Slice _ _ _ _=>true
 |_=>false
section
variable{gl:FL}{ft:FT}
def RQ(hc:PT X c (tT B ft))(ha:PE X a (tO B fl))(hb:PE X b (tO B gl)):PE X (.IfExp c a b pos) (tO B (UM ft fl gl)):=aR (sJ hc ha hb) λσ H Q z=>by
 obtain⟨g,s,t,s',x,h,k⟩:=z;obtain⟨⟨d,s1⟩,h1,h⟩:=aa h;refine⟨g,s,d,s1,x,h1,λg1 H1 p1 x1=>?_⟩;cases d with
 |true=>exact sY ⟨g1,s1,_,_,x1,h,λl vs g2 H2 p2 x2 n0=>k l vs g2 H2 (p1.trans p2) x2 (p1.there l n0)⟩
 |false=>exact sX ⟨g1,s1,_,_,x1,h,λl vs g2 H2 p2 x2 n0=>k l vs g2 H2 (p1.trans p2) x2 (p1.there l n0)⟩
def RS(hB:B.K=X.K)(hm:X.mg "list" = none)(hg:Gl X "list")(ha:PE X a (tE B fa))(hs:noStar a=true):PE X (.Call (.Name "list" p) [a] [] pos) (tO B (o1 Ww fa)):=by
 refine aR (gy gG hg hm BZ (aW ha cj (ao hs)) (by decide) (by decide) (ao hs) rfl) λσ H Q z=>?_
 obtain⟨g,s,t,s',x,h,k⟩:=z;obtain⟨⟨tx,s1⟩,h1,h⟩:=aa h;obtain⟨ts,h2,h⟩:=aa h;cases h;have h2:=ai h2;refine⟨g,s,tx,s1,x,h1,λv g1 H1 p1 x1 r1=>?_⟩;have main:∀{xs:List V},aC B g1.al g1.HF t xs->∀l,H1 l=none->Q (.ref l) (upd H1 l (.lst xs)):=λ{xs} r l hl=>by
  obtain⟨gr,n1,n2⟩:=mO (u:=.lst xs) x1 hl;exact k l xs _ _ (p1.trans (x1.gk gr)) (x1.grow gr) (p1.there l hl) n1 n2 aj r
 cases tx<;>first|(cases h2;done)|skip
 ·cases h2
  obtain⟨l,xs,rfl,q,r⟩:=r1;exact⟨l,xs,rfl,.inr (hB▸cZ x1.sub q),main r⟩
 ·cases h2
  obtain⟨l,xs,rfl,q,r⟩:=r1;exact⟨l,xs,rfl,.inl (cV.of (x1.sub _ _ q)),main r⟩
def M3(ha:PE X a (tE B fa))(hb:PE X b (tE B fb)):PE X (.BinOp a .Mult b pos) (tO B (o2 Dw fa fb)):=by
 refine aR (l_ Cu ha hb) λσ H Q z=>?_;obtain⟨g,s,t,s',x,h,k⟩:=z;obtain⟨⟨tx,s1⟩,h1,h⟩:=aa h;obtain⟨⟨ty,s2⟩,h2,h⟩:=aa h;obtain⟨ts,h3,h⟩:=aa h;cases h;have h3:=ai h3;refine⟨g,s,tx,s1,x,h1,λv g1 H1 p1 x1 r1=>⟨g1,s1,ty,s2,x1,h2,λw g2 H2 p2 x2 r2=>?_⟩⟩;cases tx<;>first|(cases h3;done)|(cases ty<;>first|(cases h3;done)|skip)
 obtain⟨c,rfl⟩:=aV h3;obtain⟨l,xs,rfl,q,r⟩:=r1.mv p2.pre p2.fr;refine⟨l,_,xs,rfl,r2,x2.sub _ _ q,by omega,by omega,by rw[<- r.len,sizeLine_eq];omega,λp hp=>?_⟩
 obtain⟨gr,n1,n2⟩:=mO (u:=.lst (dM _ xs).flatten) x2 hp;exact k p _ _ _ ((p1.trans p2).trans (x2.gk gr)) (x2.grow gr) (p1.there p (p2.there p hp)) n1 n2 aj (r.flat _)
def GX{t:T}{ts:FK}(h:Av t=some ts):∃j,t=.int j/\(0<=j/\j<1000000)/\ts=lE 0 j.toNat:=by
 cases t<;>first|(cases h;done)|skip
 obtain⟨c,rfl⟩:=aV h;exact⟨_,rfl,c,rfl⟩
def Kg(hc:X.calm=true)(ò:X.mg "list" = none)(ó:X.mg "range" = none)(ô:Gl X "list")(õ:Gl X "range")(ha:PE X a (tE B fa)){p1 tM:Pos}(hs:noStar a=true) :
  PE X (.Call (.Name "list" p) [.Call (.Name "range" p1) [a] [] tM] [] pos) (tO B (o1 Av fa)):=by
 refine aR (gy (oO hc) ô ò BZ (aW (gy Af õ ó PyProof.Rows.boot_range (aW ha cj (ao hs)) (by decide) (by decide) (ao hs) rfl) cj (ao rfl)) (by decide) (by decide) (ao rfl) rfl) λσ H Q z=>?_
 obtain⟨g,s,t,s',x,h,k⟩:=z;obtain⟨⟨tx,s1⟩,h1,h⟩:=aa h;obtain⟨ts,h2,h⟩:=aa h;cases h;have h2:=ai h2;obtain⟨j,rfl,c,rfl⟩:=GX h2;refine⟨g,s,_,s1,x,h1,λv g1 H1 p1 x1 r1=>?_⟩;cases r1;refine⟨j,rfl,λq hq=>⟨q,j,rfl,aj,c.1,by omega,λl hl=>?_⟩⟩
 obtain⟨gr,n1,n2⟩:=mO (u:=.lE 0 j) x1 hq;have x2:=x1.grow gr;obtain⟨YC,n3,n4⟩:=mO (u:=.lst ((bM j.toNat).map λk=>V.int (k:Nat))) x2 hl;have Cn:l≠q:=(aK aj hl).symm;have ö:H1 l=none:=by rw[aq Cn]at hl;exact hl
 have e:((bM j.toNat).map λk=>V.int (k:Nat))=(bM j.toNat).map λk=>V.int (0+((k:Nat):Int)):=by
  apply oz;intro k _;rw[xw]
 refine k l _ _ _ ((p1.trans (x1.gk gr)).trans (x2.gk YC)) (x2.grow YC) (p1.there l ö) n3 n4 aj ?_;rw[e];exact aC.lE 0 _
theorem aC.rev{al:BM}{H:Hp}:∀{ts:FK}{vs:List V},aC B al H ts vs->aC B al H ts.reverse vs.reverse
 |[],_,h=>by have h:_=[]:=h;subst h;rfl
 |t::ts,_,h=>by
  obtain⟨v,r,rfl,h1,h2⟩:=h;rw[Bw,Bw];exact h2.rev.app (.one h1)
def GY{a b c:T}{ts:FK}(h:Aw [a,b,c]=some ts):∃i,a=.int i/\b=.int (-1)/\c=.int (-1)/\-1<=i/\i<1000000/\ts=(bM (i+1).toNat).map λk=>.int (i-(k:Nat)):=by
 cases a<;>first|(cases h;done)|(cases b<;>first|(cases h;done)|(cases c<;>first|(cases h;done)|skip))
 obtain⟨⟨rfl,rfl,h1,h2⟩,rfl⟩:=aV h;exact⟨_,rfl,rfl,rfl,h1,h2,rfl⟩
def M4(hg:Gl X "range")(hm:X.mg "range" = none)(ha:PE X a (tE B fa))(hb:PE X b (tE B fb))(hc:PE X c (tE B fc))(hs:[a,b,c].all noStar=true):PI X tg (.Call (.Name "range" p) [a,b,c] [] pos) (tI B (xW Aw (cO fa (cO fb (cO fc bg))))):=by
 simp only[fh,List.all_nil,BS,dq]at hs;obtain⟨k1,k2,k3⟩:=hs;have e3:starEach [c] X.env=[(false,eval c X.env)]:=ao k3;have e2:starEach [b,c] X.env=[(false,eval b X.env),(false,eval c X.env)]:=by rw[ao k2,e3]
 have e1:starEach [a,b,c] X.env=[(false,eval a X.env),(false,eval b X.env),(false,eval c X.env)]:=by rw[ao k1,e2]
 refine kR (F0 hg hm (aW ha (aW hb (aW hc cj (ao k3)) (ao k2)) (ao k1)) e1 e2) λσ H R z=>?_;obtain⟨g,s,t,s',x,h,k⟩:=z;obtain⟨⟨ts,s1⟩,h1,h⟩:=aa h;obtain⟨us,h2,h⟩:=aa h;cases h;obtain⟨⟨tx,s2⟩,h3,h1⟩:=aa h1;obtain⟨⟨ty,s3⟩,h4,h1⟩:=aa h1;cases h1;obtain⟨⟨tz,s4⟩,h5,h4⟩:=aa h4;obtain⟨⟨tw,s5⟩,h6,h4⟩:=aa h4;cases h4;obtain⟨⟨tv,s6⟩,h7,h6⟩:=aa h6;cases h6;obtain⟨i,rfl,rfl,rfl,l1,l2,rfl⟩:=GY (ai h2);refine⟨g,s,_,_,x,h3,λv g1 H1 p1 x1 r1=>⟨g1,_,_,_,x1,h5,λw g2 H2 p2 x2 r2=>⟨g2,_,_,_,x2,h7,λu g3 H3 p3 x3 r3=>?_⟩⟩⟩;cases r1;cases r2;cases r3;exact⟨_,rfl,l1,by omega,k _ g3 H3 ((p1.trans p2).trans p3) x3 (jN (Dk _ _) (aC.á _ _))⟩
def RT(hg:Gl X "reversed")(hm:X.mg "reversed" = none)(ha:PE X a (tE B fa))(hs:noStar a=true):PI X tg (.Call (.Name "reversed" p) [a] [] pos) (tI B (o1 M1 fa)):=by
 have h0:starEach [a] X.env=[(false,eval a X.env)]:=ao hs;refine kR (LO hg hm (aW ha cj h0) h0) λσ H R z=>?_;obtain⟨g,s,t,s',x,h,k⟩:=z;obtain⟨⟨tx,s1⟩,h1,h⟩:=aa h;obtain⟨ts,h2,h⟩:=aa h;cases h;have h2:=ai h2;cases tx<;>first|(cases h2;done)|skip
 cases h2;refine⟨g,s,_,s1,x,h1,λv g1 H1 p1 x1 r1=>?_⟩;obtain⟨l,vs,rfl,q,r⟩:=r1;refine⟨l,vs,rfl,cV.of (x1.sub _ _ q),k _ g1 H1 p1 x1 ⟨λi H1 s1 hi=>?_,λi H1 x H2 s1 hi y=>?_,λi H1 s1 hi=>?_⟩⟩
 ·rw[Bx,r.len]at hi
  exact⟨hi,cV.of (s1 _ _ q)⟩
 ·rw[Bx,r.len]at hi
  obtain⟨rfl,e⟩:=y;have e':vs.reverse[i]?=some x:=by rw[List.getElem?_reverse hi];exact e
  obtain⟨t,e1,e2⟩:=r.rev.vN e';exact⟨t,e1,λuf s2 s3=>⟨uf,.refl s3,e2.same s2⟩⟩
 ·rw[Bx,r.len]at hi
  exact hi
def RU{py Ad:Pos}(hb:PE X b (tE B fb))(he:PE X e (tE B fa))(hN:X.N[i]?=some y)(hv:vd X.env.scope y)(hd:cu y)(lG:jA y)(hs:swapsWith e (some (.Subscript (.Name y py) b Ad)) pos.line X.env=pure false)(jt:isSlice b=false) :
  PS X (.Assign [.Subscript (.Name y py) b Ad] e pos) (tS B (cW i fb fa)):=by
 refine c5 (B_ he (Lb (fL hN hv hd lG) hb set_list λv=>?_) hs rfl rfl) λD σ H z=>?_
 ·cases b<;>first|rfl|(cases jt)
 obtain⟨g,s,oo,s',x,h,k⟩:=z;obtain⟨⟨t,s1⟩,h1,h⟩:=aa h;obtain⟨Dy,h2,h⟩:=aa h;obtain⟨⟨tk,s2⟩,h3,h⟩:=aa h;obtain⟨ts,h4,h⟩:=aa h;obtain⟨j,h5,h⟩:=aa h;obtain⟨us,h6,h⟩:=aa h;obtain⟨⟨z1,z2⟩,rfl⟩:=aV (ai h6);cases h;have ej:tk=.int j:=yd (ai h5);subst ej;refine⟨g,s,t,s1,x,h1,λv g1 H1 p1 x1 r1=>?_⟩;obtain⟨l,vs,w1,w2,w3,w4⟩:=x1.oV (eE (ai h2));refine⟨_,w1,g1,s1,_,s2,x1,h3,λu g2 H2 p2 x2 r2=>?_⟩;have ho:=eE (ai h4);obtain⟨l',vs',q1,q2,q3,q4⟩:=x2.oV ho;rw[w1]at q1;cases q1;cases r2;obtain⟨x3,p3⟩:=x2.chg ho w1 (q4.set (r1.mv p2.pre p2.fr) j.toNat);have hl:ts.length=vs'.length:=q4.len;refine⟨l,vs',j,j.toNat,rfl,rfl,q3,?_,k σ g2 _ ((p1.trans p2).trans p3) x3⟩;unfold FF;rw[if_pos z1,if_pos (by omega)]
end
def gM:Expr->Option Const
 |.Constant c _ _=>some c
 |_=>none
def uv(e:Expr):Option Str:=match gM e with
 |some (.str x)=>some x
 |_=>none
def Wx:T->Bool
 |.hU _ _=>true
 |_=>false
section
def RV{kk:Nat}(hB:B.K=X.K)(hr:b8 kk X.A)(ha:PE X a (tE B fa))(hb:PE X b (tE B fb))(hs:iM b):PE X (.Subscript a b pos) (tE B (bw xU fa fb)):=λae sh σ H Q I z=>by
 obtain⟨g,s,t,s',x,h,k⟩:=z;obtain⟨⟨tx,s1⟩,h1,h0⟩:=aa h;obtain⟨⟨ty,s2⟩,h2,h0⟩:=aa h0;obtain⟨t',h3,h0⟩:=aa h0;cases h0;cases hd:Wx tx with
 |false=>
  refine Ml hB ha hb hs ae sh σ H Q I ⟨g,s,t,_,x,?_,k⟩;have e:gi tx ty=xU tx ty:=by cases tx<;>first|rfl|(cases hd)
  unfold bw;rw[h1];show(fb s1).bind _=_;rw[h2];show(aX (gi tx ty)).bind _=_;rw[e,h3];rfl
 |true=>
  cases tx<;>first|(cases hd;done)|skip
  obtain⟨ky,h4,h5⟩:=dH.mp (ai h3);refine xT (by have:=hr.units;omega) ha hb hs ae sh σ H Q I ⟨g,s,_,s1,x,h1,λv g1 H1 p1 x1 r1=>⟨g1,s1,ty,s2,x1,h2,λw g2 H2 p2 x2 r2=>?_⟩⟩
  obtain⟨l,vs,rfl,q,hl,rr⟩:=r1.mv p2.pre p2.fr;obtain⟨v,hv,rv⟩:=(rk (k:=ky) hl rr).1 _ h5;rw[lK h4 r2];exact⟨l,v,rfl,hv▸.k (x2.sub _ _ q),k v g2 H2 (p1.trans p2) x2 rv⟩
def iN{q}(h:gM e=some q):∃k p,e=.Constant q k p:=by
 cases e<;>first|(cases h;done)|(cases h;exact⟨_,_,rfl⟩)
def str_inv(h:uv e=some x):∃kk p,e=.Constant (.str x) kk p:=by
 unfold uv at h;cases hc:gM e with
 |none=>rw[hc]at h;cases h
 |some c=>
  rw[hc]at h;cases c<;>first|(cases h;done)|skip
  cases h;exact iN hc
end
def kU(n:Nat)(o:FE):FE:=λs=>(o s).bind λp=>(aX (oX n p.2.m p.1)).bind λz=>.ok (.int z.2.length,p.2)
def nq(n:Nat)(o:FE):FE:=λs=>(o s).bind λp=>(aX (oX n p.2.m p.1)).bind λz=>match z.2 with
 |t::ts=>.ok (t,setB n p.2 z.1 (.ol ts))
 |[]=>.bad
def Dz(n:Nat)(o:FE)(lo hi:FO):FE:=λs=>(o s).bind λp=>(lo p.2).bind λq=>(hi q.2).bind λw=>(aX (oX n w.2.m p.1)).bind λz=>.ok (.lst (bu z.2 q.1 w.1),w.2)
section
variable{OO OP:Option Expr}{p2:Pos}{OM ON:FO}
def M5(hc:B.cn[n]?=none)(ho:PE X o (tE B fo))(hs:noStar o=true)(hg:Gl X "len")(hm:X.mg "len" = none):PE X (.Call (.Name "len" p) [o] [] pos) (tE B (kU n fo)):=by
 refine aR (iu mh hg hm PySem.boot_len (aW ho cj (ao hs)) (he:=ao hs) (hpl:=rfl)) λσ H Q z=>?_;obtain⟨g,s,t,s',x,h,k⟩:=z;obtain⟨⟨tx,s1⟩,h1,h⟩:=aa h;obtain⟨z,h2,h⟩:=aa h;cases h;obtain⟨e1,m1⟩:=iH (ai h2);dsimp only at e1;subst e1;refine⟨g,s,_,s1,x,h1,λv g1 H1 p1 x1 r1=>?_⟩;obtain⟨l,rfl,ha⟩:=r1;obtain⟨Z,l1,vs,q1,o1,hh,rr⟩:=x1.oZ hc m1 ha;cases q1;exact⟨_,_,rfl,.inl ⟨vs,cV.of hh,rr.len⟩,k _ g1 H1 p1 x1 rfl⟩
def M6{c:Nat}{kp:Pos}(hc:B.cn[n]?=none)(ho:PE X o (tE B fo))(hb:bq o=true)(cL:(bF.endLine == cC.line)=true):PE X (.Call (.Attribute o "pop" bF) [.Constant (.int 0) c kp] [] cC) (tE B (nq n fo)):=by
 refine aR (pM PySem.F.plainAttrs_list PySem.F.slot_list_pop PySem.F.type_list_pop Ct ho (aW B4 cj rfl) (dS hb) (pY rfl (by decide)) cL rfl rfl) λσ H Q z=>?_
 obtain⟨g,s,t,s',x,h,k⟩:=z;obtain⟨⟨tx,s1⟩,h1,h⟩:=aa h;obtain⟨⟨kb,ts⟩,h2,h⟩:=aa h;obtain⟨e1,m1⟩:=iH (ai h2);dsimp only at e1 m1;subst e1;dsimp only at h;cases ts with
 |nil=>cases h
 |cons t0 ts=>
  cases h;refine⟨g,s,_,s1,x,h1,λv g1 H1 p1 x1 r1=>?_⟩;obtain⟨l,rfl,ha⟩:=r1;obtain⟨Z,l1,vs,q1,o1,hh,rr⟩:=x1.oZ hc m1 ha;cases q1;obtain⟨v0,vs',rfl,r0,rr⟩:=rr;refine⟨.inl ⟨rfl,_,cV.of hh⟩,l,_,0,0,v0,rfl,rfl,hh,by decide,by decide,by simp[seqIndex?],rfl,?_⟩
  obtain⟨p3,x3⟩:=x1.Du (c':=.ol ts) (u:=.lst vs') Z m1 o1 ⟨l,vs',rfl,o1,aj,rr⟩;exact k v0 g1 _ (p1.trans p3) x3 r0
def RW(hc:B.cn[n]?=none)(ho:PE X o (tE B fo))(hl:PO X OO (tP B OM))(hh:PO X OP (tP B ON)):PE X (.Subscript o (.Slice OO OP none p2) pos) (tE B (Dz n fo OM ON)):=by
 refine aR (sQ Q8 ho hl hh) λσ H Q z=>?_;obtain⟨g,s,t,s',x,h,k⟩:=z;obtain⟨⟨tx,s1⟩,h1,h⟩:=aa h;obtain⟨⟨lo,s2⟩,h2,h⟩:=aa h;obtain⟨⟨hi,s3⟩,h3,h⟩:=aa h;obtain⟨⟨kb,ts⟩,h4,h⟩:=aa h;cases h;obtain⟨e1,m1⟩:=iH (ai h4);dsimp only at e1 m1;subst e1;refine⟨g,s,_,s1,x,h1,λv g1 H1 p1 x1 r1=>⟨g1,s1,_,s2,x1,h2,λg2 H2 p2 x2=>⟨g2,s2,_,_,x2,h3,λg3 H3 p3 x3=>?_⟩⟩⟩;obtain⟨l,rfl,ha⟩:=r1;obtain⟨Z,l1,vs,q1,o1,hh,rr⟩:=x3.oZ hc m1 (dR p3.pre (dR p2.pre ha));cases q1;refine .inr ⟨l,vs,rfl,cV.of hh,λq hq=>?_⟩;rw[qT];have gr:=Gr.new (o:=.lst (bu vs lo hi)) x3.sub hq;exact k _ _ _ (((p1.trans p2).trans p3).trans (x3.gk gr)) (x3.grow gr) ⟨q,_,rfl,aj,(rr.cut _ _).same gr.fr⟩
end
section
variable{td:TE}{body:Ee}
end
section
variable{body:Ee}
end
end D
namespace PySem
open Sem (wp)
section
variable{prog:Program}{w:World}{A:Around}{E:Value->Shared->Prop}{s:Shared}{I:Addr}{fp wr:BM}{G:Array GenState->Array GenState->Prop}{n:Nat}{P:Nat->Value->Prop}{St:Nat->Shared->Prop}{T:String}
end
end PySem
namespace L2
open PySem PySem.Spec PyProof.Rows
section
variable{X:Cx}{a:Expr}{ta:TE}{p p' pos cy:Pos}
end
end L2
namespace D
open PySem L2
def Ax:FK->FR
 |[.int i,.int j]=>some (.int (if j > i then j else i))
 |_=>none
def RY{X:Cx}:LN X Ax (λxs H Q=>∃i j,xs=[.int i,.int j]/\Q (.int (if j > i then j else i)) H):=λB hB al HF H xs t ts Q sm r h k=>by
 match ts,h with
 |[.int i,.int j],h=>
  cases h;obtain⟨v,vs,rfl,r1,r⟩:=r;obtain⟨w,ws,rfl,r2,r⟩:=r;cases r;cases r1;cases r2;exact⟨i,j,rfl,k _ HF H (.refl sm) rfl⟩
section
variable{B:KT}{X:Cx}{a:Expr}{fa:FE}{p p' pos cy:Pos}
end
section
variable{B:KT}{X:Cx}{a b o:Expr}{pos p py:Pos}{fo fb:FE}{n i:Nat}{y:Str}
end
section
variable{B:KT}{X:Cx}{pos:Pos}{n:Nat}{fE:Expr->FE}
end
end D
namespace L2
open PySem PySem.Spec PyProof.Rows
section
variable{X:Cx}{o tg:Expr}{td:TE}{bF cC pos:Pos}{body:Ee}
def RZ(td:TE):TS:=λD σ H=>td σ H λx H1=>∃a,x=.ref a/\H1 a=some (.dK [])/\D.nx σ H1
def GZ(hp:PassesOwn (model X.prog X.w) X.A X.env X.xe)(hc:X.calm=true)(ho:PE X o td)(sU:attributeBase o "values" X.env (eval o X.env)=eval o X.env)(cL:(bF.endLine == cC.line)=true) :
  PS X (.For tg (.Call (.Attribute o "values" bF) [] [] cC) body [] pos) (RZ td):=by
 intro ae s σ H D I h;refine wpAny_For (wpAny_Call_method0_late sU cL (bX (ho ae s σ H _ I h) λv s1 ⟨x,H1,I1,r1,q1⟩=>?_)) λ_=>rfl;obtain⟨d,ex,e,qd⟩:=q1;subst ex;cases r1;obtain⟨z,lo,vs,kv,hd⟩:=JQ I1.bL e;cases kv;obtain⟨ob,es,ep,r⟩:=id hd;have ht:s1.TypeIs (.ref d) "dict" := hd.typeIs;refine⟨"dict","dict.values",PySem.F.plainAttrs_dict,PySem.F.slot_dict_values,PySem.F.type_dict_values,ht,λb q=>by cases q;exact⟨ob,r.1,r.2.1.2.1⟩,Calls.callWith_builtin rfl (PySem.evalArgs_none ?_)⟩
 refine call_meetsIn PySem.F.slot_dict_values ht PySem.F.entry_dict_values (PySem.F.args_dict_values_1 _) (meets_dict_values (bQ X.prog X.w) d lo) ⟨⟨_,hd⟩,?_⟩;have OS:(s1.heap.push {cls:=.type "dict_values",data:=.fields #[.ref d]}).DictAt (bQ X.prog X.w) d [] ep:=⟨ob,es,Heap.get?_push_of_some _ r.1,r.2⟩;refine wpAny_pyIter_values (s:={s1 with heap:=s1.heap.push {cls:=.type "dict_values",data:=.fields #[.ref d]}}) ⟨_,Heap.get?_push_size _ rfl,rfl,rfl⟩ OS ?_
 obtain⟨h2,e2⟩:∃h2,h2=s1.heap.push {cls:=.type "dict_values",data:=.fields #[.ref d]}:=⟨_,rfl⟩;obtain⟨h3,e3⟩:∃h3,h3=h2.push {cls:=.type "dict_valueiterator",data:=.fields #[.ref d,.int 0 0,.int 0 0,.int ep 0]}:=⟨_,rfl⟩;rw[<- e2]at OS;have YD:∀b o,h2.get? b=some o->h3.get? b=some o:=λb o q=>by rw[e3];exact Heap.get?_push_of_some _ q
 have ø:∀b o,s1.heap.get? b=some o->h2.get? b=some o:=λb o q=>by rw[e2];exact Heap.get?_push_of_some _ q
 have Wy:h3.DictAt (bQ X.prog X.w) d [] ep:=by
  obtain⟨o',O2,q1,q2⟩:=OS;exact⟨o',O2,YD _ _ q1,q2⟩
 have hit:h3.IsValIter h2.objs.size d 0 0 ep:=⟨_,by rw[e3];exact Heap.get?_push_size _ rfl,rfl,rfl⟩
 have big:s1.heap.objs.size<=h2.objs.size:=by rw[e2,Heap.size_push];exact BL _
 rw[<- e2];show codeAny _ _ (.forLoop tg (.ref h2.objs.size) body [] X.env) _ {s1 with heap:=h2.push {cls:=.type "dict_valueiterator",data:=.fields #[.ref d,.int 0 0,.int 0 0,.int ep 0]}}
 rw[<- e3];obtain⟨it,Wz⟩:∃it,it=h2.objs.size:=⟨_,rfl⟩;rw[<- Wz]at hit big ⊢;have I3:Inv X ae σ H1 {s1 with heap:=h3}:=I1.kept (t':=s1.toks) λb o q=>YD b o (ø b o q)
 obtain⟨f0,f1,f2,f3,f4,f5⟩:=I1.oG big (I1.bL.fresh big);refine codeAny_forLoop_any (λn s'=>n=0/\s'={s1 with heap:=h3}) ?_ 0 ⟨rfl,rfl⟩
 rintro n s3 ⟨rfl,rfl⟩
 exact wpAny_passesOwn hp (wpAny_pyNext_values_end (s:={s1 with heap:=h3}) (I3.ok.hd hc) hit Wy rfl λh' Ge=>wpAny_execs_nil ⟨σ,_,I3.turned (t':=s1.toks) (λb o jr q=>Ge b o jr q) f0 f1 f3 f4 f5,qd⟩)
end
end L2
namespace D
open PySem L2
def DA(n:Nat)(o:FE):FS:=λs=>(o s).bind λp=>(aX (oY n p.2.m p.1)).bind λz=>match z.2.1 with
 |[]=>.ok (.nx,p.2)
 |_=>.bad
def M7{B:KT}{X:Cx}{o tg:Expr}{bF cC pos:Pos}{body:Ee}{fo:FE}{n:Nat}(hc:X.calm=true)(ho:PE X o (tE B fo))(hp:PassesOwn (model X.prog X.w) X.A X.env X.xe)(VV:B.cn[n]?=none)(hpl:bq o=true)(cL:(bF.endLine == cC.line)=true) :
  PS X (.For tg (.Call (.Attribute o "values" bF) [] [] cC) body [] pos) (tS B (DA n fo)):=by
 refine c5 (GZ hp hc ho (dS hpl) cL) λD σ H z=>?_;obtain⟨g,s,oo,s',x,h,k⟩:=z;obtain⟨⟨tx,s1⟩,h1,h⟩:=aa h;obtain⟨⟨kb,ks,ts⟩,h2,h⟩:=aa h;dsimp only at h;split at h
 case h_2=>cases h
 cases h;obtain⟨e1,m1⟩:=jP (ai h2);dsimp only at e1 m1;subst e1;refine⟨g,s,_,_,x,h1,λv g1 H1 p1 x1 r1=>?_⟩;obtain⟨l,rfl,ha⟩:=r1;obtain⟨Z,l1,vs,q1,o1,hh,hl,rr⟩:=x1.oZ VV m1 ha;cases q1;exact⟨l,rfl,hh,k σ g1 H1 p1 x1⟩
end D
namespace L2
open PySem PySem.Spec PyProof.Rows
end L2
namespace D
open PySem L2
def uw:FK->Option Dx
 |[]=>some []
 |.int i::ts=>(uw ts).map (i::·)
 |_=>none
theorem ints_rep{B:KT}{al:BM}{H:Hp}:∀{ts:FK}{ns:Dx}{vs:List V},uw ts=some ns->aC B al H ts vs->vs=ns.map V.int
 |[],ns,vs,h,r=>by
  cases h;exact r
 |t::ts,ns,vs,h,r=>by
  cases t<;>first|(cases h;done)|skip
  rename_i i;obtain⟨ms,h1,rfl⟩:=dg.mp h;obtain⟨v,ws,rfl,r1,r2⟩:=r;cases(show v=.int i from r1);rw[ints_rep h1 r2];rfl
end D
namespace PySem
section
variable{prog:Program}{w:World}{A:Around}{E:Value->Shared->Prop}{s:Shared}
def kW(a b:Value):checkBuiltinCall "max" ⟨[a],[(Str.ofString "default",b)]⟩=pure ():=by kernel_rfl
def wa{l:Addr}{d:Value}{Q:Value->Shared->Prop}(hh:A.in1.handled=none)(hL:s.heap.IsList l #[])
  (hQ:∀h',(∀b o,s.heap.get? b=some o->h'.get? b=some o)->Q d {s with heap:=h'}) :
  wpAny (model prog w) A (call (.builtin "max") [.ref l] [(Str.ofString "default",d)]) Q E s:=by
 have nt:(toString "max" ++ toString ".loop" : String) = "max.loop" := by decide
 refine wpAny_call (codeAny_call_builtin F.plain_max F.entry_max (wpAny_of_eq (kW _ _) ?_));show wpAny _ A.in1 (Builtin.Builtins.bindParams "max" ["key","default"] 0 ⟨[],[(Str.ofString "default",d)]⟩ >>= _) _ _ s;refine wpAny_bind (wpAny_of_eq (show Builtin.Builtins.bindParams "max" ["key","default"] 0 ⟨[],[(Str.ofString "default",d)]⟩=pure [none,some d]from rfl) ?_);refine wpAny_bind (wpAny_pure ?_);refine wpAny_bind (wpAny_pyIter_list hL ?_);refine wpAny_bind (wpAny_newObj_type ?_);rw[nt];refine wpAny_pure ⟨plainId_quiet F.plain_max_loop _,?_⟩;obtain⟨h1,e1⟩:∃h1,h1=s.heap.push {cls:=.type "list_iterator",data:=.fields #[.ref l,.int 0 0]}:=⟨_,rfl⟩;rw[<- e1];obtain⟨h2,e2⟩:∃h2,h2=h1.push {cls:=.type "list",data:=.seq #[]}:=⟨_,rfl⟩;have hS:h2.get? h1.objs.size=some {cls:=.type "list",data:=.seq #[]}:=by rw[e2];exact Heap.get?_push_size _ rfl
 have hit:h2.IsListIter s.heap.objs.size l 0:=⟨_,by rw[e2];exact Heap.get?_push_of_some _ (by rw[e1];exact Heap.get?_push_size _ rfl),rfl,rfl⟩
 have FQ:h2.IsList l #[]:=by
  obtain⟨o,q1,q2⟩:=hL;exact⟨o,by rw[e2];exact Heap.get?_push_of_some _ (by rw[e1];exact Heap.get?_push_of_some _ q1),q2⟩
 refine codeAny_builtin F.entry_max_loop ?_;rw[Around.under_plainId F.plain_max_loop _];show wpAny _ A.in1 (seqItems? (.ref h1.objs.size) >>= _) _ _ {s with heap:=h1.push {cls:=.type "list",data:=.seq #[]}}
 rw[<- e2];refine wpAny_bind (wpAny_seqItems hS rfl ?_);show wpAny _ A.in1 (tryCatch (pyNext (.ref s.heap.objs.size)) _ >>= _) _ _ _;refine wpAny_bind (wpAny_tryCatch (wpAny_pyNext_list_end hh hit FQ rfl λh' eb=>?_));refine wpAny_bind (wpAny_rule (wpAny_pure ?_));refine hQ h' λb o q=>eb b o (λz=>?_) ?_
 ·have:=Heap.lt_size q
  rw[z]at this;exact oB _ this
 ·rw[e2,e1]
  exact Heap.get?_push_of_some _ (Heap.get?_push_of_some _ q)
end
section
variable{prog:Program}{w:World}{A:Around}{E:Value->Shared->Prop}{R:Result->Shared->Prop}{I S:Addr}{fp wr:BM}{n:Nat}{P:Nat->Value->Prop}{St:Nat->Heap->Prop}{bt:Nat->Nat->Bool}{d:Value}
abbrev G0(old:Array Value)(c:Nat):Obj:={cls:=.type "list",dict:=none,data:=.seq old c,slots:=#[]}
def WA(P:Nat->Value->Prop)(bt:Nat->Nat->Bool)(i:Nat)(old:Array Value):Prop:=(old=#[]/\i=0)\/∃v j,old=#[v,v]/\i=j+1/\P (argBest bt j) v
theorem jQ(W:Walks prog w A.in1 I fp wr n P St)(G4:CmpOf prog w A.in1 .Gt P bt)(M8:S∉fp)(h0:0<n):∀(k i:Nat)(s:Shared)(old:Array Value)(c:Nat),i+k=n->St i s.heap->WA P bt i old->s.heap.get? S=some (G0 old c) ->
  (∀v h' tk,P (argBest bt (n-1)) v->(∀b o,b∉wr->b≠S->s.heap.get? b=some o->h'.get? b=some o)->R (.ok (.ret v)) {s with heap:=h',toks:=tk}) ->
  codeAny (model prog w) A (.builtin "max.loop" ⟨[.ref I,.none,.ref S],[(Str.ofString "default",d)]⟩) R s
 |0,i,s,old,c,hk,st,B,hS,hR=>by
  rcases B with⟨_,z⟩|⟨v,j,rfl,hj,pv⟩
  ·omega
  have e:n=i:=by omega
  refine codeAny_builtin F.entry_max_loop ?_;rw[Around.under_plainId F.plain_max_loop _];change wpAny _ A.in1 (seqItems? (Value.ref S) >>= _) _ _ s;refine wpAny_bind (wpAny_seqItems hS rfl ?_);change wpAny _ A.in1 (tryCatch (pyNext (Value.ref I)) _ >>= _) _ _ s;refine wpAny_bind (wpAny_tryCatch (W.done s _ _ (by rw[e];exact st) λh' tk kk=>?_))
  have M9:=kk S _ (λz=>M8 (W.sub _ z)) hS;change wpAny _ A.in1 (updateSeq S (λ_=>#[]) >>= _) _ _ _;refine wpAny_bind (wpAny_updateSeq M9 rfl (wpAny_bind (wpAny_letGo (wpAny_pure (hR v _ tk (by rw[e,hj];exact pv) λb o hb hn q=>?_)))))
  exact(Heap.get?_update_other _ _ (Ne.symm hn)).trans (kk b o hb q)
 |k+1,i,s,old,c,hk,st,B,hS,hR=>by
  have nt:(toString "max" ++ toString ".loop" : String) = "max.loop" := by decide
  refine codeAny_builtin F.entry_max_loop ?_;rw[Around.under_plainId F.plain_max_loop _];change wpAny _ A.in1 (seqItems? (Value.ref S) >>= _) _ _ s;refine wpAny_bind (wpAny_seqItems hS rfl ?_);change wpAny _ A.in1 (tryCatch (pyNext (Value.ref I)) _ >>= _) _ _ s;refine wpAny_bind (wpAny_tryCatch (W.item i s _ _ (by omega) st λv h' tk pv lY kk=>?_))
  have M9:=kk S _ (λz=>M8 (W.sub _ z)) hS;rcases B with⟨rfl,z⟩|⟨v0,j,rfl,hj,p0⟩
  ·subst z
   change wpAny _ A.in1 (updateSeq S (λ_=>#[v,v]) >>= _) _ _ _;refine wpAny_bind (wpAny_updateSeq M9 rfl ?_);rw[nt];refine wpAny_pure ⟨plainId_quiet F.plain_max_loop _,jQ W G4 M8 h0 k 1 _ #[v,v] _ (by omega) (W.frame _ _ _ lY λb hb o q=>?_) (.inr ⟨v,0,rfl,rfl,pv⟩) (Heap.get?_update_self _ M9 rfl) λu h2 R0 pu k2=>hR u h2 R0 pu λb o hb hn q=>k2 b o hb hn ?_⟩
   ·exact(Heap.get?_update_other _ _ (λz:S=b=>M8 (by rw[z];exact hb))).trans q
   ·exact(Heap.get?_update_other _ _ (Ne.symm hn)).trans (kk b o hb q)
  ·subst hj
   change wpAny _ A.in1 (tryCatch (holding [v,v] (richCompare .Gt v v0 >>= _)) _ >>= _) _ _ _;refine wpAny_bind (wpAny_tryCatch (wpAny_holding (wpAny_bind (G4 (j+1) (argBest bt j) v v0 _ _ _ pv p0 (wpAny_bind (wpAny_holding (wpAny_truthy_bool (wpAny_bind (wpAny_letGo (wpAny_pure ?_))))))))));cases hb:bt (j+1) (argBest bt j)with
   |true=>
    simp only[if_true];refine wpAny_bind (wpAny_updateSeq M9 rfl (wpAny_bind (wpAny_letGo ?_)));rw[nt];refine wpAny_pure ⟨plainId_quiet F.plain_max_loop _,jQ W G4 M8 h0 k (j+2) _ #[v,v] _ (by omega) (W.frame _ _ _ lY λb hb o q=>?_) (.inr ⟨v,j+1,rfl,rfl,by simp only[argBest,hb,if_true];exact pv⟩) (Heap.get?_update_self _ M9 rfl) λu h2 R0 pu k2=>hR u h2 R0 pu λb o hb hn q=>k2 b o hb hn ?_⟩
    ·exact(Heap.get?_update_other _ _ (λz:S=b=>M8 (by rw[z];exact hb))).trans q
    ·exact(Heap.get?_update_other _ _ (Ne.symm hn)).trans (kk b o hb q)
   |false=>
    simp only[sD,if_false];refine wpAny_bind (wpAny_letGo ?_);rw[nt];exact wpAny_pure ⟨plainId_quiet F.plain_max_loop _,jQ W G4 M8 h0 k (j+2) _ #[v0,v0] c (by omega) lY (.inr ⟨v0,j+1,rfl,rfl,by simp only[argBest,hb,sD,if_false];exact p0⟩) M9 λu h2 R0 pu k2=>hR u h2 R0 pu λb o hb hn q=>k2 b o hb hn (kk b o hb q)⟩
end
section
variable{prog:Program}{w:World}{A:Around}{E:Value->Shared->Prop}{s:Shared}{l:Addr}{xs:Array (Int×Tok)}{d:Value}
def wb{Q:Value->Shared->Prop}(hh:A.handled=none)(hl:s.heap.IsList l (intItems xs))(jr:0<xs.size)
  (h:∀v h' tk,(intItems xs)[argBest (λi j=>decide (numAt xs i > numAt xs j)) (xs.size-1)]?=some v->(∀b o,s.heap.get? b=some o->h'.get? b=some o)->Q v {s with heap:=h',toks:=tk}) :
  wpAny (model prog w) A (call (.builtin "max") [.ref l] [(Str.ofString "default",d)]) Q E s:=by
 have nt:(toString "max" ++ toString ".loop" : String) = "max.loop" := by decide
 refine wpAny_call (codeAny_call_builtin F.plain_max F.entry_max (wpAny_of_eq (kW _ _) ?_));change wpAny _ A.in1 (Builtin.Builtins.bindParams "max" ["key","default"] 0 ⟨[],[(Str.ofString "default",d)]⟩ >>= _) _ _ s;refine wpAny_bind (wpAny_of_eq (show Builtin.Builtins.bindParams "max" ["key","default"] 0 ⟨[],[(Str.ofString "default",d)]⟩=pure [none,some d]from rfl) ?_);refine wpAny_bind (wpAny_pure (wpAny_bind (iter_intList hl λs2 e st ù ú=>?_)));subst e;refine wpAny_bind (wpAny_newObj_type ?_);rw[nt];have hn:(intItems xs).size=xs.size:=by simp[intItems]
 have WL:=Walks.list (prog:=prog) (w:=w) (A:=A.in1) hh s.heap.objs.size l ú (intItems xs);refine wpAny_pure ⟨plainId_quiet F.plain_max_loop _,jQ WL (CmpOf.ints_gt (numAt xs) (λ_ _=>intItems_at)) (λz=>oB _ (ù _ z)) (by rw[hn];exact jr) (intItems xs).size 0 _ #[] 0 (by omega) (WL.frame 0 _ _ st λb _ o q=>Heap.get?_push_of_some _ q) (.inl ⟨rfl,rfl⟩) (Heap.get?_push_size _ rfl) λv h' tk pv kk=>h v h' tk (by rw[<- hn];exact pv) (old_kept λb o hb q=>kk b o hb ?_ (Heap.get?_push_of_some _ q))⟩
 exact eF (Heap.lt_size q)
end
end PySem
namespace D
open PySem L2
def mx:Int->Dx->Int
 |a,[]=>a
 |a,b::l=>mx (if a<b then b else a) l
theorem wc:∀(a:Int)(l:Dx),(mx a l=a\/mx a l∈l)/\a<=mx a l/\∀b∈l,b<=mx a l
 |a,[]=>⟨.inl rfl,BW _,λ_ h=>by cases h⟩
 |a,b::l=>by
  obtain⟨h1,h2,h3⟩:=wc (if a<b then b else a) l
  rw[mx];by_cases h:a<b
  ·rw[if_pos h]at h1 h2 h3 ⊢
   refine⟨.inr ?_,by omega,λc hc=>?_⟩
   ·rcases h1 with e|e
    ·rw[e];exact ee ..
    ·exact dX _ e
   ·rcases cA.mp hc with rfl|hc
    ·exact h2
    ·exact h3 c hc
  ·rw[if_neg h]at h1 h2 h3 ⊢
   refine⟨?_,h2,λc hc=>?_⟩
   ·rcases h1 with e|e
    ·exact .inl e
    ·exact .inr (dX _ e)
   ·rcases cA.mp hc with rfl|hc
    ·omega
    ·exact h3 c hc
def R3{a M:Int}{l:Dx}(h:M∈a::l)(h2:∀b∈a::l,b<=M):M=mx a l:=by
 obtain⟨k1,k2,k3⟩:=wc a l
 have:mx a l<=M:=by
  rcases k1 with e|e
  ·rw[e];exact h2 _ (ee ..)
  ·exact h2 _ (dX _ e)
 have:M<=mx a l:=by
  rcases cA.mp h with rfl|h
  ·exact k2
  ·exact k3 _ h
 omega
variable{X:Cx}{pos:Pos}
section
variable{B:KT}{a:Expr}{ta:TA}{p p1 kp:Pos}{k1:Nat}{i:Int}{fa:FE}
def G5(hg:Gl X "max")(hm:X.mg "max" = none)(UN:X.calm=true)(ha:PA X [a] ta)(hs:starEach [a] X.env=[(false,eval a X.env)]) :
  PE X (.Call (.Name "max" p) [a] [⟨some (Str.ofString "default"),.Constant (.int i) k1 p1,kp⟩] pos) (λσ H Q=>ta σ H λvs H1=>(∃l,vs=[.ref l]/\cV X.K H1 l []/\Q (.int i) H1)\/∃l n,∃ns:Dx,vs=[.ref l]/\cV X.K H1 l ((n::ns).map V.int)/\Q (.int (mx n ns)) H1):=by
 intro ae s σ H Q I h;refine wpAny_Call_Name_kw (gb I hg hm JG ?_);refine IC (P:=λ_=>True) (by rw[hs];rfl) (λh _=>⟨.machine,.inr (.inl rfl),.now⟩) ?_
 refine JB rfl (bX (ha pos ae s σ H _ I h) λus s1 ⟨vs,H1,I1,r1,q1⟩=>?_) hs;show wpAny _ _ (evalAll [(do let v <- eval (.Constant (.int i) k1 p1) X.env;standAt pos;pure v)]) _ _ s1
 refine wpAny_evalAll_cons (wpAny_bind (wpAny_Constant_int (wpAny_bind (wpAny_standAt (wpAny_pure (wpAny_evalAll_nil ⟨trivial,?_⟩))))));rcases q1 with⟨l,e,hq,q⟩|⟨l,n,ns,e,hq,q⟩
 ·subst e
  obtain⟨u,rfl,rx⟩:=vals1 r1;cases rx;have I2:Inv X ae σ H1 {s1 with toks:=s1.toks+1}:=I1.tok _
  obtain⟨its,rv,pl,hz⟩:=I2.list hq;have hi:its=[]:=Bt.mp rv.length.symm;subst hi;show wpAny _ _ (call (.builtin "max") [.ref l] [(Str.ofString "default",.int i s1.toks)]) _ _ {s1 with toks:=s1.toks+1}
  exact wa (I.ok.hd UN) pl.isList λh' kk=>⟨.int i,H1,I2.kept (t':=s1.toks+1) kk,⟨_,rfl⟩,q⟩
 subst e;obtain⟨u,rfl,rx⟩:=vals1 r1;cases rx;have I2:Inv X ae σ H1 {s1 with toks:=s1.toks+1}:=I1.tok _
 obtain⟨its,rv,pl,hz⟩:=I2.list hq;have hi:=intsAre_of rv;obtain⟨ys,hy⟩:=hi.allInts.items;have ey:ys.toList.map (·.1)=n::ns:=by
  rw[<- nums_intItems,<- hy];exact hi.numsOf
 have hn:ys.size=ns.length+1:=by
  have:=congrArg vh ey
  simpa using this
 show wpAny _ _ (call (.builtin "max") [.ref l] [(Str.ofString "default",.int i s1.toks)]) _ _ {s1 with toks:=s1.toks+1}
 refine wb (xs:=ys) (I.ok.hd UN) (by rw[<- hy];exact pl.isList) (by omega) λv h' tk pv kk=>?_
 obtain⟨t,rfl⟩:=intItems_at pv;obtain⟨b1,b2⟩:=argBest_gt (numAt ys) (ys.size-1);refine⟨.int (mx n ns),H1,I2.kept (t':=tk) kk,⟨t,?_⟩,q⟩;rw[R3 (a:=n) (l:=ns) (M:=numAt ys (argBest (λi j=>decide (numAt ys i > numAt ys j)) (ys.size-1))) ?_ λc hc=>?_]
 ·rw[<- ey,numAt_eq];exact getD_mem (by rw[bK,Array.length_toList];omega)
 ·rw[<- ey]at hc
  obtain⟨j,hj,rfl⟩:=mem_getD hc;rw[bK,Array.length_toList]at hj;rw[<- numAt_eq];exact b2 j (by omega)
def G6(i:Int)(a:FE):FE:=λs=>(a s).bind λp=>match p.1 with
 |.lst ts=>(match uw ts with
  |some []=>.ok (.int i,p.2)
  |some (n::ns)=>.ok (.int (mx n ns),p.2)
  |none=>.bad)
 |_=>.bad
def M_(hg:Gl X "max")(hm:X.mg "max" = none)(UN:X.calm=true)(ha:PE X a (tE B fa))(hs:noStar a=true) :
  PE X (.Call (.Name "max" p) [a] [⟨some (Str.ofString "default"),.Constant (.int i) k1 p1,kp⟩] pos) (tE B (G6 i fa)):=by
 refine aR (G5 hg hm UN (aW ha cj (ao hs)) (ao hs)) λσ H Q z=>?_;obtain⟨g,s,t,s',x,h,k⟩:=z;obtain⟨⟨tx,s1⟩,h1,h⟩:=aa h;dsimp only at h;split at h
 ·split at h
  ·rename_i nY
   cases h;refine⟨g,s,_,_,x,h1,λv g1 H1 p1 x1 r1=>?_⟩;obtain⟨l,vs,rfl,q,r⟩:=r1;cases ints_rep nY r;exact .inl ⟨l,rfl,cV.of (x1.sub _ _ q),k _ g1 H1 p1 x1 rfl⟩
  ·rename_i nY
   cases h;refine⟨g,s,_,_,x,h1,λv g1 H1 p1 x1 r1=>?_⟩;obtain⟨l,vs,rfl,q,r⟩:=r1;cases ints_rep nY r;exact .inr ⟨l,_,_,rfl,cV.of (x1.sub _ _ q),k _ g1 H1 p1 x1 rfl⟩
  ·cases h
 ·cases h
end
def Na:FK->FR
 |[.int i,.int j]=>some (.int (if j<i then j else i))
 |_=>none
def R4{X:Cx}:LN X Na (λxs H Q=>∃i j,xs=[.int i,.int j]/\Q (.int (if j<i then j else i)) H):=λB hB al HF H xs t ts Q sm r h k=>by
 match ts,h with
 |[.int i,.int j],h=>
  cases h;obtain⟨v,vs,rfl,r1,r⟩:=r;obtain⟨w,ws,rfl,r2,r⟩:=r;cases r;cases r1;cases r2;exact⟨i,j,rfl,k _ HF H (.refl sm) rfl⟩
def û:T->FC
 |.lst ts=>some ts
 |_=>none
def DB(i:Nat)(a:FE):FS:=λs=>(aX (ku s.r[i]?)).bind λ_=>(a s).bind λp=>(aX (ku p.2.r[i]?)).bind λts=>(aX (û p.1)).bind λus=>(aX (gd (ts.length+us.length<=1000000) ())).bind λ_=>.ok (.nx,j7 p.2 i (.ol (ts++us)))
def G7(i:Nat):FS:=λs=>(aX (ku s.r[i]?)).bind λts=>(aX (gd (ts≠[]) ())).bind λ_=>.ok (.nx,j7 s i (.ol ts.dropLast))
def Ay(c:B1):T->FC
 |.str l=>match c with
  |[c]=>gd (l.length<=100000) ((aP c l).map .str)
  |_=>none
 |_=>none
section
variable{B:KT}{e a b c o tg:Expr}{es:Bz}{cy p bF cC:Pos}{fa fb fc fo:FE}{fl gl:FL}{ft:FT}{env:Env}{x y:Str}{σ:St}{H H':Hp}{g g':G}{s s':S}{i:Nat}
def R5{py:Pos}(he:PE X e (tE B fa))(hN:X.N[i]?=some y)(hv:vd X.env.scope y)(hd:cu y)(lG:jA y)(hs:noStar e=true)(cL:(bF.endLine == cC.line)=true) :
  PS X (.Expr (.Call (.Attribute (.Name y py) "extend" bF) [e] [] cC) pos) (tS B (DB i fa)):=by
 refine c5 (jD (pM PySem.F.plainAttrs_list PySem.F.slot_list_extend PySem.F.type_list_extend z8 (fL hN hv hd lG) (aW he cj (ao hs)) (dS rfl) (pY (by rw[fh,hs];rfl) (by decide)) cL (ao hs) rfl) rfl) λD σ H zz=>?_
 obtain⟨g,s,o,s',x,h,k⟩:=zz;obtain⟨us,e0,h⟩:=aa h;obtain⟨⟨t,s1⟩,e1,h⟩:=aa h;obtain⟨ts,e2,h⟩:=aa h;obtain⟨zs,e4,h⟩:=aa h;obtain⟨_,e3,h⟩:=aa h;obtain⟨z,_⟩:=aV (ai e3);cases h;have e4:=ai e4;cases t<;>first|(cases e4;done)|skip
 cases e4;obtain⟨l0,å,q1,q2,q3,q4⟩:=x.oV (eE (ai e0));refine⟨_,q1,.inl ⟨rfl,_,cV.of q3⟩,g,s,_,s1,x,e1,λv g1 H1 p1 x1 r1=>?_⟩;have ho:=eE (ai e2);obtain⟨l,vs,w1,w2,w3,w4⟩:=x1.oV ho;rw[q1]at w1;cases w1;obtain⟨b,ws,rfl,hb,r1⟩:=r1;obtain⟨x2,p2⟩:=x1.chg ho q1 (w4.app r1);exact⟨l0,b,vs,ws,rfl,rfl,w3,x1.sub _ _ hb,by rw[<- w4.len,<- r1.len,sizeLine_eq];omega,k σ g1 _ (p1.trans p2) x2⟩
def R6{py:Pos}(hN:X.N[i]?=some y)(hv:vd X.env.scope y)(hd:cu y)(lG:jA y)(cL:(bF.endLine == cC.line)=true) :
  PS X (.Expr (.Call (.Attribute (.Name y py) "pop" bF) [] [] cC) pos) (tS B (G7 i)):=by
 refine c5 (jD (LB PySem.F.plainAttrs_list PySem.F.slot_list_pop PySem.F.type_list_pop LF (fL hN hv hd lG) (dS rfl) cL) rfl) λD σ H zz=>?_;obtain⟨g,s,o,s',x,h,k⟩:=zz;obtain⟨ts,e0,h⟩:=aa h;obtain⟨_,e3,h⟩:=aa h;obtain⟨z,_⟩:=aV (ai e3);cases h;have ho:=eE (ai e0);obtain⟨l0,vs,q1,q2,q3,q4⟩:=x.oV ho;have hl:=q4.len;have hp:0<ts.length:=List.length_pos_iff.mpr z;obtain⟨x2,p2⟩:=x.chg ho q1 (ts':=ts.dropLast) (vs':=vs.dropLast) (by rw[IS,IS,hl];exact q4.take _)
 refine⟨_,q1,.inl ⟨rfl,_,cV.of q3⟩,l0,vs,vs[vs.length-1]'(by omega),rfl,rfl,q3,cX _,k σ g _ p2 x2⟩
def Nb{c:Str}{k:Nat}{cp:Pos}(ha:PE X a (tE B fa))(hb:bq a=true)(cL:(bF.endLine == cC.line)=true):PE X (.Call (.Attribute a "split" bF) [.Constant (.str c) k cp] [] cC) (tO B (o1 (Ay c.cps.toList) fa)):=by
 refine aR (pM PySem.F.plainAttrs_str PySem.F.slot_str_split PySem.F.type_str_split tY ha (aW B5 cj rfl) (dS hb) (pY rfl (by decide)) cL rfl rfl) λσ H Q z=>?_
 obtain⟨g,s,t,s',x,h,k⟩:=z;obtain⟨⟨tx,s1⟩,h1,h⟩:=aa h;obtain⟨ts,h2,h⟩:=aa h;cases h;have h2:=ai h2;refine⟨g,s,tx,s1,x,h1,λv g1 H1 p1 x1 r1=>?_⟩;obtain⟨⟨c⟩⟩:=c
 match tx,c,h2,r1 with
 |.str l,[d],h2,r1=>
 obtain⟨rfl,hz⟩:=r1;obtain⟨z,rfl⟩:=aV h2;have jt:=split_len ⟨l.toArray⟩ ⟨([d]:B1).toArray⟩;rw[eL]at jt;refine⟨rfl,?_⟩;refine⟨_,_,rfl,rfl,rfl,by rw[eL,sizeLine_eq];omega,by rw[sizeLine_eq];exact gx jt (by omega),λq hq=>?_⟩
 have e:(Txt.split ⟨l.toArray⟩ ⟨([d]:B1).toArray⟩).map V.str=(aP d l).map λl=>SV l:=by
  rw[show(⟨([d]:B1).toArray⟩:Str)=⟨#[d]⟩from rfl,mV,du];rfl
 rw[e];obtain⟨gr,n1,n2⟩:=mO (u:=.lst ((aP d l).map λl=>SV l)) x1 hq;exact k q _ _ _ (p1.trans (x1.gk gr)) (x1.grow gr) (p1.there q hq) n1 n2 aj (kD λm hm=>by have:=gI d l m hm;omega)
end
section
variable{prog:Program}{w:World}{A:Around}{E:Value->Shared->Prop}{s:Shared}
end
section
end
end D
namespace D
open PySem
structure Lc where
 N:Bi
 sc:Scope
 mu:Bi
inductive Ck where
 |fz (c n:Nat)|z0 (c:Nat)|cp (c:Nat)|nw (c i:Nat)
structure Gm where
 P:Pg
 cs:List (Str×T)
 fs:List (Str×FK×Nat)
 cl:List (Str×Ck)
 ms:List (Str×List (Nat×Nat))
 bl:Bi
 bf:Bi:=[]
def Gm.bc(M:Gm):Nat:=M.P.cn.length+M.P.tab.length
def Gm.lB(M:Gm):M.P.cn[M.bc]?=none:=By (vn _ _)
def Gm.R7(M:Gm):M.P.fn[M.bc]?=none:=By (by unfold Pg.fn;rw[bK];exact Nat.le_add_left _ _)
def kF(N:Bi)(x:Str):Option Nat:=N.idxOf? x
def p_(x:Str):Bool:=x == ("__debug__" : Str) ||x == ("__classdict__" : Str)
def jR(L:Lc)(x:Str):Bool:=match L.sc.names.lookup x with
 |some .local=>!p_ x
 |some .cell=>!p_ x
 |_=>false
def DC(L:Lc)(x:Str):Bool:=decide (L.sc.names.lookup x=some .globalImplicit)&&!p_ x
structure Rc where
 E:Lc->Expr->FE
 T:Lc->Expr->FT
 I:Lc->Expr->Expr->FL
 O:Lc->Expr->FL
def eO:List FE->FL
 |[]=>bg
 |a::r=>cO a (eO r)
def DE:List FE->FE
 |[]=>aT
 |[a]=>a
 |a::r=>oS a (DE r)
def Nc:List FT->FT
 |[]=>oQ
 |[a]=>a
 |a::r=>qK a (Nc r)
def DF:List FT->FT
 |[]=>oQ
 |[a]=>a
 |a::r=>kr a (DF r)
def DG(sc outer:Scope):Scope:={sc with names:=sc.names.map λ(n,k)=>if(k == NameKind.free&&outer.kind == .function&&outer.names.lookup n == some .cell)then(n,NameKind.cell)else(n,k)}
def locals(sc:Scope):Bi:=sc.names.filterMap λp=>if p.2=.local then some p.1 else none
def frees(sc:Scope):Bi:=sc.names.filterMap λp=>if p.2=.free then some p.1 else none
def idxs(N:Bi):Bi->Option B1
 |[]=>some []
 |x::xs=>(kF N x).bind λi=>(idxs N xs).map (i::·)
def Nd(L:Lc)(sc:Scope):Bool:=decide (sc.kind=.function)&&sc.names.all (λp=>decide (p.2≠.cell)&&(decide (p.2=.local)->decide (sc.names.lookup p.1=some .local))&&(decide (p.2=.free)->(decide (sc.names.lookup p.1=some .free)&&decide (L.sc.names.lookup p.1=some .cell))))&&decide (L.sc.kind=.function)
def OT(N:Bi)(ok:Str->Bool):Expr->Option (FG×B1)
 |.Name x _=>if ok x then(kF N x).map λi=>(setG i,[i])else none
 |.Tuple es _ _=>(namesOf es).bind λxs=>if xs.all ok then(idxs N xs).map λis=>(fS is,is)else none
 |_=>none
def isSet:Expr->Bool
 |.Set _ _ _=>true
 |_=>false
def Kh(r:Rc)(L:Lc):Bz->FT
 |[]=>fQ
 |[c]=>r.T L c
 |_=>oQ
def DH(L:Lc)(sc:Scope):Lc:=⟨locals sc++frees sc,DG sc L.sc,[]⟩
def ny(r:Rc)(L:Lc)(elt:Expr)(q:Comprehension)(sc:Scope):FL:=if q.is_async=0/\(Nd L sc&&decide ((locals sc++frees sc).Nodup)&&!isSet q.iter&&decide (q.ifs.length<=1))=true then(match idxs L.N (frees sc),OT (locals sc) (λx=>decide (sc.names.lookup x=some .local)) q.target with
  |some js,some (g,_)=>cT (r.I L q.target q.iter) (locals sc).length js g (Kh r (DH L sc) q.ifs) (r.E (DH L sc) elt)
  |_,_=>eU)else eU
def qa(r:Rc)(L:Lc):Expr->FL
 |.ListComp elt gs sc _=>(match gs with
  |[g]=>ny r L elt g sc
  |_=>eU)
 |_=>eU
def DI(r:Rc)(L:Lc):Option Expr->FO
 |none=>r9
 |some e=>gW (r.E L e)
def yx(M:Gm)(L:Lc):Bi->Option B1
 |[]=>some []
 |y::ys=>if DC L y&&((kF M.P.cn y).bind λd=>M.P.fn[d]?).isSome then(kF M.P.cn y).bind λd=>(yx M L ys).map (d::·)else none
def blt(M:Gm)(L:Lc)(x:Str):Bool:=M.bl.contains x&&DC L x
def YE(M:Gm)(r:Rc)(L:Lc)(a:Expr):Expr->FE
 |.Name y _=>(match uc.lookup y with
  |some ty=>if M.bl.contains y&&DC L y then dN (Mu ty) (r.E L a)else aT
  |none=>(match yx M L [y]with
   |some ds=>dN (gK M.P.sub ds) (r.E L a)
   |none=>aT))
 |_=>aT
def ak(l:List (Nat×Nat))(ah:Nat->Fn)(c:Nat):Option Fn:=(l.lookup c).map ah
def yy(M:Gm)(r:Rc)(L:Lc)(o:Expr):Option FE:=(fV o).bind λq=>if M.bf.contains q.2.1&&bq q.1 then(kF M.P.an q.2.1).map λj=>az M.P.tab j (r.E L q.1)else none
def ux(M:Gm)(r:Rc)(L:Lc)(a:Expr)(op:CmpOp)(b:Expr):FE:=match yr op,yy M r L b with
 |some neg,some f=>rj M.bc neg (r.E L a) f
 |_,_=>bw (aL op) (r.E L a) (r.E L b)
def wd(M:Gm)(L:Lc)(f:Str):Bz->Option Expr
 |[e]=>(kE e).bind λq=>(match q.2.1,q.2.2 with
  |[a],[]=>if f=("list" : Str)/\q.1=("range" : Str)/\blt M L ("range" : Str)=true/\noStar a=true then some a else none
  |_,_=>none)
 |_=>none
def Nf(M:Gm)(r:Rc)(L:Lc)(f:Str)(args:Bz):Option FE:=match args with
 |[a]=>if f=("len" : Str)then(yy M r L a).map λg=>kU M.bc g else none
 |_=>none
def R8:List (Str×(FK->FR)):=("min",Na)::("max",Ax)::vW
def we(M:Gm)(ah:Nat->Fn)(r:Rc)(L:Lc)(f:Str)(args:Bz):FE:=
 if args.all noStar then(match M.fs.lookup f with
  |some (ds,i)=>if DC L f then av (ah i) ds (eO (args.map (r.E L)))else aT
  |none=>(match M.cl.lookup f with
   |some (.fz c n)=>if DC L f&&!args.isEmpty then fX c n (eO (args.map (r.E L)))else aT
   |some (.z0 c)=>if DC L f&&args.isEmpty then fX c 0 bg else aT
   |some (.cp c)=>(match args with
    |[a]=>if DC L f then dN (L5 c) (r.E L a)else aT
    |_=>aT)
   |some (.nw c i)=>if DC L f&&!args.isEmpty then mK c (ah i) (eO (args.map (r.E L)))else aT
   |none=>if blt M L f then(match Nf M r L f args with
    |some g=>g
    |none=>match f == ("isinstance" : Str),args with
     |true,[a,q]=>YE M r L a q
     |_,_=>(match f == ("len" : Str),args with
      |true,[.Name y p]=>(match kF L.N y with
       |some i=>if L.mu.contains y&&jR L y then JT i else bV cz (eO [r.E L (.Name y p)])
       |none=>bV cz (eO [r.E L (.Name y p)]))
      |_,_=>(match wd M L f args with
        |some a=>eK (o1 Av (r.E L a))
        |none=>(match R8.lookup f,args with
         |some g,_::_=>bV g (eO (args.map (r.E L)))
         |_,_=>aT))))else aT))else aT
def DJ:Const->FE
 |.int i=>cF (.int i)
 |.bool b=>cF (.bl b)
 |.none=>cF .non
 |.str s=>if s.length<=1000000 then cF (.str s.cps.toList)else aT
 |_=>aT
def DK(M:Gm)(L:Lc)(x:Str):FE:=match kF L.N x with
 |some i=>if jR L x then vF i else aT
 |none=>(match M.cs.lookup x with
  |some t=>if DC L x then cF t else aT
  |none=>aT)
def ü(a:FE):UnaryOp->FE
 |.USub=>dN iV a
 |.Not=>qL a
 |_=>aT
def ý(l:List FE):BoolOp->FE
 |.And=>DE l
 |.Or=>aT
def WC(M:Gm)(r:Rc)(L:Lc)(a:Expr):List CmpOp->Bz->FE
 |[op],[b]=>if behindInMarks op b then aT else ux M r L a op b
 |_,_=>aT
def WD:Expr->Bool
 |.Attribute _ _ _=>true
 |.Dict _ _ _=>true
 |_=>false
def UO(M:Gm)(r:Rc)(L:Lc)(o i:Expr):FE:=match yy M r L o with
 |some f=>Dt M.bc f (r.E L i)
 |none=>if WD o then bw xU (r.E L o) (r.E L i)else match(asName o).bind λy=>(kF L.N y).map λk=>(y,k)with
 |some (y,k)=>if L.mu.contains y&&jR L y then lr k (r.E L i)else bw gi (r.E L o) (r.E L i)
 |none=>bw gi (r.E L o) (r.E L i)
def Ng(M:Gm)(r:Rc)(L:Lc)(o:Expr):Expr->FE
 |.Slice lo hi st _=>(match st with
  |none=>(match yy M r L o with
   |some f=>Dz M.bc f (DI r L lo) (DI r L hi)
   |none=>j8 (r.E L o) (DI r L lo) (DI r L hi))
  |some _=>aT)
 |i=>UO M r L o i
def WE(M:Gm)(r:Rc)(L:Lc)(o:Expr)(f:Str):FE:=if bq o then(match kF M.P.an f with
  |some j=>if M.bf.contains f then As M.bc M.P.tab j (r.E L o)else az M.P.tab j (r.E L o)
  |none=>aT)else aT
def Nh(M:Gm)(r:Rc)(L:Lc)(o:Expr)(m:Str)(args:Bz):Option FE:=match args with
 |[b]=>(match gM b with
  |some (.int 0)=>if m=("pop" : Str)then(yy M r L o).map λf=>nq M.bc f else none
  |_=>none)
 |_=>none
def Ni(M:Gm)(ah:Nat->Fn)(r:Rc)(L:Lc)(o:Expr)(m:Str)(ap:Pos)(args:Bz)(cp:Pos):FE:=if bq o&&args.all noStar&&decide (args.length<29)&&ap.endLine == cp.line then(match Nh M r L o m args with
   |some f=>f
   |none=>match M.ms.lookup m with
   |some l=>au (ak l ah) (r.E L o) (eO (args.map (r.E L)))
   |none=>(match vU.lookup m,args with
    |some g,_::_=>nZ g (r.E L o) (eO (args.map (r.E L)))
    |_,_=>aT))else aT
def WH(M:Gm)(ah:Nat->Fn)(r:Rc)(L:Lc)(args:Bz)(cp:Pos):Expr->FE
 |.Name f _=>we M ah r L f args
 |.Attribute o m ap=>Ni M ah r L o m ap args cp
 |_=>aT
def Nj(M:Gm)(r:Rc)(L:Lc)(f:Expr)(args:Bz)(ks:List Keyword):FE:=match asName f,args,ks with
 |some y,[a],[w]=>(match gM w.value with
  |some (.int i)=>if y=("max" : Str)/\blt M L ("max" : Str)=true/\noStar a=true/\w.arg=some ("default" : Str)then G6 i (r.E L a)else aT
  |_=>aT)
 |_,_,_=>aT
def Kl(M:Gm)(ah:Nat->Fn)(r:Rc)(L:Lc):Expr->FE
 |.Constant c _ _=>DJ c
 |.Name x _=>DK M L x
 |.BinOp a op b _=>bw (c6 op) (r.E L a) (r.E L b)
 |.UnaryOp op a _=>ü (r.E L a) op
 |.BoolOp op es _=>ý (es.map (r.E L)) op
 |.Compare a ops bs _=>WC M r L a ops bs
 |.IfExp c a b _=>CL (r.T L c) (r.E L a) (r.E L b)
 |.Tuple es _ _=>if es.all noStar then bV gH (eO (es.map (r.E L)))else aT
 |.List es _=>if es.all noStar then bV mJ (eO (es.map (r.E L)))else aT
 |.Subscript o i _=>Ng M r L o i
 |.Attribute o f _=>WE M r L o f
 |.ListComp elt gs sc p=>eK (qa r L (.ListComp elt gs sc p))
 |.Call f args ks cp=>(match ks with
  |[]=>WH M ah r L args cp f
  |k::ks=>Nj M r L f args (k::ks))
 |_=>aT
def þ(l:List FT):BoolOp->FT
 |.And=>DF l
 |.Or=>Nc l
def WI(M:Gm)(r:Rc)(L:Lc)(a:Expr):List CmpOp->Bz->FT
 |[op],[b]=>if behindInMarks op b then oQ else bW (ux M r L a op b)
 |_,_=>oQ
def stepT(M:Gm)(r:Rc)(L:Lc)(e:Expr):FT:=match e with
 |.BoolOp op es _=>þ (es.map (r.T L)) op
 |.UnaryOp op a _=>(match op with
  |.Not=>dC (r.T L a)
  |_=>tB (r.E L e))
 |.Compare a ops bs _=>WI M r L a ops bs
 |.IfExp _ _ _ _=>oQ
 |_=>tB (r.E L e)
def yz(e:Expr):Option Bz:=(kE e).bind λq=>if q.1=("range" : Str)/\q.2.2.isEmpty=true then some q.2.1 else none
noncomputable def uy(e:Expr):Option (Expr×Int):=(kE e).bind λq=>if q.1=("enumerate" : Str)then(match q.2.1 with
 |[a]=>(match q.2.2 with
  |[]=>some (a,0)
  |[w]=>(match gM w.value with
   |some (.int n)=>if w.arg=some ("start" : Str)/\n=1 then some (a,n)else none
   |_=>none)
  |_=>none)
 |_=>none)else none
def Nk:Expr->Bool
 |.Tuple _ _ _=>true
 |_=>false
def G8:Expr->Bool
 |.Name _ _=>true
 |_=>false
def DM(e:Expr):Option Expr:=(kE e).bind λq=>(match q.2.1,q.2.2 with
 |[a],[]=>if q.1=("reversed" : Str)/\noStar a=true then some a else none
 |_,_=>none)
def stepI(M:Gm)(r:Rc)(L:Lc)(tg e:Expr):FL:=match yz e with
 |some args=>if blt M L ("range" : Str)&&args.all noStar then(match args with
   |[a]=>xW mL (eO [r.E L a])
   |[a,b]=>xW mL (eO [r.E L a,r.E L b])
   |[a,b,c]=>xW Aw (eO [r.E L a,r.E L b,r.E L c])
   |_=>eU)else eU
 |none=>(match uy e with
  |some (a,n)=>if blt M L ("enumerate" : Str)&&Nk tg&&noStar a then i0 n (r.E L a)else eU
  |none=>match DM e with
  |some a=>if blt M L ("reversed" : Str)then o1 M1 (r.E L a)else eU
  |none=>if G8 tg then j9 (r.E L e)else Dm (r.E L e))
def Nl(M:Gm)(r:Rc)(L:Lc)(f:Str)(args:Bz):FL:=if blt M L f then match wd M L f args with
 |some a=>o1 Av (r.E L a)
 |none=>(match args with
  |[a]=>if f=("list" : Str)/\noStar a=true then o1 Ww (r.E L a)else eU
  |_=>eU)else eU
def Nn(r:Rc)(L:Lc)(f:Expr)(args:Bz)(cp:Pos):FL:=match fV f,args with
 |some w,[a]=>(match uv a with
  |some c=>if w.2.1=("split" : Str)/\bq w.1=true/\(w.2.2.endLine == cp.line)=true then o1 (Ay c.cps.toList) (r.E L w.1)else eU
  |none=>eU)
 |_,_=>eU
def Km(M:Gm)(r:Rc)(L:Lc):Expr->FL
 |.IfExp c a b _=>UM (r.T L c) (r.O L a) (r.O L b)
 |.BinOp a op b _=>(match op with
  |.Mult=>o2 Dw (r.E L a) (r.E L b)
  |_=>eU)
 |.Call f args ks cp=>(match ks with
  |[]=>(match asName f with
   |some y=>Nl M r L y args
   |none=>Nn r L f args cp)
  |_::_=>eU)
 |.List es _=>if es.all noStar then iG (eO (es.map (r.E L)))else eU
 |.ListComp elt gs sc p=>qa r L (.ListComp elt gs sc p)
 |_=>eU
def comp(M:Gm)(ah:Nat->Fn):Nat->Rc
 |0=>⟨λ_ _=>aT,λ_ _=>oQ,λ_ _ _=>eU,λ_ _=>eU⟩
 |n+1=>⟨Kl M ah (comp M ah n),stepT M (comp M ah n),stepI M (comp M ah n),Km M (comp M ah n)⟩
def DN(L:Lc)(t:Str)(tp:Pos):Expr->Bool
 |.ListComp _ _ sc p=>(if L.sc.kind.isAnnotationScope then ScopeKind.function else L.sc.kind) == .function&&L.sc.names.lookup t == some .local&&tp.line == p.line&&!(sc.names.any λ(n,k)=>n == t&&(k == .local ||k == .cell))
 |_=>false
def wg:Expr->Bool
 |.ListComp _ _ _ _=>true
 |.SetComp _ _ _ _=>true
 |.DictComp _ _ _ _ _=>true
 |_=>false
noncomputable def rl(nm:Str)(mu:Bi)(e:Expr):Option (Str×Expr):=(ji e).bind λq=>(fV q.1).bind λw=>(asName w.1).bind λy=>(match q.2.1,q.2.2.1 with
 |[a],[]=>if w.2.1=nm/\mu.contains y=true/\noStar a=true/\(w.2.2.endLine == q.2.2.2.line)=true then some (y,a)else none
 |_,_=>none)
def R9(mu:Bi)(e:Expr):Option Str:=(ji e).bind λq=>(fV q.1).bind λw=>(asName w.1).bind λy=>(match q.2.1,q.2.2.1 with
 |[],[]=>if w.2.1=("pop" : Str)/\mu.contains y=true/\(w.2.2.endLine == q.2.2.2.line)=true then some y else none
 |_,_=>none)
def yC:Expr->Bool
 |.Dict [] [] _=>true
 |_=>false
def DO(M:Gm)(ah:Nat->Fn)(n:Nat)(L:Lc)(x:Str)(e:Expr):FS:=match kF L.N x with
 |some i=>if jR L x then(if L.mu.contains x then(if yC e then yt i else ia i ((comp M ah n).O L e))else aE i ((comp M ah n).E L e))else cD
 |none=>cD
def Kn:Expr->Bool
 |.Tuple vs _ _=>vs.all (foldedForSure 8)
 |_=>true
abbrev many:Nat:=1000000
def tupS(M:Gm)(ah:Nat->Fn)(n:Nat)(L:Lc)(es:Bz)(e:Expr):FS:=if wg e || !Kn e || !es.all noStar then cD else(match OT L.N (jR L) (.Tuple es 0 ⟨0,0,0,0⟩)with
  |some (g,_)=>Gk g ((comp M ah n).E L e)
  |none=>cD)
def Np(M:Gm)(ah:Nat->Fn)(n:Nat)(L:Lc)(f:Str)(e:Expr):FE:=if M.bf.contains f then(if yC e then lA M.bc else jI M.bc ((comp M ah n).O L e))else(comp M ah n).E L e
def Nq(M:Gm)(ah:Nat->Fn)(n:Nat)(L:Lc)(o:Expr)(f:Str)(e:Expr):FS:=match kF M.P.an f with
  |some j=>aH M.P.tab j ((comp M ah n).E L o) (Np M ah n L f e)
  |none=>cD
def Nr(M:Gm)(ah:Nat->Fn)(n:Nat)(L:Lc)(o b e:Expr):FS:=if wg e then cD else match yy M (comp M ah n) L o with
 |some f=>Ar M.bc f ((comp M ah n).E L b) ((comp M ah n).E L e)
 |none=>match(asName o).bind λy=>if jR L y then kF L.N y else none with
  |some i=>if isSlice b then cD else cW i ((comp M ah n).E L b) ((comp M ah n).E L e)
  |none=>cD
def ÿ(M:Gm)(ah:Nat->Fn)(n:Nat)(L:Lc)(e:Expr):Expr->FS
 |.Name x _=>DO M ah n L x e
 |.Tuple es _ _=>tupS M ah n L es e
 |.Attribute o f _=>Nq M ah n L o f e
 |.Subscript o b _=>Nr M ah n L o b e
 |_=>cD
def Nt(M:Gm)(ah:Nat->Fn)(n:Nat)(L:Lc)(t:Expr)(op:Operator)(e:Expr):FS:=match(fV t).bind λq=>(kF M.P.an q.2.1).map λj=>(q.1,j)with
  |some (o,j)=>if op=.Add then nk M.P.tab j f6 ((comp M ah n).E L o) ((comp M ah n).E L e)else cD
  |none=>match(asName t).bind λx=>(kF L.N x).map λi=>(x,i)with
  |some (x,i)=>if op=.Add/\jR L x=true then CM f6 i ((comp M ah n).E L e)else cD
  |none=>cD
def R_(M:Gm)(r:Rc)(L:Lc)(e:Expr):Option (FE×Expr):=(ji e).bind λq=>(fV q.1).bind λw=>(yy M r L w.1).bind λf=>(match q.2.1,q.2.2.1 with
 |[a],[]=>if w.2.1=("append" : Str)/\noStar a=true/\(w.2.2.endLine == q.2.2.2.line)=true then some (f,a)else none
 |_,_=>none)
def WJ(M:Gm)(ah:Nat->Fn)(n:Nat)(L:Lc)(e:Expr):FS:=match R_ M (comp M ah n) L e with
  |some (f,a)=>eZ M.bc f ((comp M ah n).E L a)
  |none=>match rl "append" L.mu e with
  |some (y,a)=>(match kF L.N y with
   |some i=>if jR L y then iE i ((comp M ah n).E L a)else cD
   |none=>cD)
  |none=>match rl "extend" L.mu e with
  |some (y,a)=>(match kF L.N y with
   |some i=>if jR L y then DB i ((comp M ah n).E L a)else cD
   |none=>cD)
  |none=>match R9 L.mu e with
  |some y=>(match kF L.N y with
   |some i=>if jR L y then G7 i else cD
   |none=>cD)
  |none=>if wg e then cD else aJ ((comp M ah n).E L e)
def retS(M:Gm)(ah:Nat->Fn)(n:Nat)(L:Lc):Option Expr->FS
 |some e=>aA ((comp M ah n).E L e)
 |none=>aA (cF .non)
def Sa(M:Gm)(r:Rc)(L:Lc)(e:Expr):Option FE:=(ji e).bind λq=>(fV q.1).bind λw=>(yy M r L w.1).bind λf=>(match q.2.1,q.2.2.1 with
 |[],[]=>if w.2.1=("values" : Str)/\(w.2.2.endLine == q.2.2.2.line)=true then some f else none
 |_,_=>none)
def Nu(M:Gm)(ah:Nat->Fn)(n:Nat)(L:Lc)(b:FS)(tg it:Expr):FS:=match Sa M (comp M ah n) L it with
 |some f=>DA M.bc f
 |none=>if isSet it then cD else(match OT L.N (jR L) tg with
  |some (g,_)=>fm ((comp M ah n).I L tg it) g b
  |none=>cD)
def WK(M:Gm)(ah:Nat->Fn)(n:Nat)(rS:Lc->Ee->FS)(L:Lc):Stmt->FS
 |.Assign ts e _=>(match ts with
  |[t]=>ÿ M ah n L e t
  |_=>cD)
 |.AugAssign t op e _=>Nt M ah n L t op e
 |.Expr e _=>WJ M ah n L e
 |.Return o _=>retS M ah n L o
 |.If c a b _=>aY ((comp M ah n).T L c) (rS L a) (rS L b)
 |.For tg it body oe _=>(match oe with
  |[]=>Nu M ah n L (rS L body) tg it
  |_::_=>cD)
 |.While c body oe _=>(match oe with
  |[]=>iF many ((comp M ah n).T L c) (rS L body)
  |_::_=>cD)
 |.Try body hs oe fb _=>(match hs,oe,fb with
  |_::_,[],[]=>rS L body
  |_,_,_=>cD)
 |.Pass _=>aG
 |_=>cD
def jj(M:Gm)(ah:Nat->Fn)(n:Nat):Nat->Lc->Ee->FS
 |0,_,_=>cD
 |_+1,_,[]=>aG
 |k+1,L,[st]=>WK M ah n (jj M ah n k) L st
 |k+1,L,st::rest=>af (WK M ah n (jj M ah n k) L st) (jj M ah n k L rest)
end D
namespace D
open PySem L2
structure DP(M:Gm)(Pr:Program)(w:World)(K:bz)(mg:Str->D1)(base:Heap)(ah:Nat->Fn)(k:Nat):Prop where
 pg:mX K mg M.P
 cst:∀x t,M.cs.lookup x=some t->yq K mg x t
 fns:∀x ds i,M.fs.lookup x=some (ds,i)->Wj M.P Pr w K mg base k x ds (ah i)
 fz:∀x c n,M.cl.lookup x=some (.fz c n)->Yr M.P Pr w K mg base k c n x
 z0:∀x c,M.cl.lookup x=some (.z0 c)->Rm M.P Pr w K mg c x
 cp:∀x c,M.cl.lookup x=some (.cp c)->YA M.P Pr w K mg base k c x
 nw:∀x c i,M.cl.lookup x=some (.nw c i)->Yy M.P Pr w K mg base k c x (ah i)
 mts:∀m l c i,M.ms.lookup m=some l->l.lookup c=some i->UE M.P Pr w K mg base k c m (ah i)
 bl:∀x,x∈M.bl->mg x=none
structure CxOk(M:Gm)(ah:Nat->Fn)(k:Nat)(L:Lc)(X:Cx):Prop where
 gm:DP M X.prog X.w X.K X.mg X.base ah k
 N:X.N=L.N
 sc:X.env.scope=L.sc
 calm:X.calm=true
 room:∃j,k+1<=j/\b8 j X.A
variable{X:Cx}{a b c e o:Expr}{M:Gm}{L:Lc}{es:Bz}{i k:Nat}{ah:Nat->Fn}{bF cC p pos cy:Pos}{r:Rc}{x y:Str}
def gO{N:Bi}{x:Str}{i:Nat}(h:kF N x=some i):N[i]?=some x:=by
 unfold kF at h;rw[IL,IM]at h;obtain⟨hj,h1,_⟩:=h;rw[cX hj,eq_of_beq h1]
def UP(h:p_ x=false):cu x/\jA x:=by
 unfold p_ at h;exact Bool.or_eq_false_iff.mp h
def gj(C:CxOk M ah k L X)(h:jR L x=true):Loc X.env.scope x/\vd X.env.scope x/\cu x/\jA x:=by
 rw[C.sc];unfold jR at h;split at h
 ·rename_i e
  obtain⟨h1,h2⟩:=UP (by simpa using h)
  exact⟨.inl e,.inl e,h1,h2⟩
 ·rename_i e
  obtain⟨h1,h2⟩:=UP (by simpa using h)
  exact⟨.inr e,.inr (.inl e),h1,h2⟩
 ·cases h
def jS(C:CxOk M ah k L X)(h:DC L x=true):Gl X x/\cu x:=by
 unfold DC at h;rw[dq]at h;obtain⟨h1,h2⟩:=h;refine⟨?_,(UP (by simpa using h2)).1⟩
 show X.env.scope.names.lookup x=_;rw[C.sc];exact of_decide_eq_true h1
def yD(M:Gm)(X:Cx)(r:Rc)(L:Lc):Prop:=∀e,PE X e (tE (M.P.kt X) (r.E L e))
def WM(M:Gm)(X:Cx)(r:Rc)(L:Lc):Prop:=∀e,PT X e (tT (M.P.kt X) (r.T L e))
def Ā(M:Gm)(X:Cx)(r:Rc)(L:Lc):Prop:=∀tg e,PI X tg e (tI (M.P.kt X) (r.I L tg e))
def ā(M:Gm)(X:Cx)(r:Rc)(L:Lc):Prop:=∀e,PE X e (tO (M.P.kt X) (r.O L e))
def wj(M:Gm)(ah:Nat->Fn)(k:Nat)(r:Rc):Prop:=∀L X,CxOk M ah k L X->yD M X r L/\WM M X r L/\Ā M X r L/\ā M X r L
theorem iO(hE:yD M X r L):∀es:Bz,es.all noStar=true->PA X es (tA (M.P.kt X) (eO (es.map (r.E L))))
 |[],_=>vO
 |e::es,h=>by
  rw[fh,dq]at h;exact qP (hE e) (iO hE es h.2) (ao h.1)
theorem uz(hE:yD M X r L):∀es:Bz,PE X (.BoolOp .And es pos) (tE (M.P.kt X) (DE (es.map (r.E L))))
 |[]=>bb
 |[a]=>L_ (hE a)
 |a::b::es=>Ma (hE a) (uz hE (b::es))
def Sb:PW X e (tT (M.P.kt X) oQ):=λ_ _ _ _ _ _ _ ⟨_,_,_,_,_,h,_⟩=>by cases h
theorem uA(hT:WM M X r L):∀es:Bz,PW X (.BoolOp .And es pos) (tT (M.P.kt X) (DF (es.map (r.T L))))
 |[]=>Sb
 |[a]=>L8 (hT a)
 |a::b::es=>QM (hT a) (uA hT (b::es))
theorem yE(hT:WM M X r L):∀es:Bz,PW X (.BoolOp .Or es pos) (tT (M.P.kt X) (Nc (es.map (r.T L))))
 |[]=>Sb
 |[a]=>QK (hT a)
 |a::b::es=>V3 (hT a) (yE hT (b::es))
def dw{α:Type}{l:List (Str×α)}{x:Str}{a:α}(h:l.lookup x=some a):(x,a)∈l:=by
 induction l with
 |nil=>simp at h
 |cons p l ih=>
  obtain⟨q,b⟩:=p;rw[i_]at h;split at h
  ·rename_i e
   cases h;rw[eq_of_beq e];exact ee ..
  ·exact dX _ (ih h)
theorem DQ(C:CxOk M ah k L X):∀{ys:Bi}{ds:B1},yx M L ys=some ds->ys.length=ds.length/\∀(i d:Nat)(y:Str),ds[i]?=some d->ys[i]?=some y->M.P.cn[d]?=some y/\(M.P.fn[d]?).isSome=true/\Gl X y/\cu y
 |[],ds,h=>by
  cases h;exact⟨rfl,λi d y h=>by simp at h⟩
 |y::ys,ds,h=>by
  unfold yx at h;split at h
  ·rename_i q
   rw[dq]at q;obtain⟨d,h1,h2⟩:=dH.mp h;obtain⟨ds',h3,rfl⟩:=dg.mp h2;obtain⟨h4,h5⟩:=DQ C h3;obtain⟨g1,g2⟩:=jS C q.1;refine⟨by simp[h4],λi d' y' e1 e2=>?_⟩
   cases i with
   |zero=>
    simp at e1 e2;subst e1 e2;refine⟨gO h1,?_,g1,g2⟩;have q2:=q.2;rw[h1]at q2;exact q2
   |succ i=>exact h5 i d' y' (by simpa using e1) (by simpa using e2)
  ·cases h
def fB(C:CxOk M ah k L X)(h:blt M L x=true):Gl X x/\X.mg x=none/\cu x:=by
 unfold blt at h;rw[dq]at h;obtain⟨g1,g2⟩:=jS C h.2;exact⟨g1,C.gm.bl x (BA.mp h.1),g2⟩
def Sd(C:CxOk M ah k L X)(hE:yD M X r L){q:Expr}(hb:blt M L ("isinstance" : Str)=true)(hs:noStar a=true):PE X (.Call (.Name "isinstance" p) [a,q] [] pos) (tE (M.P.kt X) (YE M r L a q)):=by
 obtain⟨hg,hm,_⟩:=fB C hb;cases q with
 |Name y py=>
  show PE X _ (tE (M.P.kt X) (match uc.lookup y with|some ty=>_|none=>_))
  split
  ·rename_i ty P6
   split
   ·rename_i q
    rw[dq]at q;obtain⟨g1,g2⟩:=jS C q.2;exact Mw rfl (dw P6) hm (C.gm.bl _ (BA.mp q.1)) (hE a) hg g1 hs
   ·exact bb
  ·split
   ·rename_i ds E2
    obtain⟨h1,h2⟩:=DQ C E2
    match ds,h1,h2 with
    |[d],_,h2=>
     obtain⟨f1,f2,f3,f4⟩:=h2 0 d y rfl rfl;exact Rk C.gm.pg f1 hm (hE a) hg f3 hs f4 f2
   ·exact bb
 |_=>exact bb
def uB{f:Str}{args:Bz}(h:wd M L f args=some a):f=("list" : Str)/\blt M L ("range" : Str)=true/\noStar a=true/\∃p1 tM,args=[.Call (.Name "range" p1) [a] [] tM]:=by
 match args,h with
 |[e],h=>
  obtain⟨⟨g,as,ks⟩,h1,hh⟩:=dH.mp h;obtain⟨p1,tM,rfl⟩:=fW h1
  match as,ks,hh with
  |[a'],[],hq=>
   dsimp only at hq;split at hq
   ·rename_i q
    obtain⟨rfl,rfl,q3,q4⟩:=q;cases hq;exact⟨rfl,q3,q4,_,_,rfl⟩
   ·cases hq
def gP(C:CxOk M ah k L X)(hE:yD M X r L){f:FE}(h:yy M r L o=some f):PE X o (tE (M.P.kt X) f)/\bq o=true:=by
 obtain⟨q,h1,h⟩:=dH.mp h;rw[fq h1];split at h
 ·rename_i z
  rw[dq]at z;obtain⟨j,h2,rfl⟩:=dg.mp h;exact⟨J7 C.gm.pg (gO h2) (hE _) z.2,rfl⟩
 ·cases h
def G9(C:CxOk M ah k L X)(hE:yD M X r L){op:CmpOp}(h:behindInMarks op b=false):PE X (.Compare a [op] [b] pos) (tE (M.P.kt X) (ux M r L a op b)):=by
 obtain⟨j,hj,hr⟩:=C.room;unfold ux;split
 ·rename_i neg f h1 h2
  exact MX M.lB hr h1 (hE a) (gP C hE h2).1 h
 ·exact MS rfl hr (hE a) (hE b) h
def DR(C:CxOk M ah k L X)(hE:yD M X r L){op:CmpOp}(h:behindInMarks op b=false):PT X (.Compare a [op] [b] pos) (tT (M.P.kt X) (bW (ux M r L a op b))):=by
 obtain⟨j,hj,hr⟩:=C.room;unfold ux;split
 ·rename_i neg f h1 h2
  exact MY M.lB hr h1 (hE a) (gP C hE h2).1 h
 ·exact GS rfl hr (hE a) (hE b) h
def G_(C:CxOk M ah k L X)(hE:yD M X r L){f:Str}{args:Bz}{g:FE}(g1:Gl X f)(g2:X.mg f=none)(hs:args.all noStar=true)(h:Nf M r L f args=some g):PE X (.Call (.Name f p) args [] pos) (tE (M.P.kt X) g):=by
 unfold Nf at h;split at h
 ·split at h
  ·rename_i e
   subst e;obtain⟨fo,h1,rfl⟩:=dg.mp h;exact M5 M.lB (gP C hE h1).1 (by simpa using hs) g1 g2
  ·cases h
 ·cases h
def Ha(hc:X.calm=true):∀p∈R8,Wh X p.1 p.2:=by
 intro p h;rcases cA.mp h with rfl|h
 ·exact⟨⟨_,R4,.inl ⟨_,PyProof.Rows.boot_min,zX hc⟩⟩,by decide,by decide⟩
 rcases cA.mp h with rfl|h
 ·exact⟨⟨_,RY,.inl ⟨_,JG,zW hc⟩⟩,by decide,by decide⟩
 ·exact Df hc p h
def DS(C:CxOk M ah k L X)(hE:yD M X r L)(f:Str)(args:Bz):PE X (.Call (.Name f p) args [] pos) (tE (M.P.kt X) (we M ah r L f args)):=by
 obtain⟨j,hj,hr⟩:=C.room;unfold we;split
 case isFalse=>exact bb
 rename_i hs;have hA:=iO hE args hs;split
 ·rename_i ds i hf
  split
  case isFalse=>exact bb
  rename_i q;obtain⟨g1,g2⟩:=jS C q;cases args with
  |nil=>exact GJ (C.gm.fns f ds i hf) hr (by omega) g1 g2
  |cons a args=>exact s_call (C.gm.fns f ds i hf) hr (by omega) hA g1 g2 hs
 ·split
  ·rename_i c n hc
   split
   case isFalse=>exact bb
   rename_i q;rw[dq]at q;obtain⟨g1,g2⟩:=jS C q.1;cases args with
   |nil=>cases q.2
   |cons a args=>exact Rl (C.gm.fz f c n hc) hr hj hA g1 g2 hs
  ·rename_i c hc
   split
   case isFalse=>exact bb
   rename_i q;rw[dq]at q;obtain⟨g1,g2⟩:=jS C q.1;cases args with
   |nil=>exact Mz (C.gm.z0 f c hc) g1 g2
   |cons a args=>cases q.2
  ·rename_i c hc
   split
   ·rename_i a
    split
    case isFalse=>exact bb
    rename_i q;obtain⟨g1,g2⟩:=jS C q;exact MO (C.gm.cp f c hc) hr hj (hE a) g1 g2 (by simpa using hs)
   ·exact bb
  ·rename_i c i hc
   split
   case isFalse=>exact bb
   rename_i q;rw[dq]at q;obtain⟨g1,g2⟩:=jS C q.1;cases args with
   |nil=>cases q.2
   |cons a args=>exact MN (C.gm.nw f c i hc) hr hj hA g1 g2 hs
  ·split
   case isFalse=>exact bb
   rename_i hb;obtain⟨g1,g2,g3⟩:=fB C hb;split
   ·rename_i g hg
    exact G_ C hE g1 g2 hs hg
   split
   ·rename_i a q e _
    have e:=eq_of_beq e;subst e;rw[fh,dq]at hs;exact Sd C hE hb hs.1
   ·split
    ·rename_i y py e _ _
     have e:=eq_of_beq e;subst e;have main:PE X (.Call (.Name "len" p) [.Name y py] [] pos) (tE (M.P.kt X) (bV cz (eO [r.E L (.Name y py)]))):=J5 (Df C.calm ("len",cz) (ee ..)) rfl g1 g2 hA hs;split
     ·rename_i i hi
      split
      ·rename_i q
       rw[dq]at q;obtain⟨l1,l2,l3,l4⟩:=gj C q.2;exact GQ rfl (by rw[C.N];exact gO hi) l2 l3 l4 g1 g2
      ·exact main
     ·exact main
    ·split
     ·rename_i a ha
      obtain⟨rfl,h2,h3,p1,tM,rfl⟩:=uB ha;obtain⟨k1,k2,k3⟩:=fB C h2;exact vQ (Kg C.calm g2 k2 g1 k1 (hE a) h3)
     ·split
      ·rename_i g a Se hg _ _ _ _
       exact J5 (Ha C.calm (f,g) (dw hg)) rfl g1 g2 hA hs
      ·exact bb
theorem nA{sc:Scope}(C:CxOk M ah k L X)(hf:∀x∈frees sc,sc.names.lookup x=some .free/\L.sc.names.lookup x=some .cell):∀{xs:Bi}{js:B1},idxs L.N xs=some js->(∀x∈xs,x∈frees sc)->fM X sc js xs
 |[],js,h,_=>by cases h;exact .nil
 |x::xs,js,h,hx=>by
  obtain⟨i,h1,h2⟩:=dH.mp (show(kF L.N x).bind _=some js from h);obtain⟨js',h3,rfl⟩:=dg.mp h2;obtain⟨f1,f2⟩:=hf x (hx x (ee ..));refine .cons (by rw[C.N];exact gO h1) f1 ?_ (nA C hf h3 λy hy=>hx y (dX _ hy))
  show X.env.scope.names.lookup x=_;rw[C.sc];exact f2
def Az{sc:Scope}{x:Str}(h:x∈frees sc):(x,NameKind.free)∈sc.names:=by
 unfold frees at h;obtain⟨q,h1,h2⟩:=Bp.mp h;obtain⟨n,kk⟩:=q;split at h2
 ·rename_i e;cases h2;have e:kk=.free:=e;subst e;exact h1
 ·cases h2
def DT(C:CxOk M ah k L X)(sc:Scope):relabel sc X.env=DG sc L.sc:=by
 unfold relabel DG Env.kindOf;rw[C.sc]
theorem wm{N:Bi}{ok:Str->Bool}(hN:X.N.Nodup)(h:∀x i,ok x=true->kF N x=some i->X.N[i]?=some x/\Loc X.env.scope x/\(X.fn x=true\/X.env.scope.names.lookup x=some .local)):∀{es:Bz}{xs:Bi}{is:B1},namesOf es=some xs->xs.all ok=true->idxs N xs=some is ->
  Pc X es (mZ is)/\(assignEach es X.env).length=is.length/\(assignEach es X.env).findIdx? (·.1)=none
 |[],xs,is,h1,_,h3=>by
  cases h1;cases h3;exact⟨Fc,rfl,rfl⟩
 |e::es,xs,is,h1,h2,h3=>by
  cases e<;>first|(cases h1;done)|skip
  rename_i x px;obtain⟨zs,h4,rfl⟩:=dg.mp (show(namesOf es).map (x::·)=some xs from h1)
  rw[fh,dq]at h2;obtain⟨i,h5,h6⟩:=dH.mp (show(kF N x).bind _=some is from h3);obtain⟨WN,h7,rfl⟩:=dg.mp h6;obtain⟨g1,g2,g3⟩:=h x i h2.1 h5;obtain⟨r1,r2,r3⟩:=wm hN h h4 h2.2 h7;refine⟨B8 (qC hN g1 g2 g3) r1 rfl,?_,?_⟩
  ·show((false,_)::assignEach es X.env).length=_
   rw[cU,r2];rfl
  ·show List.findIdx? (·.1) ((false,_)::assignEach es X.env)=none
   rw[List.findIdx?_cons];simp only[r3];rfl
def Ko{B:KT}(hB:B.K=X.K){N:Bi}{ok:Str->Bool}{tg:Expr}{g:FG}{is:B1}(hc:X.calm=true)(hN:X.N.Nodup)(h:∀x i,ok x=true->kF N x=some i->X.N[i]?=some x/\Loc X.env.scope x/\(X.fn x=true\/X.env.scope.names.lookup x=some .local))
  (ht:OT N ok tg=some (g,is)):∃gt,PG X tg gt/\qW B gt g is:=by
 cases tg<;>first|(cases ht;done)|skip
 ·rename_i x px
  replace ht:(if ok x=true then _ else none)=some (g,is):=ht
  split at ht
  ·rename_i q
   obtain⟨i,h1,h2⟩:=dg.mp ht;cases h2;obtain⟨g1,g2,g3⟩:=h x i q h1;exact⟨_,qC hN g1 g2 g3,yi i⟩
  ·cases ht
 ·rename_i es x1 tp
  replace ht:(namesOf es).bind _=some (g,is):=ht
  obtain⟨xs,h1,h2⟩:=dH.mp ht;split at h2
  ·rename_i q
   obtain⟨WN,h3,h4⟩:=dg.mp h2;cases h4;obtain⟨r1,r2,r3⟩:=wm hN h h1 q h3;refine⟨_,B9 hc r1 r2 r3,?_⟩;rw[<- hB];exact Dl _ rfl
  ·cases h2
def Nv{N:Bi}{ok:Str->Bool}{tg:Expr}{g:FG}{is:B1}(ht:OT N ok tg=some (g,is)):∀i∈is,i<N.length:=by
 have lt:∀{x i},kF N x=some i->i<N.length:=λh=>(bD.mp (gO h)).1;cases tg<;>first|(cases ht;done)|skip
 ·rename_i x px
  replace ht:(if ok x=true then _ else none)=some (g,is):=ht
  split at ht
  ·obtain⟨i,h1,h2⟩:=dg.mp ht
   cases h2;intro j hj;rw[kc.mp hj];exact lt h1
  ·cases ht
 ·rename_i es x1 tp
  replace ht:(namesOf es).bind _=some (g,is):=ht
  obtain⟨xs,h1,h2⟩:=dH.mp ht;split at h2
  ·obtain⟨WN,h3,h4⟩:=dg.mp h2
   cases h4
   have:∀(xs:Bi)(is:B1),idxs N xs=some is->∀i∈is,i<N.length:=by
    intro xs
    induction xs with
    |nil=>intro is h;cases h;intro i hi;cases hi
    |cons x xs ih=>
     intro is h;obtain⟨i,h5,h6⟩:=dH.mp (show(kF N x).bind _=some is from h);obtain⟨Ă,h7,rfl⟩:=dg.mp h6;intro j hj;rcases cA.mp hj with z|z
     ·rw[z];exact lt h5
     ·exact ih Ă h7 j z
   exact this xs _ h3
  ·cases h2
def yF{it:Expr}(h:isSet it=false):∀x,foldedSetIterable it X.env x=pure x:=λx=>by
 unfold foldedSetIterable;cases it<;>first|rfl|(cases h)
structure Nx(M:Gm)(X:Cx)(r:Rc)(L:Lc)(elt tg iter:Expr)(ifs:Bz)(sc:Scope)(js:B1)(g:FG)(is:B1):Prop where
 sco:fY X sc
 fr:fM X sc js (frees sc)
 nd:(locals sc++frees sc).Nodup
 it:PI X tg iter (tI (M.P.kt X) (r.I L tg iter))
 ex:∃gt,(∀cl C fp s H,PG (X.block (locals sc++frees sc) sc cl C fp s H) tg gt)/\qW (M.P.kt X) gt g is
 ts:∀cl C fp s H,EY (X.block (locals sc++frees sc) sc cl C fp s H) ifs (tT (M.P.kt X) (Kh r (DH L sc) ifs))
 el:∀cl C fp s H,PE (X.block (locals sc++frees sc) sc cl C fp s H) elt (tE (M.P.kt X) (r.E (DH L sc) elt))
 lt:∀i∈is,i<(locals sc).length
 st:∀x,foldedSetIterable iter X.env x=pure x
def yG(R:wj M ah k r)(C:CxOk M ah k L X){elt tg iter:Expr}{ifs:Bz}{sc:Scope}{js:B1}{g:FG}{is:B1}(h:(Nd L sc&&decide ((locals sc++frees sc).Nodup)&&!isSet iter&&decide (ifs.length<=1))=true)(hj:idxs L.N (frees sc)=some js)
  (ht:OT (locals sc) (λx=>decide (sc.names.lookup x=some .local)) tg=some (g,is)):Nx M X r L elt tg iter ifs sc js g is:=by
 obtain⟨hE,hT,hI,hO⟩:=R L X C;simp only[dq,decide_eq_true_eq,Js]at h;obtain⟨⟨⟨h1,WO⟩,h3⟩,h4⟩:=h;unfold Nd at h1;simp only[dq,decide_eq_true_eq,g_]at h1;obtain⟨⟨k1,k2⟩,k3⟩:=h1;have pD:∀x∈frees sc,sc.names.lookup x=some .free/\L.sc.names.lookup x=some .cell:=λx hx=>by
  have:=(k2 _ (Az hx)).2 rfl
  exact this
 have bs:fY X sc:=⟨k1,λq hq=>(k2 q hq).1.1,λq hq e=>(k2 q hq).1.2 e,λq hq e=>by
  show X.env.scope.names.lookup q.1=_;rw[C.sc];exact((k2 q hq).2 e).2⟩
 have Uy:∀cl CC fp s H,CxOk M ah k (DH L sc) (X.block (locals sc++frees sc) sc cl CC fp s H):=λcl CC fp s H=>⟨C.gm,rfl,DT C sc,C.calm,C.room⟩;refine⟨bs,nA C pD hj λ_ h=>h,WO,hI tg iter,?_,λcl CC fp s H=>?_,λcl CC fp s H=>(R _ _ (Uy cl CC fp s H)).1 elt,Nv ht,yF h3⟩
 ·-- the target's names are the block's own
  have key:∀cl CC fp s H,∀x i,decide (sc.names.lookup x=some .local)=true->kF (locals sc) x=some i->(X.block (locals sc++frees sc) sc cl CC fp s H).N[i]?=some x/\Loc (X.block (locals sc++frees sc) sc cl CC fp s H).env.scope x/\((X.block (locals sc++frees sc) sc cl CC fp s H).fn x=true\/(X.block (locals sc++frees sc) sc cl CC fp s H).env.scope.names.lookup x=some .local):=λcl CC fp s H x i hx hi=>by
   have hl:(relabel sc X.env).names.lookup x=some .local:=lookup_relabel_local (of_decide_eq_true hx);have h1:=gO hi;refine⟨?_,.inl hl,.inr hl⟩;show(locals sc++frees sc)[i]?=some x;rw[gp (bD.mp h1).1];exact h1
  cases tg<;>first|(cases ht;done)|skip
  ·rename_i x px
   replace ht:(if _ then _ else none)=some (g,is):=ht
   split at ht
   ·rename_i q
    obtain⟨i,h5,h6⟩:=dg.mp ht;cases h6;exact⟨_,λcl CC fp s H=>by
     obtain⟨g1,g2,g3⟩:=key cl CC fp s H x i q h5;exact qC WO g1 g2 g3,yi i⟩
   ·cases ht
  ·rename_i es x1 tp
   replace ht:(namesOf es).bind _=some (g,is):=ht
   obtain⟨xs,h5,h6⟩:=dH.mp ht;split at h6
   ·rename_i q
    obtain⟨WN,h7,h8⟩:=dg.mp h6;cases h8;refine⟨La X.K is.length (mZ is),λcl CC fp s H=>?_,Dl (B:=M.P.kt X) is rfl⟩;obtain⟨r1,r2,r3⟩:=wm (X:=X.block (locals sc++frees sc) sc cl CC fp s H) WO (key cl CC fp s H) h5 q h7;exact B9 (X:=X.block (locals sc++frees sc) sc cl CC fp s H) C.calm r1 r2 r3
   ·cases h6
 ·match ifs,h4 with
  |[],_=>exact Ro
  |[c],_=>exact Rp ((R _ _ (Uy cl CC fp s H)).2.1 c)
def jT(R:wj M ah k r)(C:CxOk M ah k L X)(e:Expr):PE X e (tO (M.P.kt X) (qa r L e)):=by
 cases e<;>first|exact dj|skip
 rename_i elt gs sc p
 match gs with
 |[]=>exact dj
 |_::_::_=>exact dj
 |[⟨tg,iter,ifs,ay⟩]=>
  show PE X _ (tO (M.P.kt X) (ny r L elt ⟨tg,iter,ifs,ay⟩ sc));unfold ny;split
  case isFalse=>exact dj
  rename_i h;obtain⟨rfl,h⟩:=h;split
  ·rename_i js g is hj ht
   have K:=yG R C (elt:=elt) h hj ht;obtain⟨gt,h1,h2⟩:=K.ex;exact MF (locals sc) C.calm K.sco K.fr K.it h1 h2 K.ts K.el K.lt K.st
  ·exact dj
def rm(hE:yD M X r L):∀e:Option Expr,PO X e (tP (M.P.kt X) (DI r L e))
 |none=>Q6
 |some e=>Q7 (hE e)
def Hb(h:isSlice e=false):iM e:=λo i=>by
 unfold subscripted;cases e<;>first|rfl|(cases h)
def Hc{m:Str}{f:FE}{args:Bz}(h:Nh M r L o m args=some f):m=("pop" : Str)/\∃k1 p1 fb,args=[.Constant (.int 0) k1 p1]/\yy M r L o=some fb/\f=nq M.bc fb:=by
 unfold Nh at h;split at h
 ·rename_i b
  split at h
  ·rename_i hc
   split at h
   ·rename_i e
    obtain⟨fb,h5,rfl⟩:=dg.mp h;obtain⟨k1,p1,rfl⟩:=iN hc;exact⟨e,_,_,fb,rfl,h5,rfl⟩
   ·cases h
  ·cases h
 ·cases h
def yH{l:List (Nat×Nat)}{m:Str}(C:CxOk M ah k L X)(h:M.ms.lookup m=some l):∀c f,ak l ah c=some f->UE M.P X.prog X.w X.K X.mg X.base k c m f:=λc f hf=>by
 obtain⟨i,h1,rfl⟩:=dg.mp hf;exact C.gm.mts m l c i h h1
def DU{kk:Nat}(c:Const):PE X (.Constant c kk pos) (tE (M.P.kt X) (DJ c)):=by
 cases c with
 |int i=>exact jK B4 λ_ _=>rfl
 |bool b=>exact jK O5 λ_ _=>rfl
 |none=>exact jK K2 λ_ _=>rfl
 |str s=>
  show PE X _ (tE _ (if s.length<=1000000 then cF (.str s.cps.toList)else aT))
  split
  ·rename_i h
   obtain⟨⟨l⟩⟩:=s;exact jK B5 λ_ _=>⟨rfl,by rw[<- eL l];exact h⟩
  ·exact bb
 |_=>exact bb
def Hd(C:CxOk M ah k L X)(x:Str):PE X (.Name x pos) (tE (M.P.kt X) (DK M L x)):=by
 unfold DK;split
 ·rename_i i hi
  split
  ·rename_i q
   obtain⟨l1,l2,l3,l4⟩:=gj C q;exact QH (by rw[C.N];exact gO hi) l2 l3 l4
  ·exact bb
 ·split
  ·rename_i t ht
   split
   ·rename_i q
    obtain⟨g1,g2⟩:=jS C q;exact RK (C.gm.cst _ _ ht) rfl g1 g2
   ·exact bb
  ·exact bb
def Sf(C:CxOk M ah k L X)(hE:yD M X r L){i:Expr}(h:iM i):PE X (.Subscript o i pos) (tE (M.P.kt X) (UO M r L o i)):=by
 unfold UO;split
 ·rename_i f hf
  obtain⟨j,hj,hr⟩:=C.room;exact RN M.lB hr (gP C hE hf).1 (hE _) h
 split
 ·obtain⟨j,hj,hr⟩:=C.room
  exact RV rfl hr (hE _) (hE _) h
 split
 ·rename_i y kk hk
  obtain⟨y',h1,h2⟩:=dH.mp hk;obtain⟨k',h2,h3⟩:=dg.mp h2;cases h3;obtain⟨py,rfl⟩:=c7 h1;split
  ·rename_i q
   rw[dq]at q;obtain⟨l1,l2,l3,l4⟩:=gj C q.2;exact MP (by rw[C.N];exact gO h2) l2 l3 l4 (hE _) h
  ·exact Ml rfl (hE _) (hE _) h
 ·exact Ml rfl (hE _) (hE _) h
def Ny(C:CxOk M ah k L X)(hE:yD M X r L)(o:Expr)(m:Str)(ap:Pos)(args:Bz)(cp:Pos):PE X (.Call (.Attribute o m ap) args [] cp) (tE (M.P.kt X) (Ni M ah r L o m ap args cp)):=by
 obtain⟨j,hj,hr⟩:=C.room;unfold Ni;split
 case isFalse=>exact bb
 rename_i h;simp only[dq,decide_eq_true_eq]at h;obtain⟨⟨⟨h1,h2⟩,h3⟩,h4⟩:=h;have hA:=iO hE args h2;split
 ·rename_i f hf
  obtain⟨rfl,k1,p1,fb,rfl,h5,rfl⟩:=Hc hf;obtain⟨b1,b2⟩:=gP C hE h5;exact M6 M.lB b1 b2 h4
 split
 ·rename_i l hl
  cases args with
  |nil=>exact GK (yH C hl) hr (by omega) (hE o) (Ke h1 h2 (by omega) h4)
  |cons a args=>exact Mx (yH C hl) hr (by omega) (hE o) hA h2 (Ke h1 h2 (by omega) h4)
 ·split
  ·rename_i g a Se hg _
   exact Q9 (Ms (m,g) (dw hg)) rfl (hE o) hA h1 h2 (by rw[cU]at h3;omega) h4
  ·exact bb
def Nz(C:CxOk M ah k L X)(hE:yD M X r L)(f:Expr)(args:Bz)(ks:List Keyword):PE X (.Call f args ks pos) (tE (M.P.kt X) (Nj M r L f args ks)):=by
 unfold Nj;split
 ·rename_i y a w hy
  split
  ·rename_i i hc
   split
   ·rename_i q
    obtain⟨q1,q2,q3,q4⟩:=q;obtain⟨p,rfl⟩:=c7 hy;obtain⟨k1,p1,e⟩:=iN hc;obtain⟨g1,g2,_⟩:=fB C q2;obtain⟨an,v,kp⟩:=w;cases(show an=some ("default" : Str)from q4);cases(show v=_ from e);subst q1;exact M_ g1 g2 C.calm (hE a) q3
   ·exact bb
  ·exact bb
 ·exact bb
def DV(R:wj M ah k r)(C:CxOk M ah k L X)(e:Expr):PE X e (tE (M.P.kt X) (Kl M ah r L e)):=by
 obtain⟨hE,hT,hI,hO⟩:=R L X C;cases e with
 |Constant c _ _=>exact DU c
 |Name x _=>exact Hd C x
 |BinOp a op b _=>exact QY rfl _ (hE _) (hE _)
 |UnaryOp op a _=>cases op with
  |USub=>exact QZ rfl (hE _)
  |Not=>exact Mb (hE _)
  |_=>exact bb
 |BoolOp op es _=>cases op with
  |And=>exact uz hE _
  |Or=>exact bb
 |Compare a ops bs _=>
  match ops,bs with
  |[op],[b]=>
   show PE X _ (tE (M.P.kt X) (if behindInMarks op b then aT else ux M r L a op b))
   split
   ·exact bb
   ·rename_i h
    exact G9 C hE (by simpa using h)
  |[],_=>exact bb
  |_::_::_,_=>exact bb
  |[_],[]=>exact bb
  |[_],_::_::_=>exact bb
 |IfExp c a b _=>exact QO (hT _) (hE _) (hE _)
 |Tuple es _ _=>
  show PE X _ (tE (M.P.kt X) (if es.all noStar then _ else aT))
  split
  ·rename_i h;exact QI (iO hE _ h)
  ·exact bb
 |List es _=>
  show PE X _ (tE (M.P.kt X) (if es.all noStar then _ else aT))
  split
  ·rename_i h;exact QJ (iO hE _ h)
  ·exact bb
 |Subscript o i _=>
  show PE X _ (tE (M.P.kt X) (Ng M r L o i));cases hs:isSlice i with
  |false=>
   rw[show Ng M r L o i=UO M r L o i by cases i<;>first|rfl|cases hs]
   exact Sf C hE (Hb hs)
  |true=>
   cases i<;>first|(cases hs;done)|skip
   rename_i lo hi st _;cases st with
   |none=>
    show PE X _ (tE (M.P.kt X) (match yy M r L o with|some f=>_|none=>_))
    cases hb:yy M r L o with
    |none=>exact Wc rfl (hE _) (rm hE _) (rm hE _)
    |some f=>exact RW M.lB (gP C hE hb).1 (rm hE _) (rm hE _)
   |some _=>exact bb
 |Attribute o f _=>
  show PE X _ (tE (M.P.kt X) (if bq o then _ else aT))
  split
  ·rename_i h
   split
   ·rename_i j hj
    split
    ·exact M0 C.gm.pg M.lB (gO hj) (hE _) h
    ·exact J7 C.gm.pg (gO hj) (hE _) h
   ·exact bb
  ·exact bb
 |ListComp elt gs sc p=>exact vQ (jT R C _)
 |Call f args ks cp=>
  cases ks with
  |cons w ws=>exact Nz C hE f args (w::ws)
  |nil=>cases f with
   |Name f _=>exact DS C hE _ _
   |Attribute o m ap=>exact Ny C hE o m ap args cp
   |_=>exact bb
 |_=>exact bb
def DW(R:wj M ah k r)(C:CxOk M ah k L X)(e:Expr):PT X e (tT (M.P.kt X) (stepT M r L e)):=by
 obtain⟨hE,hT,hI,hO⟩:=R L X C;cases e with
 |BoolOp op es _=>cases op with
  |And=>exact(uA hT _).pt
  |Or=>exact(yE hT _).pt
 |UnaryOp op a _=>cases op with
  |Not=>exact QN (hT _)
  |_=>exact JZ (hE _) rfl λgT=>rfl
 |Compare a ops bs _=>
  match ops,bs with
  |[op],[b]=>
   show PT X _ (tT (M.P.kt X) (if behindInMarks op b then oQ else bW (ux M r L a op b)))
   split
   ·exact jf
   ·rename_i h
    exact DR C hE (by simpa using h)
  |[],_=>exact jf
  |_::_::_,_=>exact jf
  |[_],[]=>exact jf
  |[_],_::_::_=>exact jf
 |IfExp _ _ _ _=>exact jf
 |_=>exact JZ (hE _) rfl λgT=>rfl
def Hf{e:Expr}{args:Bz}(h:yz e=some args):∃p pos,e=.Call (.Name "range" p) args [] pos:=by
 obtain⟨⟨f,as,ks⟩,h1,hh⟩:=dH.mp h;clear h;obtain⟨p,pos,rfl⟩:=fW h1;have h:=hh;clear hh;split at h
 ·rename_i q
  obtain⟨rfl,q⟩:=q;cases h;rw[show ks=[]from BB.mp q];exact⟨_,_,rfl⟩
 ·cases h
def DX{e a:Expr}{n:Int}(h:uy e=some (a,n)):∃p pos,(n=0/\e=.Call (.Name "enumerate" p) [a] [] pos)\/(n=1/\∃k1 p1 kp,e=.Call (.Name "enumerate" p) [a] [⟨some (Str.ofString "start"),.Constant (.int 1) k1 p1,kp⟩] pos):=by
 obtain⟨⟨f,as,ks⟩,h1,hh⟩:=dH.mp h;clear h;obtain⟨p,pos,rfl⟩:=fW h1;have h:=hh;clear hh;split at h
 case isFalse=>cases h
 rename_i q
 replace q:f=("enumerate" : Str):=q
 subst q
 match as,ks,h with
 |[a'],[],h=>cases h;exact⟨_,_,.inl ⟨rfl,rfl⟩⟩
 |[a'],[⟨an,v,kp⟩],h=>
  dsimp only at h;cases hc:gM v with
  |none=>rw[hc]at h;cases h
  |some c=>
   rw[hc]at h;cases c<;>first|(cases h;done)|skip
   obtain⟨k1,p1,rfl⟩:=iN hc;dsimp only at h;split at h
   ·rename_i q;obtain⟨rfl,rfl⟩:=q;cases h;exact⟨_,_,.inr ⟨rfl,_,_,_,rfl⟩⟩
   ·cases h
def Hg(h:DM e=some a):∃p pos,e=.Call (.Name "reversed" p) [a] [] pos/\noStar a=true:=by
 obtain⟨⟨f,as,ks⟩,h1,hh⟩:=dH.mp h;clear h;obtain⟨p,pos,rfl⟩:=fW h1
 match as,ks,hh with
 |[a'],[],h=>
  dsimp only at h;split at h
  ·rename_i q
   obtain⟨rfl,q⟩:=q;cases h;exact⟨_,_,rfl,q⟩
  ·cases h
def Hh(C:CxOk M ah k L X)(hE:yD M X r L)(f:Str)(args:Bz):PE X (.Call (.Name f p) args [] pos) (tO (M.P.kt X) (Nl M r L f args)):=by
 unfold Nl;split
 case isFalse=>exact dj
 rename_i hb;obtain⟨g1,g2,g3⟩:=fB C hb;split
 ·rename_i a ha
  obtain⟨rfl,h2,h3,p1,tM,rfl⟩:=uB ha;obtain⟨k1,k2,k3⟩:=fB C h2;exact Kg C.calm g2 k2 g1 k1 (hE a) h3
 ·split
  ·split
   ·rename_i q
    obtain⟨rfl,q⟩:=q;exact RS rfl g2 g1 (hE _) q
   ·exact dj
  ·exact dj
def DY(R:wj M ah k r)(C:CxOk M ah k L X)(tg e:Expr):PI X tg e (tI (M.P.kt X) (stepI M r L tg e)):=by
 obtain⟨hE,hT,hI,hO⟩:=R L X C;unfold stepI;split
 ·rename_i args ha
  obtain⟨p,pos,rfl⟩:=Hf ha;split
  case isFalse=>exact ug
  rename_i h;rw[dq]at h;obtain⟨g1,g2,_⟩:=fB C h.1;have hs:=h.2;split
  ·exact Dn g1 g2 (hE _) (by simpa using hs)
  ·simp only[fh,dq]at hs
   exact Dp g1 g2 (hE _) (hE _) hs.1 hs.2.1
  ·exact M4 g1 g2 (hE _) (hE _) (hE _) hs
  ·exact ug
 ·split
  ·rename_i a n ă
   split
   case isFalse=>exact ug
   rename_i h;simp only[dq]at h;obtain⟨⟨h1,h2⟩,h3⟩:=h;obtain⟨g1,g2,_⟩:=fB C h1;cases tg<;>first|(cases h2;done)|skip
   obtain⟨p,pos,h4|h4⟩:=DX ă
   ·obtain⟨rfl,rfl⟩:=h4
    exact RE rfl g1 g2 (hE a) h3
   ·obtain⟨rfl,k1,p1,kp,rfl⟩:=h4
    exact RG rfl g1 g2 (hE a) h3
  split
  ·rename_i a Ą
   obtain⟨p,pos,rfl,h2⟩:=Hg Ą;split
   ·rename_i h1
    obtain⟨g1,g2,_⟩:=fB C h1;exact RT g1 g2 (hE a) h2
   ·exact ug
  ·split
   ·rename_i h
    cases tg<;>first|(cases h;done)|skip
    exact Rn rfl (hE e)
   ·exact J_ rfl (hE e)
def Hi(hE:∀e,PE X e (tE (M.P.kt X) (r.E L e)))(f:Expr)(args:Bz)(cp:Pos):PE X (.Call f args [] cp) (tO (M.P.kt X) (Nn r L f args cp)):=by
 unfold Nn;split
 ·rename_i w a hw
  split
  ·rename_i c hc
   split
   ·rename_i q
    obtain⟨k,p,rfl⟩:=str_inv hc;rw[fq hw,q.1];exact Nb (hE _) q.2.1 q.2.2
   ·exact dj
  ·exact dj
 ·exact dj
def DZ(R:wj M ah k r)(C:CxOk M ah k L X)(e:Expr):PE X e (tO (M.P.kt X) (Km M r L e)):=by
 obtain⟨hE,hT,hI,hO⟩:=R L X C;cases e with
 |List es _=>
  show PE X _ (tO (M.P.kt X) (if es.all noStar then _ else eU))
  split
  ·rename_i h;exact L7 (iO hE _ h)
  ·exact dj
 |ListComp elt gs sc p=>exact jT R C _
 |IfExp c a b _=>exact RQ (hT _) (hO _) (hO _)
 |BinOp a op b _=>cases op<;>first|exact M3 (hE _) (hE _)|exact dj
 |Call f args ks _=>cases ks with
  |cons _ _=>exact dj
  |nil=>cases f<;>first|exact Hh C hE _ _|exact Hi hE _ _ _
 |_=>exact dj
theorem df:∀n,wj M ah k (comp M ah n)
 |0=>λL X C=>⟨λ_=>bb,λ_=>jf,λ_ _=>ug,λ_=>dj⟩
 |n+1=>λL X C=>⟨DV (df n) C,DW (df n) C,DY (df n) C,DZ (df n) C⟩
structure D0(M:Gm)(ah:Nat->Fn)(k:Nat)(L:Lc)(X:Cx):Prop extends CxOk M ah k L X where
 fn:∀x,X.fn x=true
 nd:X.N.Nodup
 xe:X.xe=λ_ _=>False
def kG{t:Option Expr}{l:Nat}(h:wg e=false):swapsWith e t l X.env=pure false:=by
 cases e<;>first|rfl|(cases h)
def NB(C:CxOk M ah k L X){tp:Pos}{l:Nat}(h:wg e=true->∃elt gs sc p,e=.ListComp elt gs sc p):swapsWith e (some (.Name x tp)) l X.env=pure (DN L x tp e):=by
 cases e<;>first|rfl|skip
 ·unfold swapsWith DN Env.blockKind Env.kindOf
  rw[C.sc];rfl
 ·obtain⟨_,_,_,_,z⟩:=h rfl;cases z
 ·obtain⟨_,_,_,_,z⟩:=h rfl;cases z
def passes(C:D0 M ah k L X):PassesOwn (model X.prog X.w) X.A X.env X.xe:=by rw[C.xe];exact PassesOwn.never
def yI(h:yC e=true):∃dp,e=.Dict [] [] dp:=by
 cases e<;>first|(cases h;done)|skip
 rename_i ks vs dp
 match ks,vs,h with
 |[],[],_=>exact⟨_,rfl⟩
def NC(h:wg e=true):yC e=false:=by
 cases e<;>first|rfl|(cases h)
def Hj(C:D0 M ah k L X)(n:Nat)(e:Expr):PS X (.Assign [.Name x cy] e pos) (tS (M.P.kt X) (DO M ah n L x e)):=by
 obtain⟨hE,hT,hI,hO⟩:=df (M:=M) (ah:=ah) (k:=k) n L X C.toCxOk;unfold DO;split
 case h_2=>exact bU
 rename_i i hi;split
 case isFalse=>exact bU
 rename_i q;obtain⟨l1,l2,l3,l4⟩:=gj C.toCxOk q;have hN:X.N[i]?=some x:=by rw[C.N];exact gO hi
 have hf:X.fn x=true\/X.env.scope.names.lookup x=some .local:=.inl (C.fn x);by_cases hlc:wg e=false
 ·split
  ·split
   ·rename_i hd
    obtain⟨dp,rfl⟩:=yI hd;exact MT C.nd hN l1 hf
   ·exact Kc C.nd hN l1 (hO e) (kG hlc) hf
  ·exact Ka C.nd hN l1 (hE e) (kG hlc) hf
 ·rw[NC (by simpa using hlc),if_neg dP]
  cases n with
  |zero=>
   split
   ·exact λ_ _ _ _ _ _ ⟨_,_,_,_,_,h,_⟩=>by cases h
   ·exact λ_ _ _ _ _ _ ⟨_,_,_,_,_,h,_⟩=>by cases h
  |succ n=>
   cases e with
   |ListComp elt gs sc cp=>
    have R:=df (M:=M) (ah:=ah) (k:=k) n;have main:PS X (.Assign [.Name x cy] (.ListComp elt gs sc cp) pos) (tS (M.P.kt X) (ia i (qa (comp M ah n) L (.ListComp elt gs sc cp))))/\PS X (.Assign [.Name x cy] (.ListComp elt gs sc cp) pos) (tS (M.P.kt X) (aE i (eK (qa (comp M ah n) L (.ListComp elt gs sc cp))))):=by
     have sw:=NB (X:=X) (x:=x) (tp:=cy) (l:=pos.line) (e:=.ListComp elt gs sc cp) C.toCxOk (λ_=>⟨_,_,_,_,rfl⟩);cases hb:DN L x cy (.ListComp elt gs sc cp)with
     |false=>
      rw[hb]at sw;exact⟨Kc C.nd hN l1 (jT R C.toCxOk _) sw hf,Ka C.nd hN l1 (vQ (jT R C.toCxOk _)) sw hf⟩
     |true=>
      rw[hb]at sw;have bad:PS X (.Assign [.Name x cy] (.ListComp elt gs sc cp) pos) (tS (M.P.kt X) (ia i eU))/\PS X (.Assign [.Name x cy] (.ListComp elt gs sc cp) pos) (tS (M.P.kt X) (aE i (eK eU))):=
       ⟨λ_ _ _ _ _ _ ⟨_,_,_,_,_,h,_⟩=>(by cases h),λ_ _ _ _ _ _ ⟨_,_,_,_,_,h,_⟩=>(by cases h)⟩
      match gs with
      |[]=>exact bad
      |_::_::_=>exact bad
      |[⟨tg,iter,ifs,ay⟩]=>
       rw[show qa (comp M ah n) L (.ListComp elt [⟨tg,iter,ifs,ay⟩] sc cp)=ny (comp M ah n) L elt ⟨tg,iter,ifs,ay⟩ sc from rfl];unfold ny;split
       case isFalse=>exact bad
       rename_i h;obtain⟨rfl,h⟩:=h;split
       ·rename_i js g is hj ht
        have K:=yG R C.toCxOk (elt:=elt) h hj ht;obtain⟨gt,h1,h2⟩:=K.ex;exact MJ (locals sc) C.calm C.nd hN l1 K.sco K.fr K.it h1 h2 K.ts K.el K.lt K.st hf sw
       ·exact bad
    split
    ·exact main.1
    ·exact main.2
   |SetComp a b c d=>
    split
    ·exact λ_ _ _ _ _ _ ⟨_,_,_,_,_,h,_⟩=>by cases h
    ·exact λ_ _ _ _ _ _ ⟨_,_,_,_,_,h,_⟩=>by cases h
   |DictComp a b c d f=>
    split
    ·exact λ_ _ _ _ _ _ ⟨_,_,_,_,_,h,_⟩=>by cases h
    ·exact λ_ _ _ _ _ _ ⟨_,_,_,_,_,h,_⟩=>by cases h
   |_=>exact absurd rfl hlc
def yJ{nm:Str}{mu:Bi}{e a:Expr}{y:Str}(h:rl nm mu e=some (y,a)):noStar a=true/\∃py ap cp,e=.Call (.Attribute (.Name y py) nm ap) [a] [] cp/\(ap.endLine == cp.line)=true:=by
 obtain⟨⟨f,as,ks,cp⟩,h1,h⟩:=dH.mp h;obtain⟨w,h2,h⟩:=dH.mp h;obtain⟨y',h3,h⟩:=dH.mp h
 match as,ks,h1,h with
 |[a'],[],h1,h=>
  dsimp only at h;split at h
  ·rename_i q
   obtain⟨q1,_,q3,q4⟩:=q;cases h;obtain⟨py,h3⟩:=c7 h3;rw[fG h1,fq h2,h3,q1];exact⟨q3,_,_,_,rfl,q4⟩
  ·cases h
def D3{mu:Bi}{e:Expr}{y:Str}(h:R9 mu e=some y):∃py ap cp,e=.Call (.Attribute (.Name y py) "pop" ap) [] [] cp/\(ap.endLine == cp.line)=true:=by
 obtain⟨⟨f,as,ks,cp⟩,h1,h⟩:=dH.mp h;obtain⟨w,h2,h⟩:=dH.mp h;obtain⟨y',h3,h⟩:=dH.mp h
 match as,ks,h1,h with
 |[],[],h1,h=>
  dsimp only at h;split at h
  ·rename_i q
   obtain⟨q1,_,q4⟩:=q;cases h;obtain⟨py,h3⟩:=c7 h3;rw[fG h1,fq h2,h3,q1];exact⟨_,_,_,rfl,q4⟩
  ·cases h
def rn{es:Bz}{x1:Nat}{tp:Pos}(h:Kn e=true):swappedStores [.Tuple es x1 tp] e X.env=pure none:=by
 cases e<;>first|rfl|skip
 rename_i vs _ _;unfold swappedStores;dsimp only;rw[show vs.all (foldedForSure 8)=true from h];split
 ·rfl
 split
 ·rfl
 split
 ·rfl
 rfl
def YF(C:D0 M ah k L X):∀x i,jR L x=true->kF L.N x=some i->X.N[i]?=some x/\Loc X.env.scope x/\(X.fn x=true\/X.env.scope.names.lookup x=some .local):=λx i h1 h2=>⟨by rw[C.N];exact gO h2,(gj C.toCxOk h1).1,.inl (C.fn x)⟩
def Hk(C:D0 M ah k L X)(n:Nat)(es:Bz){x1:Nat}{tp:Pos}(e:Expr):PS X (.Assign [.Tuple es x1 tp] e pos) (tS (M.P.kt X) (tupS M ah n L es e)):=by
 obtain⟨hE,hT,hI,hO⟩:=df (M:=M) (ah:=ah) (k:=k) n L X C.toCxOk;unfold tupS;split
 ·exact bU
 ·rename_i h
  simp only[xo,not_or,Bool.not_eq_true,Bool.not_eq_eq_eq_not,BU,Jt]at h;obtain⟨⟨h1,h2⟩,h3⟩:=h;split
  ·rename_i g is ht
   obtain⟨gt,q1,q2⟩:=Ko (B:=M.P.kt X) (tg:=.Tuple es x1 tp) rfl C.calm C.nd (YF C) ht;exact Rw (hE e) q1 q2 (show swapsWith e (some (.Tuple es x1 tp)) pos.line X.env=pure false from kG h1) (rn (by simpa using h2)) rfl
  ·exact bU
def ND(C:D0 M ah k L X)(n:Nat)(f:Str)(e:Expr):PE X e (tE (M.P.kt X) (Np M ah n L f e)):=by
 obtain⟨hE,hT,hI,hO⟩:=df (M:=M) (ah:=ah) (k:=k) n L X C.toCxOk;unfold Np;split
 ·split
  ·rename_i hd
   obtain⟨dp,rfl⟩:=yI hd;exact MV M.lB M.R7
  ·exact MU M.lB M.R7 (hO e)
 ·exact hE e
def D4{f:Str}{fp:Pos}{l:Nat}:swapsWith e (some (.Attribute o f fp)) l X.env=pure false:=by
 cases e<;>rfl
def Hl(C:D0 M ah k L X)(n:Nat)(o:Expr)(f:Str){fp:Pos}(e:Expr):PS X (.Assign [.Attribute o f fp] e pos) (tS (M.P.kt X) (Nq M ah n L o f e)):=by
 obtain⟨hE,hT,hI,hO⟩:=df (M:=M) (ah:=ah) (k:=k) n L X C.toCxOk;unfold Nq;split
 ·rename_i j hj
  exact RB C.gm.pg (gO hj) (hE o) (ND C n f e) D4
 ·exact bU
def Hm(C:D0 M ah k L X)(n:Nat)(o b:Expr){sp:Pos}(e:Expr):PS X (.Assign [.Subscript o b sp] e pos) (tS (M.P.kt X) (Nr M ah n L o b e)):=by
 obtain⟨hE,hT,hI,hO⟩:=df (M:=M) (ah:=ah) (k:=k) n L X C.toCxOk;obtain⟨j,hj,hr⟩:=C.room;unfold Nr;split
 ·exact bU
 rename_i h;split
 ·rename_i f hf
  exact RM M.lB hr (hE e) (gP C.toCxOk hE hf).1 (hE b) (kG (by simpa using h))
 split
 ·rename_i i hi
  obtain⟨y,h1,h2⟩:=dH.mp hi;obtain⟨py,rfl⟩:=c7 h1;split at h2
  ·rename_i q
   obtain⟨l1,l2,l3,l4⟩:=gj C.toCxOk q;split
   ·exact bU
   ·rename_i hs
    exact RU (hE b) (hE e) (by rw[C.N];exact gO h2) l2 l3 l4 (kG (by simpa using h)) (by simpa using hs)
  ·cases h2
 ·exact bU
def Hn(C:D0 M ah k L X)(n:Nat)(t:Expr)(op:Operator)(e:Expr):PS X (.AugAssign t op e pos) (tS (M.P.kt X) (Nt M ah n L t op e)):=by
 obtain⟨hE,hT,hI,hO⟩:=df (M:=M) (ah:=ah) (k:=k) n L X C.toCxOk;unfold Nt;split
 ·rename_i o j hk
  obtain⟨q,h1,h2⟩:=dH.mp hk;obtain⟨j',h2,h3⟩:=dg.mp h2;cases h3;rw[fq h1];split
  ·rename_i e;subst e
   exact RO C.gm.pg (gO h2) (hE _) (hE _)
  ·exact bU
 split
 case h_2=>exact bU
 rename_i x i hk;obtain⟨x',h1,h2⟩:=dH.mp hk;obtain⟨i',h2,h3⟩:=dg.mp h2;cases h3;obtain⟨py,rfl⟩:=c7 h1;split
 ·rename_i q
  obtain⟨rfl,q⟩:=q;obtain⟨l1,l2,l3,l4⟩:=gj C.toCxOk q;exact RJ C.nd (by rw[C.N];exact gO h2) l1 (hE _) (.inl (C.fn _))
 ·exact bU
def Ho{f:FE}(h:R_ M r L e=some (f,a)):∃o ap cp,e=.Call (.Attribute o "append" ap) [a] [] cp/\yy M r L o=some f/\noStar a=true/\(ap.endLine == cp.line)=true:=by
 obtain⟨⟨g,as,ks,cp⟩,h1,h⟩:=dH.mp h;obtain⟨w,h2,h⟩:=dH.mp h;obtain⟨f',h3,h⟩:=dH.mp h
 match as,ks,h1,h with
 |[a'],[],h1,h=>
  dsimp only at h;split at h
  ·rename_i q
   obtain⟨q1,q3,q4⟩:=q;cases h;rw[fG h1,fq h2,q1];exact⟨_,_,_,rfl,h3,q3,q4⟩
  ·cases h
def NF(C:D0 M ah k L X)(n:Nat)(e:Expr):PS X (.Expr e pos) (tS (M.P.kt X) (WJ M ah n L e)):=by
 obtain⟨hE,hT,hI,hO⟩:=df (M:=M) (ah:=ah) (k:=k) n L X C.toCxOk;unfold WJ;split
 ·rename_i f a ha
  obtain⟨o,ap,cp,rfl,ho,h1,h2⟩:=Ho ha;obtain⟨b1,b2⟩:=gP C.toCxOk hE ho;exact MW M.lB b1 b2 (hE a) h1 h2
 split
 ·rename_i y a ha
  obtain⟨h1,py,ap,cp,rfl,h2⟩:=yJ ha;split
  ·rename_i i hi
   split
   ·rename_i q
    obtain⟨l1,l2,l3,l4⟩:=gj C.toCxOk q;exact Ry (hE a) (by rw[C.N];exact gO hi) l2 l3 l4 h1 h2
   ·exact bU
  ·exact bU
 split
 ·rename_i y a ha
  obtain⟨h1,py,ap,cp,rfl,h2⟩:=yJ ha;split
  ·rename_i i hi
   split
   ·rename_i q
    obtain⟨l1,l2,l3,l4⟩:=gj C.toCxOk q;exact R5 (hE a) (by rw[C.N];exact gO hi) l2 l3 l4 h1 h2
   ·exact bU
  ·exact bU
 split
 ·rename_i y ha
  obtain⟨py,ap,cp,rfl,h2⟩:=D3 ha;split
  ·rename_i i hi
   split
   ·rename_i q
    obtain⟨l1,l2,l3,l4⟩:=gj C.toCxOk q;exact R6 (by rw[C.N];exact gO hi) l2 l3 l4 h2
   ·exact bU
  ·exact bU
 ·split
  ·exact bU
  ·rename_i h
   exact ML (hE e) (kG (by simpa using h))
def val_inv{f:FE}(h:Sa M r L e=some f):∃o ap cp,e=.Call (.Attribute o "values" ap) [] [] cp/\yy M r L o=some f/\(ap.endLine == cp.line)=true:=by
 obtain⟨⟨g,as,ks,cp⟩,h1,h⟩:=dH.mp h;obtain⟨w,h2,h⟩:=dH.mp h;obtain⟨f',h3,h⟩:=dH.mp h
 match as,ks,h1,h with
 |[],[],h1,h=>
  dsimp only at h;split at h
  ·rename_i q
   obtain⟨q1,q4⟩:=q;cases h;rw[fG h1,fq h2,q1];exact⟨_,_,_,rfl,h3,q4⟩
  ·cases h
def D5(C:D0 M ah k L X)(n:Nat){rS:Lc->Ee->FS}(hS:∀MG,jB X MG (tS (M.P.kt X) (rS L MG)))(st:Stmt):PS X st (tS (M.P.kt X) (WK M ah n rS L st)):=by
 obtain⟨hE,hT,hI,hO⟩:=df (M:=M) (ah:=ah) (k:=k) n L X C.toCxOk;cases st with
 |Assign ts e pos=>
  match ts with
  |[]=>exact bU
  |_::_::_=>exact bU
  |[t]=>cases t with
   |Name x _=>exact Hj C n _
   |Tuple es _ _=>exact Hk C n es e
   |Attribute o f _=>exact Hl C n o f e
   |Subscript o b _=>exact Hm C n o b e
   |_=>exact bU
 |AugAssign t op e pos=>exact Hn C n t op e
 |Expr e pos=>exact NF C n e
 |Return o pos=>cases o with
  |none=>exact MK
  |some e=>
   exact Rx (hE _)
 |If c a b pos=>exact Wo (hT _) (hS _) (hS _)
 |For tg it body oe pos=>cases oe with
  |cons _ _=>exact bU
  |nil=>
   show PS X _ (tS (M.P.kt X) (Nu M ah n L (rS L body) tg it));unfold Nu;split
   ·rename_i f hv
    obtain⟨o,ap,cp,rfl,h1,h2⟩:=val_inv hv;obtain⟨b1,b2⟩:=gP C.toCxOk hE h1;exact M7 C.calm b1 (passes C) M.lB b2 h2
   split
   ·exact bU
   ·rename_i h
    split
    ·rename_i g is ht
     obtain⟨gt,q1,q2⟩:=Ko (B:=M.P.kt X) rfl C.calm C.nd (YF C) ht;exact Rz C.calm (hI tg it) q1 q2 (hS body) (passes C) (yF (by simpa using h))
    ·exact bU
 |While c body oe pos=>cases oe with
  |cons _ _=>exact bU
  |nil=>exact GL _ (hT _) (hS _) (passes C)
 |Try body hs oe fb pos=>
  match hs,oe,fb with
  |[],_,_=>exact bU
  |_::_,_::_,_=>exact bU
  |_::_,[],_::_=>exact bU
  |_::_,[],[]=>exact RL C.xe (hS _)
 |Pass _=>exact MI
 |_=>exact bU
theorem iP(n:Nat):∀(m:Nat)(L:Lc)(X:Cx),D0 M ah k L X->∀MG,jB X MG (tS (M.P.kt X) (jj M ah n m L MG))
 |0,_,_,_,_=>Rt
 |m+1,L,X,C,[]=>Ru
 |m+1,L,X,C,[st]=>Rv (D5 C n (iP n m L X C) st)
 |m+1,L,X,C,st::s2::rest=>MH (D5 C n (iP n m L X C) st) (iP n m L X C (s2::rest))
end D
namespace PySem
variable{M:Model}{A:Around}{E:Value->Shared->Prop}{s:Shared}
def Hq{scope:Scope}{globals:Addr}{x:Str}{v:Value}{qual:Str}{func:Option Addr}{code:Value}{builtins:Addr}{Q:Env->Shared->Prop}
  (hk:scope.kind=.function) (hl:scope.names.lookup x=some .local)
  (hQ:∀env,env=newEnv scope s.heap.objs.size globals (cellsFrom (s.heap.objs.size+1) scope.names []) qual func code none builtins ->
   ∀s',InCallC s env.locals (bindL env.kindOf [(x,v)] λ_=>none) env.cells (bindC env.kindOf [(x,v)] λ_=>none) s'->s'.toks≠0->Q env s') :
  wpAny M A (newFunctionEnv scope globals [] [(x,v)] qual func code none builtins) Q E s:=by
 simp only[newFunctionEnv,Option.isSome_none,sD,if_false];refine wpAny_bind (wpAny_alloc ?_);refine wpAny_bind (wpAny_layCells _ (λname kind cells=>by cases hkc:kind == NameKind.cell<;>simp[hkc]) _ _ _ _ ?_)
 have ok:=cellsFrom_ok scope.names (s.heap.push {cls:=.type "frame",data:=.dict #[]}) (s.heap.objs.size+1) [] ⟨λ_ _ hm=>(nomatch hm),BC.nil⟩ (by rw[Heap.size_push];exact c_ _)
 rw[Heap.size_push]at ok;rw[show({s with heap:=s.heap.push {cls:=.type "frame",data:=.dict #[]}}:Shared).heap.objs.size=s.heap.objs.size+1 from Heap.size_push ..]
 have z:InCallC s s.heap.objs.size (λ_=>none) (cellsFrom (s.heap.objs.size+1) scope.names []) (λ_=>none) {s with heap:=pushCells (s.heap.push {cls:=.type "frame",data:=.dict #[]}) scope.names}:=
  ⟨⟨⟨_,_,rfl⟩,(Heap.Ns.new s.heap (.type "frame")).keeps (pushCells_keeps _ _),λb o e=>pushCells_keeps _ _ b o (Heap.get?_push_of_some _ e),c_ _⟩,
   λn c hc=>(ok.empty n c (mem_of_lookup hc)).1,ok.apart,λn c hm=>(ok.empty n c hm).2⟩
 have kd:(newEnv scope s.heap.objs.size globals (cellsFrom (s.heap.objs.size+1) scope.names []) qual func code none builtins).kindOf x=some .local:=hl;rw[Bj];refine wpAny_bind (wpAny_bind (wpAny_bind (wpAny_storeName_local (env:=newEnv scope s.heap.objs.size globals (cellsFrom (s.heap.objs.size+1) scope.names []) qual func code none builtins) kd z.toInCall.ns (λh' U9 Ac=>?_) (by show(scope.kind == _ ||(scope.kind == _&&_))=false;rw[hk];rfl))))
 refine wpAny_pure ?_;show wpAny M A (forIn [] _ _) _ E _;rw[List.forIn_nil];refine wpAny_pure (wpAny_pure (hQ _ rfl _ ?_ (Jk _)));unfold bindL bindC;rw[if_pos kd,if_pos kd];refine⟨⟨?_,U9,λb o e=>?_,z.toInCall.fresh⟩,λk c hc=>?_,z.apart,z.above⟩
 ·exact⟨h',_,rfl⟩
 ·exact Ac.extBut b o (eF (Heap.lt_size e)) (z.toInCall.keep b o e)
 ·exact(z.cell k c hc).sameBut Ac (BH (z.above k c (mem_of_lookup hc)))
end PySem
namespace L2
open PySem PySem.Spec PyProof.Rows
def NG{CX:A0}{P:Program}{w:World}{K:bz}{mg:Str->D1}{base:Heap}{k:Nat}{f:Addr}{name qual x:Str}{params:Arguments}{body:Ee}{scope:Scope}{dV kV doc pm gU ct oc:Value}{an od:Option Addr}
  {z4:Array D1} {N:Bi} {sp:Sp} (lk:K.lookup f=some ⟨oc,od,.func (se name qual params body scope dV kV doc pm an gU ct),z4⟩) (lG:wW K gU qual=true) (S:fk N [x] scope) (hx:scope.names.lookup x=some .local)
  (len:∀vs H Q E,sp vs H Q E->vs.length=1)
  (sP:∀(A:Around)(outer:List Env)(s:Shared)(H:Hp)(vs:List V)(Q:VK)(E:XK),sp vs H Q E ->
   let X:=kj CX P w K mg base N qual scope f gU A outer s H E
   ∀s1,Inv X [] (start N vs) H s1->s1.toks≠0->wpAny (model P w) X.A (execs body X.env) (SP X [] {nx:=λ_ H'=>Q .non H',rt:=Q}) X.xe s1) :
  dh P w K mg base CX (k+1) f (se name qual params body scope dV kV doc pm an gU ct) [x] sp:=by
 refine⟨len,λA outer s H args us vs Q E hr e0 hb r Fx=>?_⟩;have hl:=len _ _ _ _ Fx;have KX:K.In s.heap:=e0.mod.kin.keeps λb o e=>(e0.bs b o e).1;have lim:s.heap.NoLimit:=e0.mod.nolimit.keeps λb o e=>(e0.bs b o e).1;refine codeAny_call_function hr.depth (KX _ _ lk) rfl S.co S.gen rfl (IB KX lG) (hb _ _ _ _ ?_)
 match vs,us,hl,r with
 |[v],[u],_,.cons rv .nil=>
 refine Hq S.kind hx λenv he s1 z tk=>?_;subst he;refine⟨lim.keeps z.toInCall.keep,codeAny_func ?_⟩;have I:Inv (kj CX P w K mg base N qual scope f gU A outer s H E) [] (start N [v]) H s1:=pL S hr.hd e0 rfl (.cons rv .nil) z;refine wpAny_mono (sP A outer s H [v] Q E Fx s1 I tk) (λfl s' hs=>?_) λe s' hs=>hs;have fin:∀{σ':St}{H':Hp}{v:V}{u:Value},Inv (kj CX P w K mg base N qual scope f gU A outer s H E) [] σ' H' s'->RelV v u->Q v H'->CE outer P w H s Q u s':=
  λ{σ' H' v u} J rv q=>⟨v,H',J.os,J.bare,J.base,J.bL,rv,q⟩
 cases fl with
 |ret u=>
  obtain⟨v,σ',H',J,rv,q⟩:=hs;exact fin J rv q
 |next=>
  obtain⟨σ',H',J,q⟩:=hs;exact fin (v:=V.non) (u:=Value.none) J rfl q
 |brk=>obtain⟨_,_,_,q⟩:=hs;exact False.elim q
 |cont=>obtain⟨_,_,_,q⟩:=hs;exact False.elim q
section
variable{X:Cx}{σ:St}{H:Hp}{s:Shared}{D:Ends}{x y z a:Str}{k1 k2:Nat}{p1 p2 p3 p4 p5 p6:Pos}
def D6(I:Inv X [] σ H s)(tk:s.toks≠0)(hN:X.N[0]?=some x)(hx:X.env.kindOf x=some .local)(hv:vd X.env.scope x)(e:σ[0]?=some (some (.str a)))(hl:a.length+(a.length+1)*z.length<=16777216)(ą:(y == z)=false)
  (q:D.rt (.str (Txt.replace a y z)) H) (hd:cu x) (cL:(p2.endLine == p5.line)=true) :
  wpAny (model X.prog X.w) X.A (execs [.Return (some (.Call (.Attribute (.Name x p1) ("replace" : Str) p2) [.Constant (.str y) k1 p3,.Constant (.str z) k2 p4] [] p5)) p6] X.env) (SP X [] D) X.xe s:=by
 have h1:wpAny (model X.prog X.w) X.A (eval (.Call (.Attribute (.Name x p1) ("replace" : Str) p2) [.Constant (.str y) k1 p3,.Constant (.str z) k2 p4] [] p5) X.env) (λu s'=>Inv X [] σ H s'/\RelV (.str (Txt.replace a y z)) u) X.xe s:=by
  refine wpAny_Call_method_late rfl rfl cL rfl ?_;obtain⟨m,hn,xC⟩:=I.loc;obtain⟨u,r,l⟩:=xC 0 x _ hN e hv;obtain⟨t,rfl⟩:=r;have hm:m x=some (.str a t):=by
   rcases l with⟨_,hm⟩|⟨hk,_⟩
   ·exact hm
   ·rcases hk with hk|hk<;>rw[hx]at hk<;>cases hk
  refine wpAny_Name (wpAny_loadName_local I.ok.kind hx hn hm ?_) hd;refine⟨"str","str.replace",F.plainAttrs_str,F.slot_str_replace,F.type_str_replace,typeIs_str _ _ _,(λ_ e=>nomatch e),?_⟩;refine Calls.callWith_builtin rfl (Calls.evalArgs_plain ?_);refine Calls.spliced_cons (Calls.Constant_str (k:=k1) (pos:=p3) (Calls.spliced_cons (Calls.Constant_str (k:=k2) (pos:=p4) (Calls.spliced_nil ?_))));exact SC.replace tk (Jk _) (eF (sC _)) ą hl λt' k=>⟨I.tok _,⟨_,rfl⟩⟩
 refine wpAny_execs_cons (wpAny_Return_some (bX h1 λv s1 ⟨I1,r1⟩=>⟨_,σ,H,I1,r1,q⟩))
end
end L2
namespace D
open PySem L2
def UQ(c:Nat):Fn:=λts m=>match ts with
 |[.str l]=>(aX (gd ((dQ [] (aP c l)).length<=1000000) ())).bind λ_=>.ok (.str (dQ [] (aP c l)),m)
 |_=>.bad
variable{base:Heap}{K:bz}{mg:Str->D1}{w:World}
section
variable{P:Program}{B:KT}
def Sg{x y qual:Str}{st:Stmt}{f:Addr}{fd:FuncData}{N:Bi}{k c k1 k2:Nat}{p1 p2 p3 p4 p5 p6:Pos}(Fn:uh K x qual st f fd)(Sc:fk N [y] (aD st))(hx:(aD st).names.lookup y=some .local)(hd:cu y)
  (hb:bA st=[.Return (some (.Call (.Attribute (.Name y p1) "replace" p2) [.Constant (.str ⟨#[c]⟩) k1 p3,.Constant (.str ⟨#[]⟩) k2 p4] [] p5)) p6]) (cL:(p2.endLine == p5.line)=true):dh P w K mg base ko (k+1) f fd [y] (n_ B (UQ c)):=by
 obtain⟨oc,od,dV,kV,doc,pm,an,gU,ct,z4,rfl,lk,lG⟩:=Fn.ex;refine NG lk lG Sc hx (λvs H Q E h=>?_) λA outer s H vs Q E h s1 I tk=>?_
 ·obtain⟨g,ts,m,t,m',_,r,h,_⟩:=h
  rw[<- r.len]
  match ts,h with
  |[.str l],_=>rfl
 ·obtain⟨g,ts,m,t,m',sr,r,h,q⟩:=h
  match ts,h with
  |[.str l],h=>
  obtain⟨_,e3,h⟩:=aa h;obtain⟨z,_⟩:=aV (ai e3);cases h;obtain⟨v,rfl,rfl,hz⟩:=b_ r;rw[hb];have hN:N[0]?=some y:=by
   have:=Sc.pre
   match N,this with
   |_::_,e=>cases e;rfl
  have e:Txt.replace ⟨l.toArray⟩ ⟨#[c]⟩ ⟨#[]⟩=⟨(dQ [] (aP c l)).toArray⟩:=by
   rw[StrLaws.replace_one,mV];exact join_eq [] _
  have len:=eL l;refine D6 (a:=⟨l.toArray⟩) I tk hN hx (.inl hx) ?_ (by rw[len];show _+_*0<=_;omega) rfl ?_ hd cL
  ·show(L2.start N [SV l])[0]?=_
   unfold L2.start;rfl
  ·rw[e]
   exact q _ g H .refl sr ⟨rfl,z⟩
end
structure Fe where
 cls:Option Str
 x:Str
 qual:Str
 st:Stmt
 N:Bi
 ps:Bi
 mu:Bi
 sl:Bool
 ds:FK
def noFn:Fn:=λ_ _=>.bad
def Sh(b:Bool)(f:Fn):Fn:=if b then aN f else f
def Si:Stmt->Option Expr
 |.Return o _=>o
 |_=>none
def UR(e:Fe):Option Nat:=match bA e.st,e.ps with
 |[st],[y]=>(Si st).bind λv=>(ji v).bind λq=>(fV q.1).bind λw=>(asName w.1).bind λx=>(match q.2.1,q.2.2.1 with
  |[a,b],[]=>(uv a).bind λc=>(uv b).bind λd=>(match c.cps.toList,d.cps.toList with
   |[c],[]=>if x=y/\w.2.1=("replace" : Str)/\(w.2.2.endLine == q.2.2.2.line)=true/\(aD e.st).names.lookup y=some .local/\cu y then some c else none
   |_,_=>none)
  |_,_=>none)
 |_,_=>none
def D7(M:Gm)(ah:Nat->Fn)(e:Fe):Fn:=Sh e.sl (match UR e with
 |some c=>UQ c
 |none=>aF e.ps.length e.N.length (jj M ah 60 200 ⟨e.N,aD e.st,e.mu⟩ (bA e.st)))
def i6(M:Gm)(Ft:List Fe):Nat->Nat->Fn
 |0,_=>noFn
 |n+1,i=>match Ft[i]? with
  |some e=>D7 M (i6 M Ft n) e
  |none=>noFn
section
def D8(K:bz)(x:Str):Option Addr:=match om K mainGlobals x with
 |some (some (.ref a))=>some a
 |_=>none
def jU{x:Str}{a:Addr}(h:D8 K x=some a):om K mainGlobals x=some (some (.ref a)):=by
 unfold D8 at h;split at h
 ·rename_i e;cases h;exact e
 ·cases h
def WU(K:bz)(C:Addr)(m:Str):Option Addr:=match gn K (.ref C) m with
 |some (some (.ref a))=>some a
 |_=>none
def US(K:bz)(C:Addr)(ns:Bi):Bool:=A7 K C Str.empty&&wV K C&&Bb K C&&decide (gn K (.ref C) "__setattr__" = some (some (.builtin "object.__setattr__"))) &&
 decide (gn K (.ref C) "__class__" = some (some (.builtin "object.__class__")))&&decide (Bf K C (.type "object")=some true)&&ns.all (λf=>decide (gn K (.ref C) f=some none))&&decide ns.Nodup&&decide (ns.length<=100)
def subB(K:bz)(cn:Bi)(C:Addr)(l:B1):Bool:=(bM cn.length).all λd=>match cn[d]? with
 |none=>true
 |some n=>(match D8 K n with
  |some D=>decide (sd K (.ref C) (.ref D)=some (decide (d∈l)))
  |none=>false)
def Sj(K:bz)(P:Pg):Bool:=(bM P.cn.length).all λc=>match P.cn[c]? with
 |none=>true
 |some n=>(match D8 K n,P.fn[c]?,P.sub[c]? with
  |some C,some ns,some l=>US K C ns&&subB K P.cn C l
  |_,_,_=>false)
def gtB(K:bz):Bool:=decide (Bd K (.builtin "object.__class__") "__get__" = some (some (.builtin "getset_descriptor.__get__")))&&decide (Be K (.builtin "object.__class__")=some true)
def NH(K:bz)(mg:Str->D1):Prop:=∀x o,om K mainGlobals x=some o->mg x=o
def NI{h:Heap}(X:K.In h)(G:h.Ns mainGlobals mg):NH K mg:=λx o e=>by
 cases o with
 |none=>exact PySem.W.mg_none_of X G e
 |some v=>exact PySem.W.mg_of X G e
def uC{P:Pg}(h:Sj K P=true){c:Nat}{n:Str}(hc:P.cn[c]?=some n):∃C ns l,D8 K n=some C/\P.fn[c]?=some ns/\P.sub[c]?=some l/\US K C ns=true/\subB K P.cn C l=true:=by
 unfold Sj at h
 have:=g_.mp h c (ig.mpr (bD.mp hc).1)
 rw[hc]at this;dsimp only at this;split at this
 ·rename_i C ns l h1 h2 h3
  rw[dq]at this;exact⟨C,ns,l,h1,h2,h3,this.1,this.2⟩
 ·cases this
def rq(g:NH K mg){n:Str}{C:Addr}{ns:Bi}(ha:D8 K n=some C)(h:US K C ns=true):OQ K mg n ns C:=by
 unfold US at h;simp only[dq,decide_eq_true_eq]at h;obtain⟨⟨⟨⟨⟨⟨⟨⟨h1,h2⟩,h3⟩,h4⟩,h5⟩,h6⟩,h7⟩,h8⟩,h9⟩:=h;have a:=jU ha;exact⟨a,g _ _ a,h8,h9,⟨h1,h2,h3,h4⟩,λf hf=>show gn K (.ref C) f=some none from of_decide_eq_true (g_.mp h7 f hf),h5,h6⟩
def Sk{P:Pg}(g:NH K mg)(h:Sj K P=true)(ht:gtB K=true):mX K mg P:=by
 refine⟨λc n ns h1 h2=>?_,λc d n n' C D l h1 h2 h3 h4 h5=>?_,?_⟩
 ·obtain⟨C,E1,l,ha,hn,_,hb,_⟩:=uC h h1
  rw[h2]at hn;cases hn;exact⟨C,rq g ha hb⟩
 ·obtain⟨C',E1,l',ha,_,hl,_,hs⟩:=uC h h1
  rw[h5]at hl;cases hl;have e:=(g _ _ (jU ha)).symm.trans h3;cases e;unfold subB at hs
  have:=g_.mp hs d (ig.mpr (bD.mp h2).1)
  rw[h2]at this;dsimp only at this;split at this
  ·rename_i D' hd
   have e:=(g _ _ (jU hd)).symm.trans h4;cases e;exact of_decide_eq_true this
  ·cases this
 ·unfold gtB at ht
  rw[dq]at ht;exact⟨of_decide_eq_true ht.1,of_decide_eq_true ht.2⟩
def NJ(K:bz)(e:Fe):Option Addr:=match e.cls with
 |none=>D8 K e.x
 |some c=>(D8 K c).bind λC=>WU K C e.x
def Kp(K:bz)(e:Fe):Option FuncData:=(NJ K e).bind λf=>match K.lookup f with
 |some ⟨_,_,.func fd,_⟩=>some fd
 |_=>none
def D9(e:Fe)(fd:FuncData):FuncData:=se e.x e.qual (jG e.st) (bA e.st) (aD e.st) fd.defaults fd.kwdefaults fd.doc fd.pyModule fd.annotations fd.code fd.closureTuple
def YG(e:Fe):Bool:=decide ((aD e.st).kind=.function)&&!(aD e.st).isCoroutine&&!(aD e.st).isGenerator&&decide e.N.Nodup&&decide (e.N.take e.ps.length=e.ps)&&e.ps.all (λx=>decide ((aD e.st).names.lookup x=some .local) ||decide ((aD e.st).names.lookup x=some .cell))&&(aD e.st).names.all (λy=>decide (y.2≠.free))
def yK:T->Value->Bool
 |.int i,.int j _=>decide (i=j)
 |.str l,.str s _=>decide (s.cps.toList=l)&&decide (l.length<=1000000)
 |.bl b,.bool c=>b == c
 |.non,.none=>true
 |_,_=>false
def eG:T->V
 |.int i=>.int i
 |.str l=>SV l
 |.bl b=>.bl b
 |_=>.non
def yL{t:T}{u:Value}(h:yK t u=true):RelV (eG t) u/\∀(B:KT)al H,Rep B al H t (eG t):=by
 unfold yK at h;split at h
 ·have h:=of_decide_eq_true h
  subst h;exact⟨⟨_,rfl⟩,λ_ _ _=>rfl⟩
 ·rename_i l s tk
  rw[dq]at h;have h1:=of_decide_eq_true h.1;subst h1;exact⟨⟨tk,rfl⟩,λ_ _ _=>⟨rfl,of_decide_eq_true h.2⟩⟩
 ·have h:=eq_of_beq h
  subst h;exact⟨rfl,λ_ _ _=>rfl⟩
 ·exact⟨rfl,λ_ _ _=>rfl⟩
 ·cases h
def jk:FK->B2->Bool
 |[],[]=>true
 |t::ts,u::us=>yK t u&&jk ts us
 |_,_=>false
theorem nB:∀{ts:FK}{us:B2},jk ts us=true->Vals (ts.map eG) us/\∀(B:KT)al H,aC B al H ts (ts.map eG)
 |[],[],_=>⟨.nil,λ_ _ _=>rfl⟩
 |t::ts,u::us,h=>by
  rw[jk,dq]at h;obtain⟨a,b⟩:=yL h.1;obtain⟨c,d⟩:=nB h.2;exact⟨.cons a c,λB al H=>⟨_,_,rfl,b B al H,d B al H⟩⟩
 |[],_::_,h=>by cases h
 |_::_,[],h=>by cases h
def WW(K:bz)(ds:FK)(dV:Value):Bool:=match ds with
 |[]=>(match dV with
  |.none=>true
  |_=>false)
 |_::_=>(match dV with
  |.ref a=>(match K.lookup a with
   |some ⟨_,_,.seq its _,_⟩=>jk ds its.toList
   |_=>false)
  |_=>false)
def UT(K:bz)(e:Fe):Bool:=match NJ K e,Kp K e with
 |some f,some fd=>oj K (.ref f)&&A8 K (.ref f)&&wW K fd.code e.qual&&YG e&&WW K e.ds fd.defaults
 |_,_=>false
def Bn(e:Fe):Prop:=match e.ds with
 |[]=>∀(kV doc pm:Value)(an:Option Addr)(gU ct:Value)(us:B2),us.length=e.ps.length->bindArgs (se e.x e.qual (jG e.st) (bA e.st) (aD e.st) .none kV doc pm an gU ct) ⟨us,[]⟩=pure (e.ps.zip us)
 |ds=>∀(kV doc pm:Value)(an:Option Addr)(gU ct:Value)(s:Shared)(a:Addr)(o:Obj)(gf:B2)(n:Nat)(us:B2),s.heap.get? a=some o->o.data=.seq gf.toArray n->gf.length=ds.length->(us++gf).length=e.ps.length ->
  BindsTo s (se e.x e.qual (jG e.st) (bA e.st) (aD e.st) (.ref a) kV doc pm an gU ct) ⟨us,[]⟩ (e.ps.zip (us++gf))
structure uD(K:bz)(e:Fe)(f:Addr)(fd:FuncData):Prop where
 at_:NJ K e=some f
 fn:uh K e.x e.qual e.st f fd
 sc:fk e.N e.ps (aD e.st)
 isf:A8 K (.ref f)=true
 bs:e.ds=[]->∀us:B2,us.length=e.ps.length->bindArgs fd ⟨us,[]⟩=pure (e.ps.zip us)
 bd:∃(gf:B2)(dV:List V),Binds K fd e.ps gf/\Vals dV gf/\∀(B:KT)al H,aC B al H e.ds dV
def uD.bn{e:Fe}{f:Addr}{fd:FuncData}(F:uD K e f fd)(h:e.ds=[]):Binds K fd e.ps []:=.all (F.bs h)
theorem qb:∀{ts:FK}{us:B2},jk ts us=true->us.length=ts.length
 |[],[],_=>rfl
 |t::ts,u::us,h=>by
  rw[jk,dq]at h;simp[qb h.2]
 |[],_::_,h=>by cases h
 |_::_,[],h=>by cases h
def Sl{e:Fe}(h:UT K e=true)(q:Kp K e=(Kp K e).map (D9 e))(b:Bn e):∃f fd,uD K e f fd:=by
 unfold UT at h;split at h
 case h_2=>cases h
 rename_i f fd h1 h2;simp only[dq]at h;obtain⟨⟨⟨⟨h3,h4⟩,h5⟩,h6⟩,h7⟩:=h;rw[h2]at q;injection q with q
 have l:∃oc od z4,K.lookup f=some ⟨oc,od,.func fd,z4⟩:=by
  unfold Kp at h2;rw[h1]at h2;dsimp only[Option.bind]at h2;split at h2
  ·rename_i oc od fd' z4 e
   cases h2;exact⟨oc,od,z4,e⟩
  ·cases h2
 obtain⟨oc,od,z4,l⟩:=l;have F:uh K e.x e.qual e.st f fd:=⟨⟨oc,od,fd.defaults,fd.kwdefaults,fd.doc,fd.pyModule,fd.annotations,fd.code,fd.closureTuple,z4,q,l,h5⟩,h3⟩;have bs:e.ds=[]->∀us:B2,us.length=e.ps.length->bindArgs fd ⟨us,[]⟩=pure (e.ps.zip us):=λh us hl=>by
  unfold Bn at b;rw[h]at b h7;unfold WW at h7;dsimp only at b h7;split at h7
  ·rename_i hd
   rw[q];unfold D9;rw[hd];exact b _ _ _ _ _ _ us hl
  ·cases h7
 have bd:∃(gf:B2)(dV:List V),Binds K fd e.ps gf/\Vals dV gf/\∀(B:KT)al H,aC B al H e.ds dV:=by
  cases E2:e.ds with
  |nil=>exact⟨[],[],.all (bs E2),.nil,λ_ _ _=>rfl⟩
  |cons d ds=>
   unfold Bn at b;rw[E2]at b h7;unfold WW at h7;dsimp only at b h7;split at h7
   case h_2=>cases h7
   rename_i a hd;split at h7
   case h_2=>cases h7
   rename_i oc' od' its n' Uh Ć;obtain⟨v1,v2⟩:=nB h7;refine⟨its.toList,_,λs us KX hl=>?_,v1,λB al H=>v2 B al H⟩;rw[q];unfold D9;rw[hd];exact b _ _ _ _ _ _ s a _ its.toList n' us (KX _ _ Ć) rfl (qb h7) hl
 refine⟨f,fd,h1,F,?_,h4,bs,bd⟩;unfold YG at h6;simp only[dq,decide_eq_true_eq]at h6;obtain⟨⟨⟨⟨⟨⟨g1,g2⟩,g3⟩,g4⟩,g5⟩,g6⟩,g7⟩:=h6;refine⟨g1,by simpa using g2,by simpa using g3,g4,g5,λx hx=>?_,λy hy=>of_decide_eq_true (g_.mp g7 y hy)⟩
 have:=g_.mp g6 x hx
 rw[xo]at this;exact this.imp of_decide_eq_true of_decide_eq_true
end
abbrev Hr:=List (Str×Nat)
section
variable{M:Gm}{Ft:List Fe}{It:Hr}
def WY(e:Fe):Bool:=e.N.all λx=>(decide ((aD e.st).names.lookup x=some .local) ||decide ((aD e.st).names.lookup x=some .cell))&&!p_ x
def Kq{e:Fe}(h:WY e=true):∀(i:Nat)(x:Str),e.N[i]?=some x->vd (aD e.st) x/\cu x/\jA x:=λi x hx=>by
 have:=g_.mp h x (i8 hx)
 rw[dq,xo]at this;refine⟨this.1.elim (λh=>.inl (of_decide_eq_true h)) λh=>.inr (.inl (of_decide_eq_true h)),UP (by simpa using this.2)⟩
def YH(K:bz)(C f:Addr):Bool:=A9 K C&&decide (gn K (.ref C) "__init__" = some (some (.ref f)))&&oj K (.ref C)
def D_(K:bz)(M:Gm)(Ft:List Fe)(It:Hr)(c:Nat)(x:Str)(t:Bi->Fe->Bool):Bool:=match M.P.cn[c]?,M.P.fn[c]?,(It.lookup x).bind λi=>Ft[i]? with
 |some n,some ns,some e=>decide (n=x)&&(match D8 K x,NJ K e with
  |some C,some f=>YH K C f&&e.ds.isEmpty&&t ns e
  |_,_=>false)
 |_,_,_=>false
def YI(n:Nat)(ns:Bi)(e:Fe):Bool:=WY e&&nh e.N 1 (bA e.st) ns&&decide (e.ps.length=ns.length+1)&&decide (ns.length=n)
noncomputable def YJ(K:bz)(ns:Bi)(e:Fe):Bool:=WY e&&decide (e.ps.length=2)&&decide (om K mainGlobals "list" = some none)&&decide ((aD e.st).names.lookup ("list" : Str)=some .globalImplicit)&&(match bA e.st with
 |[RH]=>(match rf RH with
  |some (s0,n,q)=>decide (ns=[n])&&decide (e.N[0]?=some s0)&&decide (e.N[1]?=some q)
  |none=>false)
 |_=>false)
noncomputable def UU(K:bz)(M:Gm)(Ft:List Fe)(It:Hr)(x:Str):Ck->Bool
 |.fz c n=>D_ K M Ft It c x (YI n)
 |.z0 c=>(match M.P.cn[c]?,D8 K x with
  |some n,some C=>decide (n=x)&&A9 K C&&decide (gn K (.ref C) "__init__" = some (some (.builtin "object.__init__")))&&oj K (.ref C)
  |_,_=>false)
 |.cp c=>D_ K M Ft It c x (YJ K)
 |.nw c i=>decide (It.lookup x=some i)&&D_ K M Ft It c x λ_ _=>true
def WZ:FK->FK->Bool
 |[],[]=>true
 |[.int i],[.int j]=>decide (i=j)
 |_,_=>false
def Hs{a b:FK}(h:WZ a b=true):a=b:=by
 unfold WZ at h;split at h
 ·rfl
 ·rw[of_decide_eq_true h]
 ·cases h
def W0(K:bz)(Ft:List Fe)(p:Str×FK×Nat):Bool:=match Ft[p.2.2]? with
 |some e=>decide (e.cls=none)&&decide (e.x=p.1)&&WZ p.2.1 e.ds
 |none=>false
noncomputable def W2(K:bz)(M:Gm)(Ft:List Fe)(m:Str)(p:Nat×Nat):Bool:=match M.P.cn[p.1]?,M.P.fn[p.1]?,Ft[p.2]? with
 |some n,some ns,some e=>(match D8 K n,NJ K e with
  |some C,some f=>decide (gn K (.ref C) m=some (some (.ref f)))&&e.ds.isEmpty&&!ns.contains m
  |_,_=>false)
 |_,_,_=>false
def NK(K:bz)(M:Gm)(Ft:List Fe)(It:Hr):Bool:=Sj K M.P&&gtB K&&Ft.all (UT K)&&M.fs.all (W0 K Ft)&&M.cl.all (λp=>UU K M Ft It p.1 p.2)&&M.ms.all (λp=>p.2.all (W2 K M Ft p.1))&&M.bl.all (λx=>decide (om K mainGlobals x=some none))
structure ModOk(K:bz)(M:Gm)(Ft:List Fe)(It:Hr):Prop where
 b:NK K M Ft It=true
 q:Ft.map (Kp K)=Ft.map λe=>(Kp K e).map (D9 e)
 bn:∀e∈Ft,Bn e
theorem Ea{α β:Type}{f g:α->β}:∀{l:List α},l.map f=l.map g->∀a∈l,f a=g a
 |[],_,a,h=>by simp at h
 |b::l,e,a,h=>by
  rw[dO,dO]at e;injection e with e1 e2
  rcases cA.mp h with rfl|h
  ·exact e1
  ·exact Ea e2 a h
def ModOk.split(O:ModOk K M Ft It):Sj K M.P=true/\gtB K=true/\(∀e∈Ft,UT K e=true)/\(∀p∈M.fs,W0 K Ft p=true)/\(∀p∈M.cl,UU K M Ft It p.1 p.2=true)/\(∀p∈M.ms,∀q∈p.2,W2 K M Ft p.1 q=true)/\∀x∈M.bl,om K mainGlobals x=some none:=by
 have h:=O.b;unfold NK at h;simp only[dq]at h;obtain⟨⟨⟨⟨⟨⟨h1,h2⟩,h3⟩,h4⟩,h5⟩,h6⟩,h7⟩:=h;exact⟨h1,h2,g_.mp h3,g_.mp h4,g_.mp h5,λp hp=>g_.mp (g_.mp h6 p hp),λx hx=>of_decide_eq_true (g_.mp h7 x hx)⟩
def ModOk.fe(O:ModOk K M Ft It){e:Fe}(h:e∈Ft):∃f fd,uD K e f fd:=Sl (O.split.2.2.1 e h) (Ea O.q e h) (O.bn e h)
def Ht{B:KT}{P:Program}{w:World}{base:Heap}{k:Nat}{f:Addr}{fd:FuncData}{ps:Bi}:dh P w K mg base ko k f fd ps (n_ B noFn):=
 ⟨λvs H Q E ⟨_,_,_,_,_,_,_,h,_⟩=>(by cases h),λ_ _ _ _ _ _ _ _ _ _ _ _ _ ⟨_,_,_,_,_,_,_,h,_⟩=>(by cases h)⟩
def wo(g:NH K mg)(O:ModOk K M Ft It){c:Nat}{x:Str}{t:Bi->Fe->Bool}(h:D_ K M Ft It c x t=true):∃C ns e i f fd,M.P.cn[c]?=some x/\M.P.fn[c]?=some ns/\It.lookup x=some i/\Ft[i]?=some e/\uD K e f fd/\Mk K C f/\OQ K mg x ns C/\t ns e=true/\e.ds=[]:=by
 unfold D_ at h;split at h
 case h_2=>cases h
 rename_i n ns e h1 h2 h3;obtain⟨i,h4,h5⟩:=dH.mp h3;rw[dq]at h;obtain⟨hn,h⟩:=h;have hn:=of_decide_eq_true hn;subst hn;split at h
 case h_2=>cases h
 rename_i C f h6 h7;rw[dq]at h;obtain⟨f',fd,F⟩:=O.fe (i8 h5)
 have:=F.at_.symm.trans h7
 cases this;obtain⟨C',E1,l,g1,g2,_,g3,_⟩:=uC O.split.1 h1;rw[h6]at g1;cases g1;rw[h2]at g2;cases g2;unfold YH at h;simp only[dq,decide_eq_true_eq]at h;exact⟨C,ns,e,i,_,fd,h1,h2,h4,h5,F,⟨h.1.1.1.1,h.1.1.1.2,F.isf,h.1.1.2⟩,rq g h6 g3,h.2,BB.mp h.1.2⟩
def AA{α:Type}{l:List (Nat×α)}{x:Nat}{a:α}(h:l.lookup x=some a):(x,a)∈l:=by
 induction l with
 |nil=>simp at h
 |cons p l ih=>
  obtain⟨q,b⟩:=p;rw[i_]at h;split at h
  ·rename_i e
   cases h;rw[eq_of_beq e];exact ee ..
  ·exact dX _ (ih h)
variable{Pr:Program}
def OQ.Eb{P:Pg}{c:Nat}{x:Str}{ns:Bi}{C:Addr}(F:OQ K mg x ns C)(h1:P.cn[c]?=some x)(h2:P.fn[c]?=some ns):ib (iX P K Pr w) c C ns:=⟨x,h1,h2,F.nd,F.at_⟩
def NL{e:Fe}{c:Nat}(h:UR e=some c):∃y p1 p2 p3 p4 p5 p6 k1 k2,e.ps=[y]/\(aD e.st).names.lookup y=some .local/\cu y /\
  bA e.st=[.Return (some (.Call (.Attribute (.Name y p1) "replace" p2) [.Constant (.str ⟨#[c]⟩) k1 p3,.Constant (.str ⟨#[]⟩) k2 p4] [] p5)) p6]/\(p2.endLine == p5.line)=true:=by
 unfold UR at h
 match hb:bA e.st,hp:e.ps,h with
 |[st],[y],h=>
  obtain⟨v,h0,h⟩:=dH.mp h;obtain⟨⟨f,as,ks,cp⟩,h1,h⟩:=dH.mp h;obtain⟨w,h2,h⟩:=dH.mp h;obtain⟨y',h3,h⟩:=dH.mp h
  match as,ks,h1,h with
  |[a,b],[],h1,h=>
   obtain⟨⟨⟨c'⟩⟩,h4,h⟩:=dH.mp h;obtain⟨⟨⟨d⟩⟩,h5,h⟩:=dH.mp h
   match c',d,h4,h5,h with
   |[_],[],h4,h5,h=>
    dsimp only at h;split at h
    ·rename_i q
     obtain⟨q1,q2,q3,q4,q5⟩:=q;cases h;obtain⟨py,h3⟩:=c7 h3;obtain⟨k1,p3,h4⟩:=str_inv h4;obtain⟨k2,p4,h5⟩:=str_inv h5;cases st<;>first|(cases h0;done)|skip
     cases(show _=some v from h0);rw[fG h1,fq h2,h3,q1,q2,h4,h5];exact⟨_,_,_,_,_,_,_,_,_,rfl,q4,q5,rfl,q3⟩
    ·cases h
def Hu{e:Fe}{f:Addr}{fd:FuncData}{ah:Nat->Fn}{k:Nat}(F:uD K e f fd)(G:DP M Pr w K mg base ah k):dh Pr w K mg base ko (k+2) f fd e.ps (n_ (iX M.P K Pr w) (D7 M ah e)):=by
 have main:dh Pr w K mg base ko (k+2) f fd e.ps (n_ (iX M.P K Pr w) (aF e.ps.length e.N.length (jj M ah 60 200 ⟨e.N,aD e.st,e.mu⟩ (bA e.st)))):=by
  refine MM F.fn F.sc λgU A outer s H E hr=>?_;exact iP 60 200 ⟨e.N,aD e.st,e.mu⟩ (kj ko Pr w K mg base e.N e.qual (aD e.st) f gU A outer s H E).JI ⟨⟨G,rfl,rfl,rfl,k+1,c_ _,hr⟩,λ_=>rfl,F.sc.nd,rfl⟩ (bA e.st)
 have main:dh Pr w K mg base ko (k+2) f fd e.ps (n_ (iX M.P K Pr w) (match UR e with
  |some c=>UQ c
  |none=>aF e.ps.length e.N.length (jj M ah 60 200 ⟨e.N,aD e.st,e.mu⟩ (bA e.st)))):=by
  split
  ·rename_i c h
   obtain⟨y,p1,p2,p3,p4,p5,p6,k1,k2,h1,h2,h3,h4,h5⟩:=NL h;have sc:=F.sc;rw[h1]at sc ⊢;exact Sg F.fn sc h2 h3 h4 h5
  ·exact main
 unfold D7 Sh;split
 ·exact GN main
 ·exact main
def yM{n:Nat}{i:Nat}{e:Fe}{f:Addr}{fd:FuncData}(F:uD K e f fd)(he:Ft[i]?=some e)(h:∀m,n=m+1->DP M Pr w K mg base (i6 M Ft m) (2*m+1)):dh Pr w K mg base ko (2*n+1) f fd e.ps (n_ (iX M.P K Pr w) (i6 M Ft n i)):=by
 cases n with
 |zero=>exact Ht
 |succ m=>
  have:=Hu F (h m rfl)
  unfold i6;rw[he];exact this
def NN(g:NH K mg)(O:ModOk K M Ft It)(hc:∀x t,M.cs.lookup x=some t->yq K mg x t):∀n,DP M Pr w K mg base (i6 M Ft n) (2*n+1):=by
 intro n
 induction n using Nat.strongRecOn with
 |ind n ih=>
 have call:∀{i:Nat}{e:Fe}{f:Addr}{fd:FuncData},uD K e f fd->Ft[i]?=some e->dh Pr w K mg base ko (2*n+1) f fd e.ps (n_ (iX M.P K Pr w) (i6 M Ft n i)):=λF he=>yM F he λm hm=>ih m (by omega)
 obtain⟨o1,o2,o3,o4,o5,o6,o7⟩:=O.split;have pg:=Sk g o1 o2;refine⟨pg,hc,λx ds i h=>?_,λx c k h=>?_,λx c h=>?_,λx c h=>?_,λx c i h=>?_,λm l c i h1 h2=>?_,λx h=>g x none (o7 x h)⟩
 ·have q:=o4 _ (dw h)
  unfold W0 at q;dsimp only at q;split at q
  case h_2=>cases q
  rename_i e he;rw[dq,dq]at q;obtain⟨⟨q2,q3⟩,q1⟩:=q;have q2:=of_decide_eq_true q2;have q3:=of_decide_eq_true q3;subst q3;obtain⟨f,fd,F⟩:=O.fe (i8 he);have ha:=F.at_;unfold NJ at ha;rw[q2]at ha;obtain⟨gf,dV,b1,b2,b3⟩:=F.bd;exact⟨f,fd,e.ps,gf,dV,call F he,g _ _ (jU ha),F.fn.kp,b1,b2,λal H=>Hs q1▸b3 _ al H⟩
 ·obtain⟨C,ns,e,i,f,fd,c1,c2,c3,c4,F,m,cl,q,q9⟩:=wo g O (o5 _ (dw h))
  unfold YI at q;simp only[dq,decide_eq_true_eq]at q;obtain⟨⟨⟨q1,q2⟩,q3⟩,q4⟩:=q;exact⟨C,f,fd,e.ps,ns,cl.Eb c1 c2,q4,cl.gl,m,q_ F.fn F.sc (Kq q1) q2 q3 cl.cl cl.na cl.nd cl.pY,F.bn q9⟩
 ·have q:=o5 _ (dw h)
  unfold UU at q;dsimp only at q;split at q
  case h_2=>cases q
  rename_i n' C h1 h2;simp only[dq,decide_eq_true_eq]at q;obtain⟨⟨⟨q1,q2⟩,q3⟩,q4⟩:=q;subst q1;obtain⟨C',ns,l,g1,g2,_,g3,_⟩:=uC o1 h1;rw[h2]at g1;cases g1;have cl:=rq g h2 g3;exact⟨C,ns,cl.Eb h1 g2,cl.gl,q2,q3,q4⟩
 ·obtain⟨C,ns,e,i,f,fd,c1,c2,c3,c4,F,m,cl,q,q9⟩:=wo g O (o5 _ (dw h))
  unfold YJ at q;simp only[dq,decide_eq_true_eq]at q;obtain⟨⟨⟨⟨q1,q2⟩,q3⟩,q4⟩,q5⟩:=q;split at q5
  case h_2=>cases q5
  rename_i RH hb;split at q5
  case h_2=>cases q5
  rename_i s0 n' q' hi;simp only[dq,decide_eq_true_eq]at q5;obtain⟨⟨r1,r2⟩,r3⟩:=q5;subst r1;exact⟨C,f,fd,e.ps,n',cl.Eb c1 c2,cl.gl,m,Ds F.fn F.sc hb hi r2 r3 (Kq q1) (g _ _ q3) q4 q2 cl.cl (cl.na _ (ee ..)),F.bn q9⟩
 ·have q:=o5 _ (dw h)
  unfold UU at q;dsimp only at q;rw[dq]at q;obtain⟨q0,q⟩:=q;have q0:=of_decide_eq_true q0;obtain⟨C,ns,e,i',f,fd,c1,c2,c3,c4,F,m,cl,_,q9⟩:=wo g O q;rw[q0]at c3;cases c3;exact⟨C,f,fd,e.ps,ns,cl.Eb c1 c2,cl.gl,m,call F c4,F.bn q9⟩
 ·have q:=o6 _ (dw h1) (c,i) (AA h2)
  unfold W2 at q;dsimp only at q;split at q
  case h_2=>cases q
  rename_i n' ns e d1 d2 d3;split at q
  case h_2=>cases q
  rename_i C f d4 d5;rw[dq,dq]at q;obtain⟨⟨q1,q9⟩,q2⟩:=q;obtain⟨C',E1,l',g1,g2,_,g3,_⟩:=uC o1 d1;rw[d4]at g1;cases g1;rw[d2]at g2;cases g2;have cl:=rq g d4 g3;obtain⟨f',fd,F⟩:=O.fe (i8 d3)
  have:=F.at_.symm.trans d5
  cases this;exact⟨C,_,fd,e.ps,ns,cl.Eb d1 d2,cl.cl,⟨of_decide_eq_true q1,F.isf,F.fn.kp⟩,call F d3,F.bn (BB.mp q9),λz=>by rw[BA.mpr z]at q2;cases q2⟩
end
section
variable{M:Gm}{Ft:List Fe}{It:Hr}
def Hv(K:bz)(p:Str×T):Bool:=match om K mainGlobals p.1 with
 |some (some u)=>(match p.2,u with
  |.tup ts,.ref a=>(match K.lookup a with
   |some ⟨.type c,_,.seq its _,_⟩=>decide (c = "tuple")&&decide (its.size<=sizeLine)&&jk ts its.toList
   |_=>false)
  |t,u=>yK t u)
 |_=>false
def NO(g:NH K mg){x:Str}{t:T}(h:Hv K (x,t)=true):yq K mg x t:=by
 unfold Hv at h;dsimp only at h;split at h
 case h_2=>cases h
 rename_i u hu;have hm:=g _ _ hu;split at h
 ·rename_i ts a
  split at h
  ·rename_i c od its n sl hl
   simp only[dq,decide_eq_true_eq]at h;obtain⟨⟨h1,h2⟩,h3⟩:=h;subst h1;obtain⟨v1,v2⟩:=nB h3;exact⟨_,.ref a,hm,rfl,λB al H hB=>⟨a,ts.map eG,rfl,.inr ⟨_,its,n,hB▸hl,rfl,rfl,h2,v1⟩,v2 B al H⟩⟩
  ·cases h
 ·obtain⟨v1,v2⟩:=yL h
  exact⟨u,eG t,hm,v1,λB al H _=>v2 B al H⟩
structure Ec(K:bz)(M:Gm)(Ft:List Fe)(It:Hr):Prop extends ModOk K M Ft It where
 cs:M.cs.all (Hv K)=true
variable{Pr:Program}
def Hw(g:NH K mg)(O:Ec K M Ft It)(n:Nat):DP M Pr w K mg base (i6 M Ft n) (2*n+1):=NN g O.toModOk (λx t h=>NO g (g_.mp O.cs _ (dw h))) n
def Hx{B:KT}{f:Fn}{k:Nat}(ns:Dx)(h:∃m',f [.scr ns] []=.ok (.bl true,m')){H:Hp}{a:Addr}(hO:LJ H)(hS:cV B.K H a (ns.map V.int)):n_ B f [.ref a] H (λv _=>v=.bl true) λ_ _ _=>False:=by
 obtain⟨m',h⟩:=h;refine⟨⟨H,λ_=>none,[]⟩,[.scr ns],[],_,m',⟨λ_ _ e=>e,λb p e=>(by cases e),rfl,λk ob e=>(by simp at e)⟩,⟨_,_,rfl,⟨a,rfl,hS⟩,rfl⟩,h,λv g' H' _ _ r=>r⟩
end
def Sm{l:PySem.W.OpenLaw}{m n:Nat}{q:Program}{loose:Bi}{XP:(Str->D1)->Heap->Prop}{YP:World->Heap->Prop}{d:DefRec}{K:Params->bz}{M:Gm}{Ft:List Fe}{It:Hr}{i:Nat}{e:Fe}
  (hn:l.most=some m) (hm:m<=sizeLine) (ć:d.params.defaults=[]) (hr:b8 (2*n+1) callerA) (hY:∀(w:World)(h:Heap),YP w h->(K w.params).In h)
  (he:Ft[i]?=some e) (hp:e.ps=[("_law_script" : Str)]) (hx:e.x=d.name) (Ab:e.cls=none) (E2:e.ds=[]) (O:∀P,Ec (K P) M Ft It) (hT:∀ns:Dx,ns.length<=m->(∀i∈ns,i.natAbs.log2<1048577)->∃m',i6 M Ft n i [.scr ns] []=.ok (.bl true,m')) :
  PySem.W.WalkO q loose XP YP l.row.toRowW d [] (λf vs=>PySem.call f vs):=by
 intro w s₀ s₁ mg mb G Y fa o pm cd doc dV kV ho hd lG hD Ĉ hg args vals as FU W3 hrd LI hlo
 obtain rfl:dV=.none:=ID.none hD ć
 obtain rfl:kV=.none:=ID.noKw hD
 obtain⟨a,vs,ns,rfl,rfl,W4,hints,bZ⟩:=Att.z9 hn FU LI;have bits:∀i∈ns,i.natAbs.log2<1048577:=λi hi=>by
  have h1:=PySem.W.layableW_item (PySem.W.layableW_arg W3 _ (kc.mpr rfl)) (.int i) (ez.mpr ⟨i,hi,rfl⟩);have h2:=PyData.bits_of_layable (PyProof.Rows.Da.lay0_int (PySem.W.layable_int h1));unfold Builtin.Int.intBits at h2;split at h2
  ·rename_i z
   rw[show i=0 from of_decide_eq_true z];decide
  ·omega
 refine PySem.W.enter_call (codeAny_mono (?_:codeAny (model l.prog w) callerA (.call (.ref fa) ⟨[.ref a],[]⟩) (λr s'=>r=.ok (.ret (.bool true))/\OldK s₁.heap s'.heap/\s'.os=s₁.os/\PyProof.Rows.AllBare s'.gens) s₁) λr s' hq=>?_)
 ·have KX:=hY w _ Y
  have g:=NI KX G.T.g;obtain⟨f,fd,F⟩:=(O w.params).fe (i8 he);have ha:=F.at_;unfold NJ at ha;rw[Ab]at ha;have ea:=(g _ _ (jU ha)).symm.trans (hx▸Ĉ);cases ea;refine Cv (k:=2*n+1) (fd:=fd) (x:=("_law_script" : Str)) (CX:=ko) (sp:=n_ (iX M.P (K w.params) l.prog w) (i6 M Ft n i)) KX G.T.g G.T.b G.T.builtins G.T.nolimit hg W4 hints (gx bZ hm) hr (λbase KB GB=>?_) (λs u=>?_) (λH hO hS=>Hx (k:=0) ns (hT ns bZ bits) hO hS) λ_ _ _ z=>z
  ·have:=yM (Pr:=l.prog) (w:=w) (base:=base) (mg:=mg) F he (n:=n) λm hm=>Hw g (O w.params) m
   rw[hp]at this;exact this
  ·have:=F.bs E2 [u] (by rw[hp];rfl)
   rw[hp]at this;exact .of_eq this
 ·obtain⟨rfl,h2,h3,h4⟩:=hq
  exact⟨.inl ⟨.bool true,.bool true,[],rfl,λ_=>rfl,.bool true,Att.z_ l _,λ_=>⟨BC.nil,λ_ hm=>(nomatch hm)⟩⟩,h2,h3,h4⟩
end D
namespace D
def bI{α β:Type}(a:α)(f:α->Res β):Res.bind (.ok a) f=f a:=rfl
def rA{α:Type}(a:α):aX (some a)=.ok a:=rfl
section
variable{a b:FS}{s s':S}{r:Res (Out×S)}{t:T}{c:FT}{np n:Nat}{ts:FK}{m m':FV}{e:FE}
def seq1(h:a s=.ok (.nx,s'))(k:b s'=r):af a b s=r:=by unfold af;rw[h];exact k
def Ed(h:a s=.ok (.rt t,s')):af a b s=.ok (.rt t,s'):=by unfold af;rw[h];rfl
def A4(h:c s=.ok (true,s'))(k:a s'=r):aY c a b s=r:=by unfold aY;rw[h];exact k
def o8(h:c s=.ok (false,s'))(k:b s'=r):aY c a b s=r:=by unfold aY;rw[h];exact k
def fD(h:e s=.ok (t,s')):aA e s=.ok (.rt t,s'):=by unfold aA;rw[h];rfl
def eB(h:ts.length=np)(k:b ⟨ts.map (λt=>some (.val t))++dM (n-ts.length) none,m⟩=.ok (.rt t,s'))(hm:s'.m=m'):aF np n b ts m=.ok (t,m'):=by
 unfold aF;rw[if_pos h,k,<- hm];rfl
def wu(h:ts.length=np)(k:b ⟨ts.map (λt=>some (.val t))++dM (n-ts.length) none,m⟩=.ok (.nx,s'))(hm:s'.m=m'):aF np n b ts m=.ok (.non,m'):=by
 unfold aF;rw[if_pos h,k,<- hm];rfl
def qc{g:Fn}(h:aI ts=true)(k:g ts []=.ok (t,m'))(ht:noOwn t=true):aN g ts m=.ok (t,m):=by
 unfold aN;rw[if_pos h,k];exact if_pos ht
def gX{g:Fn}{ds:FK}{fl:FL}(h:fl s=.ok (ts,s'))(k:g (ts++ds) s'.m=.ok (t,m')):av g ds fl s=.ok (t,⟨s'.r,m'⟩):=by
 unfold av;rw[h];show(match g (ts++ds) s'.m with|.ok q=>_|.bad=>_|.exc c fs s'=>_)=_;rw[k]
end
def uE{g:Nat->Option Fn}{o:FE}{fl:FL}{k:Nat}{ob:Ob}{f:Fn}{ts:FK}{t:T}{s s1 s2:S}{m':FV}(h:o s=.ok (.own k,s1))(hm:s1.m[k]?=some ob)(hg:g ob.c=some f)(ha:fl s1=.ok (ts,s2))(hc:f (.own k::ts) s2.m=.ok (t,m')) :
  au g o fl s=.ok (t,⟨s2.r,m'⟩):=by
 unfold au;rw[h];show Res.bind (aX ((s1.m[k]?).bind λob=>g ob.c)) _=_;rw[hm];show Res.bind (aX (g ob.c)) _=_;rw[hg];refine Eq.trans (bI f _) ?_;exact gX (ts:=.own k::ts) (s':=s2) (by rw[ha];rfl) (by rw[cJ];exact hc)
def gQ{α:Type}{p:Prop}[Decidable p]{x:α}(h:p):gd p x=some x:=if_pos h
def ev:(∀t s,cF t s=.ok (t,s))/\(∀g a s,dN g a s=(a s).bind λp=>(aX (g p.1)).bind λt=>.ok (t,p.2))/\(∀g a b s,bw g a b s=(a s).bind λp=>(b p.2).bind λq=>(aX (g p.1 q.1)).bind λt=>.ok (t,q.2)) /\
  (∀s,bg s=.ok ([],s))/\(∀a r s,cO a r s=(a s).bind λp=>(r p.2).bind λq=>.ok (p.1::q.1,q.2))/\(∀g a s,bV g a s=(a s).bind λp=>(aX (g p.1)).bind λt=>.ok (t,p.2)) /\
  (∀a s,tB a s=(a s).bind λp=>(aX (Gh p.1)).bind λb=>.ok (b,p.2))/\(∀a s,bW a s=(a s).bind λp=>(aX (OL p.1)).bind λb=>.ok (b,p.2))/\(∀a s,dC a s=(a s).bind λp=>.ok (!p.1,p.2)) /\
  (∀s,r9 s=.ok (none,s))/\(∀a s,gW a s=(a s).bind λp=>(aX (QD p.1)).bind λi=>.ok (some i,p.2))/\(∀a lo hi s,j8 a lo hi s=(a s).bind λp=>(lo p.2).bind λq=>(hi q.2).bind λz=>(aX (EZ q.1 z.1 p.1)).bind λt=>.ok (t,z.2)) /\
  (∀i a s,aE i a s=(a s).bind λp=>.ok (.nx,j7 p.2 i (.val p.1)))/\(∀a s,aJ a s=(a s).bind λp=>.ok (.nx,p.2))/\(∀s,aG s=.ok (.nx,s)) /\
  (∀r m i c,j7 ⟨r,m⟩ i c=⟨r.set i (some c),m⟩)/\(∀f o fl s,nZ f o fl s=(o s).bind λp=>(aX (GD p.1)).bind λl=>(fl p.2).bind λq=>(aX (f l q.1)).bind λt=>.ok (t,q.2)) /\
  (∀t,Gh (.bl t)=some t)/\(∀t,OL (.bl t)=some t)/\(∀i,QD (.int i)=some i)/\(∀l,GD (.str l)=some l):=
 ⟨λ_ _=>rfl,λ_ _ _=>rfl,λ_ _ _ _=>rfl,λ_=>rfl,λ_ _ _=>rfl,λ_ _ _=>rfl,λ_ _=>rfl,λ_ _=>rfl,λ_ _=>rfl,λ_=>rfl,λ_ _=>rfl,λ_ _ _ _=>rfl,λ_ _ _=>rfl,λ_ _=>rfl,λ_=>rfl,λ_ _ _ _=>rfl,λ_ _ _ _=>rfl,λ_=>rfl,λ_=>rfl,λ_=>rfl,λ_=>rfl⟩
def uF:(∀r m t,vF 0 ⟨some (.val t)::r,m⟩=.ok (t,⟨some (.val t)::r,m⟩))/\(∀x0 r m t,vF 1 ⟨x0::some (.val t)::r,m⟩=.ok (t,⟨x0::some (.val t)::r,m⟩))/\(∀x0 x1 r m t,vF 2 ⟨x0::x1::some (.val t)::r,m⟩=.ok (t,⟨x0::x1::some (.val t)::r,m⟩))/\(∀x0 x1 x2 r m t,vF 3 ⟨x0::x1::x2::some (.val t)::r,m⟩=.ok (t,⟨x0::x1::x2::some (.val t)::r,m⟩))/\(∀x0 x1 x2 x3 r m t,vF 4 ⟨x0::x1::x2::x3::some (.val t)::r,m⟩=.ok (t,⟨x0::x1::x2::x3::some (.val t)::r,m⟩))/\(∀x0 x1 x2 x3 x4 r m t,vF 5 ⟨x0::x1::x2::x3::x4::some (.val t)::r,m⟩=.ok (t,⟨x0::x1::x2::x3::x4::some (.val t)::r,m⟩))/\(∀x0 x1 x2 x3 x4 x5 r m t,vF 6 ⟨x0::x1::x2::x3::x4::x5::some (.val t)::r,m⟩=.ok (t,⟨x0::x1::x2::x3::x4::x5::some (.val t)::r,m⟩))/\(∀x0 x1 x2 x3 x4 x5 x6 r m t,vF 7 ⟨x0::x1::x2::x3::x4::x5::x6::some (.val t)::r,m⟩=.ok (t,⟨x0::x1::x2::x3::x4::x5::x6::some (.val t)::r,m⟩))/\(∀y r c,sf (α:=Option C) (y::r) 0 c=c::r)/\(∀x0 y r c,sf (α:=Option C) (x0::y::r) 1 c=x0::c::r)/\(∀x0 x1 y r c,sf (α:=Option C) (x0::x1::y::r) 2 c=x0::x1::c::r)/\(∀x0 x1 x2 y r c,sf (α:=Option C) (x0::x1::x2::y::r) 3 c=x0::x1::x2::c::r)/\(∀x0 x1 x2 x3 y r c,sf (α:=Option C) (x0::x1::x2::x3::y::r) 4 c=x0::x1::x2::x3::c::r)/\(∀x0 x1 x2 x3 x4 y r c,sf (α:=Option C) (x0::x1::x2::x3::x4::y::r) 5 c=x0::x1::x2::x3::x4::c::r)/\(∀x0 x1 x2 x3 x4 x5 y r c,sf (α:=Option C) (x0::x1::x2::x3::x4::x5::y::r) 6 c=x0::x1::x2::x3::x4::x5::c::r)/\(∀x0 x1 x2 x3 x4 x5 x6 y r c,sf (α:=Option C) (x0::x1::x2::x3::x4::x5::x6::y::r) 7 c=x0::x1::x2::x3::x4::x5::x6::c::r):=
 ⟨λ_ _ _=>rfl,λ_ _ _ _=>rfl,λ_ _ _ _ _=>rfl,λ_ _ _ _ _ _=>rfl,λ_ _ _ _ _ _ _=>rfl,λ_ _ _ _ _ _ _ _=>rfl,λ_ _ _ _ _ _ _ _ _=>rfl,λ_ _ _ _ _ _ _ _ _ _=>rfl,λ_ _ _=>rfl,λ_ _ _ _=>rfl,λ_ _ _ _ _=>rfl,λ_ _ _ _ _ _=>rfl,λ_ _ _ _ _ _ _=>rfl,λ_ _ _ _ _ _ _ _=>rfl,λ_ _ _ _ _ _ _ _ _=>rfl,λ_ _ _ _ _ _ _ _ _ _=>rfl⟩
end D
namespace D
open PySem L2 PyProof.Rows
def Kr(l:B1):(⟨l.toArray⟩:Str).length=l.length:=by show l.toArray.size=_;simp
open PySem.StrLaws in
theorem uG(s sub:Str)(hi:Nat):∀(l:B1)(a fr:Nat),(forIn l ((#[a]:Array Nat),fr) (occBody s sub hi 1)).run.fst=#[a]
 |[],_,_=>rfl
 |b::l,a,fr=>by
  rw[Bj];unfold occBody;rw[if_neg (by simp)]
  exact uG s sub hi l a fr
open PySem.StrLaws Builtin.Str in
theorem occ_first(s sub:Str)(hi:Nat):∀(n lo fr:Nat),fr<=lo ->
  ((forIn (gu lo n) ((#[]:Array Nat),fr) (occBody s sub hi 1)).run.fst=#[]/\∀i,lo<=i->i<lo+n->¬ (i+sub.length<=hi/\subAt s sub i=true)) \/
  ∃i,(forIn (gu lo n) ((#[]:Array Nat),fr) (occBody s sub hi 1)).run.fst=#[i]/\lo<=i/\i<lo+n/\(i+sub.length<=hi/\subAt s sub i=true)/\∀j,lo<=j->j<i->¬ (j+sub.length<=hi/\subAt s sub j=true)
 |0,lo,fr,_=>.inl ⟨rfl,λi a b=>by omega⟩
 |n+1,lo,fr,h=>by
  rw[BD,Bj];by_cases hc:lo+sub.length<=hi/\subAt s sub lo=true
  ·right
   refine⟨lo,?_,c_ _,by omega,hc,λj a b=>by omega⟩
   unfold occBody;rw[if_pos ⟨⟨⟨by simp,h⟩,hc.1⟩,hc.2⟩]
   exact uG s sub hi _ lo _
  ·have e:∀k,(occBody s sub hi 1 lo ((#[]:Array Nat),fr) >>= k:Id (Array Nat×Nat))=k (ForInStep.yield ((#[]:Array Nat),fr)):=λk=>by
    unfold occBody;rw[if_neg (λz=>hc ⟨z.1.2,z.2⟩)];rfl
   rw[e];rcases occ_first s sub hi n (lo+1) fr (by omega)with⟨a,b⟩|⟨i,a,b,c,d,g⟩
   ·refine .inl ⟨a,λi h1 h2=>?_⟩
    by_cases z:i=lo
    ·subst z;exact hc
    ·exact b i (by omega) (by omega)
   ·refine .inr ⟨i,a,by omega,by omega,d,λj h1 h2=>?_⟩
    by_cases z:j=lo
    ·subst z;exact hc
    ·exact g j (by omega) h2
def wx(c:Nat)(r:B1)(i:Nat):(i+(⟨[c].toArray⟩:Str).length<=r.length/\Builtin.Str.subAt ⟨r.toArray⟩ ⟨[c].toArray⟩ i=true) ↔ r[i]?=some c:=by
 rw[StrLaws.subAt_eq,Kr,beq_iff_eq];show(i + [c].length<=r.length/\(r.drop i).take [c].length=[c]) ↔ _;constructor
 ·rintro⟨h1,h2⟩
  have:=congrArg (λq=>q[0]?) h2
  simpa using this
 ·intro h
  have hi:=(bD.mp h).1;refine⟨hi,?_⟩;rw[qt hi]
  have:=(bD.mp h).2
  simp[this]
def Hy(c:Nat)(D S R:B1)(h:c∉S):Builtin.Str.occurrences ⟨(D++(S++c::R)).toArray⟩ ⟨[c].toArray⟩ D.length (D++(S++c::R)).length 1=[D.length+S.length]:=by
 have OS:(D++(S++c::R))[D.length+S.length]?=some c:=by
  rw[eT (by omega),eT (by omega)]
  simp
 have ĉ:∀j,D.length<=j->j<D.length+S.length->¬ (D++(S++c::R))[j]?=some c:=λj h1 h2 z=>by
  rw[eT h1,gp (by omega)]at z
  exact h (i8 z)
 rw[StrLaws.occ_eq];rcases occ_first ⟨(D++(S++c::R)).toArray⟩ ⟨[c].toArray⟩ (D++(S++c::R)).length ((D++(S++c::R)).length+1-D.length) D.length D.length (c_ _)with⟨a,b⟩|⟨i,a,b,c',d,g⟩
 ·exact absurd ((wx c _ _).mpr OS) (b _ (by omega) (by simp;omega))
 ·rw[a]
  have hi:=(wx c _ _).mp d
  have:i=D.length+S.length:=by
   rcases Nat.lt_trichotomy i (D.length+S.length)with z|z|z
   ·exact absurd hi (ĉ i b z)
   ·exact z
   ·exact absurd ((wx c _ _).mpr OS) (g _ (by omega) z)
  rw[this]
def AB(c:Nat)(S R:B1)(h:c∉S):ua (S++c::R) [.str [c]]=some (.int ((S.length:Nat):Int)):=by
 have:=Hy c [] S R h
 rw[jw]at this;show some (T.int (Txt.find _ _))=_;unfold Txt.find;rw[Kr];have e:Builtin.Str.occurrences ⟨(S++c::R).toArray⟩ ⟨[c].toArray⟩ 0 (S++c::R).length 1=[0+S.length]:=this;rw[e,BP]
def fF(n d k:Nat):gz n d (some (k:Int))=min k n:=by
 unfold gz;dsimp only;rw[if_neg (by omega)];rfl
def Ef(n d:Nat):gz n d none=d:=rfl
def jV{α:Type}(w r:List α):bu (w++r) (some (w.length:Int)) none=r:=by
 unfold bu;rw[fF,Ef,b9,qw (by omega),BE]
 simp
def Eg{α:Type}(w r:List α):bu (w++r) none (some (w.length:Int))=w:=by
 unfold bu;rw[fF,Ef,b9,qw (by omega)]
 simp
def jW{α:Type}(a b c:List α):bu (a++(b++c)) (some (a.length:Int)) (some ((a.length+b.length:Nat):Int))=b:=by
 unfold bu;rw[fF,fF,b9,b9,qw (by omega),qw (by omega),BE]
 have:a.length+b.length-a.length=b.length:=by omega
 rw[this,List.take_left]
def pre_app(w r:B1):pre w (w++r)=true:=by unfold pre;simp
def eW{c d:Nat}{w r:B1}(h:c≠d):pre (c::w) (d::r)=false:=by
 unfold pre;rw[cU,cU,sy]
 have:(d::BG w.length r == c::w)=false:=by
  rw[beq_eq_false_iff_ne];intro z;injection z with z _
  exact h z.symm
 rw[this,BR]
def Eh(c:Nat)(w r:B1):pre (c::w) (c::r)=pre w r:=by
 unfold pre;rw[cU,cU,sy]
 have:(c::BG w.length r == c::w)=(BG w.length r == w):=by
  rw[xr];simp
 rw[this]
 congr 1
 apply decide_eq_decide.mpr;omega
end D
namespace D
abbrev sv(t:T):Option C:=some (.val t)
abbrev cI(i:Int):FE:=cF (.int i)
abbrev cS(l:B1):FE:=cF (.str l)
abbrev oA:FE->FE->FE:=bw (c6 .Add)
abbrev oM:FE->FE->FE:=bw (c6 .Mod)
abbrev oD:FE->FE->FE:=bw (c6 .FloorDiv)
abbrev oE:FE->FE->FE:=bw (aL .Eq)
abbrev oI:FE->FE->FE:=bw gi
abbrev k1(a:FE):FL:=cO a bg
abbrev k2(a b:FE):FL:=cO a (k1 b)
abbrev k3(a b c:FE):FL:=cO a (k2 b c)
abbrev zA:FE:=vF 0
abbrev zB:FE:=vF 1
abbrev zC:FE:=vF 2
abbrev zD:FE:=vF 3
abbrev zO:FE:=cI 0
abbrev zI:FE:=cI 1
abbrev zg:B1:=[103,105,118,101]
def W{α:Type}(x:Res α)(Q:α->Prop):Prop:=∃a,x=.ok a/\Q a
section
variable{α β:Type}{x:Res α}{f:α->Res β}{P:α->Prop}{R:β->Prop}
def W.mono{Q:α->Prop}(h:W x Q)(k:∀a,Q a->P a):W x P:=let⟨a,e,q⟩:=h;⟨a,e,k a q⟩
theorem W.bind(h:W x λa=>W (f a) R):W (x.bind f) R:=by
 obtain⟨a,rfl,b,e,q⟩:=h;exact⟨b,e,q⟩
def W.of{a:α}(e:x=.ok a)(h:P a):W x P:=⟨a,e,h⟩
def wO{o:Option α}{a:α}(e:o=some a)(h:W (f a) R):W ((aX o).bind f) R:=by rw[e];exact h
end
section
variable{s s1 s':S}{a b:FE}{fl:FL}{g:T->T->FR}{gN:FK->FR}{Q:T×S->Prop}{t u:T}{ts:FK}{i:Nat}{c:FT}{A B:FS}{QS:Out×S->Prop}{QB:Bool×S->Prop}{QL:FK×S->Prop}{G:T×FV->Prop}
def W5(h:W (fl s) λp=>∃v,gN p.1=some v/\Q (v,p.2)):W (bV gN fl s) Q:=W.bind (h.mono λ_ ⟨_,e,q⟩=>wO e ⟨_,rfl,q⟩)
def Sn(h:W (a s) λp=>W (fl p.2) λq=>QL (p.1::q.1,q.2)):W (cO a fl s) QL:=W.bind (h.mono λ_ k=>W.bind (k.mono λ_ q=>⟨_,rfl,q⟩))
def So{f:Fn}(h:W (fl s) λp=>W (f p.1 p.2.m) λq=>Q (q.1,⟨p.2.r,q.2⟩)):W (av f [] fl s) Q:=W.bind (h.mono λp k=>by
 obtain⟨q,e,k⟩:=k;refine⟨_,?_,k⟩;rw[cJ,e])
def WB(b:FS)(s:S)(G:T×FV->Prop):Prop:=W (b s) λp=>∃t,p.1=.rt t/\G (t,p.2.m)
def NP(h:W (a s) λp=>G (p.1,p.2.m)):WB (aA a) s G:=W.bind (h.mono λp q=>⟨_,rfl,_,rfl,q⟩)
def vf(e:a s=.ok (t,s'))(h:G (t,s'.m)):WB (aA a) s G:=NP ⟨_,e,h⟩
def bJ(h:W (A s) λp=>p.1=.nx/\WB B p.2 G):WB (af A B) s G:=W.bind (h.mono λp zz=>by
 obtain⟨e,k⟩:=zz;obtain⟨o,s'⟩:=p;cases e;exact k)
def Ks(h:WB A s G):WB (af A B) s G:=W.bind (W.mono h λp ⟨t,e,k⟩=>⟨p,by obtain⟨o,s'⟩:=p;cases e;rfl,t,e,k⟩)
def W6(h:W (a s) λp=>QS (.nx,j7 p.2 i (.val p.1))):W (aE i a s) QS:=W.bind (h.mono λ_ q=>⟨_,rfl,q⟩)
def W7(h:W (a s) λp=>WB B (j7 p.2 i (.val p.1)) G):WB (af (aE i a) B) s G:=bJ (W6 (h.mono λ_ q=>⟨rfl,q⟩))
def W8(e:a s=.ok (t,s'))(h:WB B (j7 s' i (.val t)) G):WB (af (aE i a) B) s G:=W7 ⟨_,e,h⟩
def Sq(h:W (c s) λp=>(p.1=true->W (A p.2) QS)/\(p.1=false->W (B p.2) QS)):W (aY c A B s) QS:=W.bind (h.mono λp zz=>by
 obtain⟨k1,k2⟩:=zz;cases e:p.1 with
 |true=>exact k1 e
 |false=>exact k2 e)
def iI(e:c s=.ok (true,s'))(h:W (A s') QS):W (aY c A B s) QS:=Sq ⟨_,e,⟨λ_=>h,λz=>by cases z⟩⟩
def c8(e:c s=.ok (false,s'))(h:W (B s') QS):W (aY c A B s) QS:=Sq ⟨_,e,⟨λz=>(by cases z),λ_=>h⟩⟩
def Ċ(e:c s=.ok (true,s'))(h:WB A s' G):WB (af (aY c A B) a') s G:=Ks (iI e h)
def ċ(e:c s=.ok (false,s'))(h:WB B s' G):WB (af (aY c A aG) B) s G:=bJ (c8 e ⟨_,rfl,rfl,h⟩)
def kH{np n:Nat}{m:FV}(h:ts.length=np)(k:WB B ⟨ts.map (λt=>some (.val t))++dM (n-ts.length) none,m⟩ G):W (aF np n B ts m) G:=by
 unfold aF;rw[if_pos h];exact W.bind (W.mono k λp ⟨t,e,k⟩=>⟨_,by rw[e],k⟩)
def yN{f:Fn}{m:FV}(h:aI ts=true)(k:W (f ts []) λp=>noOwn p.1=true/\G (p.1,m)):W (aN f ts m) G:=by
 obtain⟨p,e,h1,h2⟩:=k;refine⟨_,?_,h2⟩;unfold aN;rw[if_pos h,e];exact if_pos h1
def dD(h:W (A s) λp=>p.1=.nx/\W (B p.2) QS):W (af A B s) QS:=W.bind (h.mono λp zz=>by
 obtain⟨e,k⟩:=zz;obtain⟨o,s'⟩:=p;cases e;exact k)
def W9(h:W (fl s) λp=>Q (.lst p.1,p.2)):W (eK fl s) Q:=W.bind (h.mono λ_ q=>⟨_,rfl,q⟩)
def Ss{n:Nat}{js:B1}{gg:FG}{e:FE}(h:W (fl s) λp=>p.1.length<=1000000/\W (cP gg c e (iD n js (iW js p.2.r)) p.1 p.2.m) λq=>QL (q.1,⟨iW js p.2.r,q.2⟩)):W (cT fl n js gg c e s) QL:=W.bind (h.mono λp zz=>by
 obtain⟨z,k⟩:=zz;rw[if_pos z];exact W.bind (k.mono λ_ q=>⟨_,rfl,q⟩))
theorem Hz{gg:FG}{I:S->Prop}:∀{ts:FK}{s:S},(∀t∈ts,∀s,I s->∃r,gg t s.r=some r/\W (B ⟨r,s.m⟩) λp=>p.1=.nx/\I p.2)->I s->W (bo gg B ts s) λp=>p.1=.nx/\I p.2
 |[],s,_,h=>⟨_,rfl,rfl,h⟩
 |t::ts,s,k,h=>by
  obtain⟨r,e1,⟨o,s1⟩,e2,e3,h1⟩:=k t (ee ..) s h;cases e3;obtain⟨p,e4,h2⟩:=Hz (ts:=ts) (λt ht=>k t (dX _ ht)) h1;refine⟨p,?_,h2⟩;rw[bo,e1];refine Eq.trans (bI _ _) ?_;show Res.bind (B ⟨r,s.m⟩) _=_;rw[e2];exact e4
end
end D
namespace K42
open PySem D L2
variable(n:Nat){m:List _root_.D.Ob}
abbrev Ei:B1:=[97,98,99,100,101,102,103,104,105,106,107,108,109,110,111,112,113,114,115,116,117,118,119,120,121,122,65,66,67,68,69,70,71,72,73,74,75,76,77,78,79,80,81,82,83,84,85,86,87,88,89,90,48,49,50,51,52,53,54,55,56,57,32,33,34,35,36,38,39,40,41,42,43,44,45,46,47,58,59,60,61,62,63,64,91,92,93,94,95,96,123,124,125,126]
abbrev Su:B1:=[32,33,34,35,38,39,40,41,44,45,48,49,50,51,52,53,54,55,56,57,58,59,60,61,62,64,65,66,67,68,69,70,71,72,73,74,75,76,77,78,79,80,81,82,83,84,85,86,87,88,89,90,92,95,96,97,98,99,100,101,102,103,104,105,106,107,108,109,110,111,112,113,114,115,116,117,118,119,120,121,122,123,124,125,126]
abbrev Sv:B1:=[32,33,34,35,36,38,39,40,41,42,43,44,45,46,47,48,49,50,51,52,53,54,55,56,57,58,59,60,61,62,63,64,65,66,67,68,69,70,71,72,73,74,75,76,77,78,79,80,81,82,83,84,85,86,87,88,89,90,91,92,93,94,95,96,97,98,99,100,101,102,103,104,105,106,107,108,109,110,111,112,113,114,115,116,117,118,119,120,121,122,123,124,125,126]
noncomputable abbrev fx(x:Str)(i:Nat):Str×FK×Nat:=(x,[],i)
noncomputable def M:Gm:={
 P:={cn:=("Program" :: "Line" :: "Always" :: "RowIs" :: "Last" :: "Like" :: "Soon" :: "FromTo" :: "Not" :: "End" :: "Mark" :: "Drop" :: "Print" :: "Done" :: "Say" :: "Swap" :: "Join" :: "Pile" :: "Bring" :: "Go" :: "Add" :: "Tell" :: "TextRow" :: "Truths" :: "Walker" :: "Blade" :: "Scan" :: []),an:=("lines" :: "cond" :: "deed" :: "number" :: "pattern" :: "many" :: "first" :: "second" :: "inner" :: "name" :: "words" :: "every" :: "most" :: "shelf" :: "text" :: "known" :: "conds" :: "up" :: "behind_marks" :: "teller" :: "truths" :: "passed" :: "met" :: "taken" :: "hand" :: "hand_rows" :: "shelves" :: "sums" :: "noted" :: "log" :: "wanting" :: "walker" :: "seen" :: "came" :: "waiting" :: "rest" :: "finished" :: []),tab:=[[0],[1,2],[],[3],[],[4],[5,4],[6,7],[8],[],[9],[],[],[],[10],[4,10,11],[12],[13,12],[13],[9],[6,7],[],[14,3,15],[16,17],[0,18,19,20,21,22,23,24,25,26,27,28,29,30],[31,32,33,34,35,36],[35,3]],sub:=[[0],[1],[2],[3],[4],[5],[6],[7],[8],[9],[10],[11],[12],[13],[14],[15],[16],[17],[18],[19],[20],[21],[22],[23],[24],[25],[26]]},
 cs:=[("SIGNS",.str Ei),("SMALL_LETTERS",.str [97,98,99,100,101,102,103,104,105,106,107,108,109,110,111,112,113,114,115,116,117,118,119,120,121,122]),("FIGURES",.str [48,49,50,51,52,53,54,55,56,57]),("MOST_ITEMS",.int 8),("MOST_SIGNS",.int 12),("NEVER_PLAIN",.str [94,36,46,91,93,42,43,63,47]),("NEVER_IN_A_SET",.str [93,94,47]),("ONCE",.str [49]),("HOW_MANY",.str [42,43,63]),("NOWHERE",.int (-1)),("MOST_FIGURES_pieces",.int 60),("COND_BEGINNINGS",.tup [.str [114,111,119,32],.str [108,97,115,116],.str [47],.str [115,111,111,110,32],.str [102,114,111,109,32],.str [110,111,116,32],.str [101,110,100]]),("MOST_ROW",.int 999),("MOST_FIGURES_linereading",.int 3),("MOST_SOON",.int 3),("LEAST_JOIN",.int 2),("MOST_SMALL",.int 9),("MOST_LETTERS",.int 8),("MOST_TEXT",.int 40),("MOST_LINES",.int 24)],
 fs:=(fx "made_of" 0::fx "beginning_of" 1::fx "may_stand_plain" 2::fx "pattern" 3::fx "items_of" 4::fx "place_behind_core" 5::fx "many_at" 6::fx "item_of" 7::fx "is_written_plain" 8::fx "written" 9::fx "written_core" 10::fx "may_be_left_out" 11::fx "may_come_again" 12::("stretch",[.int 0],13)::fx "found" 14::fx "greatest_ends" 15::fx "ends_behind_items" 16::fx "ends_with_item" 17::fx "holds" 18::fx "given_in" 19::fx "numbers_of_marks" 20::fx "ahead" 21::fx "rows_seen_by" 22::fx "line_of" 23::fx "line_next" 24::fx "cond_next" 25::fx "plain_cond_next" 26::fx "row_or_pattern_next" 27::fx "deed_next" 28::fx "number_next" 29::fx "words_next" 30::fx "pattern_next" 31::fx "may_stand" 32::fx "cut" 33::fx "read" 34::fx "lines_of" 35::fx "marks_of" 36::fx "refuse_go_without_mark" 37::fx "_law_cell_at" 38::fx "_law_whole" 39::fx "_law_plain" 40::fx "_law_word" 41::fx "_law_line" 42::fx "_law_said" 43::fx "_law_written" 44::fx "_law_truth" 45::fx "_law_given" 46::fx "_law_ahead" 47::fx "_law_sign" 48::fx "_law_pieces" 49::fx "_law_rows" 50::fx "_law_flat" 51::fx "_law_alike" 52::fx "law" 53::[]),
 cl:=(("Program",.cp 0)::("Line",.fz 1 2)::("Always",.z0 2)::("RowIs",.fz 3 1)::("Last",.z0 4)::("Like",.fz 5 1)::("Soon",.fz 6 2)::("Not",.fz 8 1)::("End",.z0 9)::("Drop",.z0 11)::("Print",.z0 12)::("Done",.z0 13)::("Say",.fz 14 1)::("Tell",.z0 21)::("TextRow",.nw 22 61)::("Truths",.nw 23 63)::("Walker",.nw 24 66)::("Blade",.nw 25 81)::("Scan",.nw 26 88)::[]),
 ms:=(("has",[(22,62)])::("told_of",[(23,64)])::("truth",[(23,65)])::("want",[(24,67)])::("take",[(24,68)])::("take_with",[(24,69)])::("go_on",[(24,70)])::("meet",[(24,71)])::("hand_over",[(24,72)])::("finish",[(24,73),(25,83)])::("find_none",[(24,74)])::("give",[(24,75)])::("end_turn",[(24,76)])::("give_hand_and_end",[(24,77)])::("do",[(24,78)])::("do_giving",[(24,79)])::("rows_on_shelves",[(24,80)])::("feed",[(25,82)])::("refuse_once_finished",[(25,84)])::("come",[(25,85)])::("take_all_but",[(25,86)])::("kept",[(25,87)])::("passes",[(26,89)])::("must_pass",[(26,90)])::("while_made_of",[(26,91)])::("between",[(26,92)])::[]),
 bl:=["isinstance","len","all","any","str","int","list","range","enumerate","bool","min","max","reversed","sum"],bf:=["log","met","up","known","shelves","sums","noted","waiting"]}
abbrev Fu(x:Str)(k:Nat)(N:Bi)(a:Nat)(u:Bi)(b:Bool):Fe:=⟨none,x,x,top k,N,N.take a,u,b,[]⟩
abbrev Fm(c x q:Str)(k h:Nat)(N:Bi)(a:Nat):Fe:=⟨some c,x,q,inClass (top k) h,"self" :: N,"self" :: N.take a,[],false,[]⟩
noncomputable def Ft:List Fe:=[
 Fu "made_of" 38 ["text","signs"] 9 [] true,
 Fu "beginning_of" 39 ["text","signs","many"] 2 [] true,
 Fu "may_stand_plain" 47 ["sign"] 9 [] true,
 Fu "pattern" 48 ["text","front","body","back","items"] 1 [] true,
 Fu "items_of" 49 ["body","items","place","behind","many"] 1 ["items"] true,
 Fu "place_behind_core" 50 ["body","place","bracket"] 2 [] true,
 Fu "many_at" 51 ["body","place"] 9 [] true,
 Fu "item_of" 52 ["core","many"] 9 [] true,
 Fu "is_written_plain" 54 ["signs","others"] 9 [] true,
 Fu "written" 55 ["one","parts","signs","others","many"] 1 ["parts"] true,
 Fu "written_core" 56 ["signs","others"] 9 [] true,
 Fu "may_be_left_out" 59 ["item"] 9 [] true,
 Fu "may_come_again" 60 ["item"] 9 [] true,
 ⟨none,"stretch","stretch",top 63,["one","row","start","ends","begin"],["one","row","start"],[],true,[.int 0]⟩,
 Fu "found" 64 ["one","row"] 9 [] true,
 Fu "greatest_ends" 65 ["one","row","ends","item"] 2 [] true,
 Fu "ends_behind_items" 66 ["row","back"] 9 [] true,
 Fu "ends_with_item" 67 ["item","row","behind","signs","others","again","ends","place","end"] 3 ["ends"] true,
 Fu "holds" 71 ["cond","row"] 9 [] false,
 Fu "given_in" 82 ["log"] 9 [] false,
 Fu "numbers_of_marks" 83 ["lines","numbers","number","line"] 1 ["numbers"] true,
 Fu "ahead" 85 ["program"] 9 [] true,
 Fu "rows_seen_by" 86 ["cond"] 9 [] true,
 Fu "line_of" 98 ["row","number","scan","line"] 2 [] true,
 Fu "line_next" 99 ["scan","cond"] 1 [] false,
 Fu "cond_next" 100 ["scan"] 9 [] false,
 Fu "plain_cond_next" 101 ["scan","many","first"] 1 [] false,
 Fu "row_or_pattern_next" 102 ["scan"] 9 [] false,
 Fu "deed_next" 103 ["scan"] 9 [] false,
 Fu "number_next" 107 ["scan","least","most","figures","number"] 3 [] false,
 Fu "words_next" 109 ["scan","words"] 1 [] false,
 Fu "pattern_next" 110 ["scan","text"] 1 [] false,
 Fu "may_stand" 111 ["cond","deed"] 9 [] true,
 Fu "cut" 114 ["text","rows"] 1 [] true,
 Fu "read" 117 ["text","lines","marks"] 1 [] true,
 Fu "lines_of" 118 ["rows","lines","number","row"] 1 ["lines"] true,
 Fu "marks_of" 119 ["lines","marks","number","line"] 1 ["marks"] true,
 Fu "refuse_go_without_mark" 120 ["lines","marks","number","line"] 2 [] true,
 Fu "_law_cell_at" 122 ["_law_script","_law_k"] 9 [] true,
 Fu "_law_whole" 123 ["_law_answer"] 9 [] true,
 Fu "_law_plain" 124 ["_law_number","_law_some"] 1 [] true,
 Fu "_law_word" 125 ["_law_number","_law_signs","_law_k","_law_way"] 1 [] true,
 Fu "_law_line" 126 ["_law_cell","_law_mixed","_law_word_here"] 1 [] true,
 Fu "_law_said" 127 ["_law_word_here"] 9 [] true,
 Fu "_law_written" 128 ["_law_line_here","_law_cond","_law_told","_law_kind","_law_deed","_law_word_here","_law_many","_law_number"] 1 [] true,
 Fu "_law_truth" 129 ["_law_line_here","_law_rows_here","_law_at","_law_answer","_law_kind","_law_deed","_law_word_here","_law_many","_law_number"] 3 [] true,
 Fu "_law_given" 130 ["_law_lines","_law_rows_here","_law_at","_law_given_here","_law_line_here"] 3 ["_law_given_here"] true,
 Fu "_law_ahead" 131 ["_law_lines","_law_most","_law_line_here"] 1 [] true,
 Fu "_law_sign" 132 ["_law_number","_law_some","_law_spot"] 1 [] true,
 Fu "_law_pieces" 133 ["_law_cells","_law_room","_law_pieces_here","_law_cell","_law_many","_law_number","_law_signs","_law_k"] 1 ["_law_pieces_here"] true,
 Fu "_law_rows" 134 ["_law_text","_law_rows_here"] 1 ["_law_rows_here"] true,
 Fu "_law_flat" 135 ["_law_lists","_law_rows_here","_law_some"] 1 ["_law_rows_here"] true,
 Fu "_law_alike" 136 ["_law_answer","_law_due"] 9 [] true,
 Fu "law" 137 ["_law_script","_law_lines","_law_first","_law_far","_law_program","_law_pieces_here","_law_rows_here","_law_due","_law_most","_law_blade","_law_whole_here","_law_taken","_law_held","_law_piece","_law_before","_law_answer","_law_many","_law_kept"] 1 ["_law_held"] true,
 Fm "Program" "__init__" "Program.__init__" 10 0 ["lines"] 9,
 Fm "Line" "__init__" "Line.__init__" 11 0 ["cond","deed"] 9,
 Fm "RowIs" "__init__" "RowIs.__init__" 14 0 ["number"] 9,
 Fm "Like" "__init__" "Like.__init__" 16 0 ["pattern"] 9,
 Fm "Soon" "__init__" "Soon.__init__" 17 0 ["many","pattern"] 9,
 Fm "Not" "__init__" "Not.__init__" 19 0 ["inner"] 9,
 Fm "Say" "__init__" "Say.__init__" 26 0 ["words"] 9,
 Fm "TextRow" "__init__" "TextRow.__init__" 69 0 ["text","number"] 9,
 Fm "TextRow" "has" "TextRow.has" 69 1 ["one","name"] 1,
 Fm "Truths" "__init__" "Truths.__init__" 70 0 ["lines"] 9,
 ⟨some "Truths","told_of","Truths.told_of",inClass (top 70) 1,["self","row","behind","truths","place","cond"],["self","row","behind"],["truths"],false,[]⟩,
 Fm "Truths" "truth" "Truths.truth" 70 2 ["place","cond","row","behind"] 9,
 Fm "Walker" "__init__" "Walker.__init__" 81 0 ["program"] 9,
 Fm "Walker" "want" "Walker.want" 81 1 [] 9,
 Fm "Walker" "take" "Walker.take" 81 2 ["row","behind"] 9,
 Fm "Walker" "take_with" "Walker.take_with" 81 3 ["text","truths"] 9,
 Fm "Walker" "go_on" "Walker.go_on" 81 4 [] 9,
 Fm "Walker" "meet" "Walker.meet" 81 5 ["line","number","truth"] 2,
 Fm "Walker" "hand_over" "Walker.hand_over" 81 6 ["rows"] 0,
 Fm "Walker" "finish" "Walker.finish" 81 7 ["line"] 0,
 Fm "Walker" "find_none" "Walker.find_none" 81 8 [] 9,
 Fm "Walker" "give" "Walker.give" 81 9 ["row"] 9,
 Fm "Walker" "end_turn" "Walker.end_turn" 81 10 [] 9,
 Fm "Walker" "give_hand_and_end" "Walker.give_hand_and_end" 81 11 [] 9,
 Fm "Walker" "do" "Walker.do" 81 12 ["deed","number"] 9,
 Fm "Walker" "do_giving" "Walker.do_giving" 81 13 ["deed"] 9,
 Fm "Walker" "rows_on_shelves" "Walker.rows_on_shelves" 81 18 ["many","things"] 0,
 Fm "Blade" "__init__" "Blade.__init__" 87 0 ["program"] 9,
 Fm "Blade" "feed" "Blade.feed" 87 1 ["piece","parts","part"] 1,
 Fm "Blade" "finish" "Blade.finish" 87 2 [] 9,
 Fm "Blade" "refuse_once_finished" "Blade.refuse_once_finished" 87 3 [] 9,
 Fm "Blade" "come" "Blade.come" 87 4 ["text"] 9,
 Fm "Blade" "take_all_but" "Blade.take_all_but" 87 5 ["many","row"] 1,
 Fm "Blade" "kept" "Blade.kept" 87 8 [] 9,
 Fm "Scan" "__init__" "Scan.__init__" 97 0 ["row","number"] 9,
 Fm "Scan" "passes" "Scan.passes" 97 2 ["words"] 9,
 Fm "Scan" "must_pass" "Scan.must_pass" 97 3 ["words"] 9,
 Fm "Scan" "while_made_of" "Scan.while_made_of" 97 4 ["signs","taken"] 1,
 Fm "Scan" "between" "Scan.between" 97 5 ["sign","place","inside"] 1]
noncomputable def It:Hr:=[("Program",54),("Line",55),("RowIs",56),("Like",57),("Soon",58),("Not",59),("Say",60),("TextRow",61),("Truths",63),("Walker",66),("Blade",81),("Scan",88)]
noncomputable abbrev cN:=i6 M Ft
set_option maxHeartbeats 0
abbrev TF:=(Nat->Fn)->Fn
abbrev WT(i:Nat)(t:TF):Prop:=∀n,cN (n+1) i=t (cN n)
def t0:TF:=λah=>aN (aF 2 2 (aA (bV Aj (k1 (eK (cT (j9 zA) 2 [1] (setG 1) fQ (bw (aL .In) zB zC)))))))
def w0:WT 0 t0:=λ_=>rfl
def t1:TF:=λah=>aN (aF 2 3 (af (aE 2 zO)
 (af (iF many (kr (bW (bw (aL .Lt) zC (bV cz (k1 zA)))) (bW (bw (aL .In) (oI zA zC) zB)))
  (CM f6 2 zI))
 (aA (j8 zA r9 (gW zC))))))
def w1:WT 1 t1:=λ_=>rfl
def t2:TF:=λah=>aN (aF 1 1 (aA (oS (bw (aL .In) zA (cS Ei)) (bw (aL .NotIn) zA (cS [94,36,46,91,93,42,43,63,47])))))
def w2:WT 2 t2:=λ_=>rfl
def t3:TF:=λah=>aN (aF 1 5 (af (aY (dC (tB (dN (Mu "str") zA)))
  cD
  aG)
 (af (aY (dC (tB (av (ah 0) [] (k2 zA (cS Ei)))))
  cD
  aG)
 (af (aE 1 (nZ A3 zA (k1 (cS [94]))))
 (af (aE 2 (CL (tB zB) (j8 zA (gW zI) r9) zA))
 (af (aE 3 (nZ We zC (k1 (cS [36]))))
 (af (aE 4 (av (ah 4) [] (k1 (CL (tB zD) (j8 zC r9 (gW (dN iV zI))) zC))))
 (af (aY (bW (bw (aL .Gt) (bV cz (k1 (vF 4))) (cI 8)))
  cD
  aG)
 (aA (bV gH (k3 zB (vF 4) zD)))))))))))
def w3:WT 3 t3:=λ_=>rfl
abbrev YK(ah:Nat->Fn):FS:=af (aE 3 (av (ah 5) [] (k2 zA zC)))
 (af (aE 4 (av (ah 6) [] (k2 zA zD)))
 (af (iE 1 (av (ah 7) [] (k2 (j8 zA (gW zC) (gW zD)) (vF 4))))
 (aE 2 (CL (bW (oE (vF 4) (cS [49]))) zD (oA zD zI)))))
def t4:TF:=λah=>aN (aF 1 5 (af (ia 1 (iG bg))
 (af (aE 2 zO)
 (af (iF many (bW (bw (aL .Lt) zC (bV cz (k1 zA))))
  (YK ah))
 (aA zB)))))
def w4:WT 4 t4:=λ_=>rfl
def t5:TF:=λah=>aN (aF 2 3 (af (aY (bW (bw (aL .NotEq) (oI zA zB) (cS [91])))
  (aA (oA zB zI))
  aG)
 (af (aE 2 (nZ ua zA (k2 (cS [93]) zB)))
 (af (aY (bW (oE zC (dN iV zI)))
  cD
  aG)
 (aA (oA zC zI))))))
def w5:WT 5 t5:=λ_=>rfl
def t6:TF:=λah=>aN (aF 2 2 (af (aY (kr (bW (bw (aL .Lt) zB (bV cz (k1 zA)))) (bW (bw (aL .In) (oI zA zB) (cS [42,43,63]))))
  (aA (oI zA zB))
  aG)
 (aA (cS [49]))))
def w6:WT 6 t6:=λ_=>rfl
def t7:TF:=λah=>aN (aF 2 2 (af (aY (bW (oE zA (cS [46])))
  (aA (bV gH (k3 (cS []) (cF (.bl true)) zB)))
  aG)
 (af (aY (tB (nZ A3 zA (k1 (cS [91]))))
  (aA aT)
  aG)
 (af (aY (dC (tB (av (ah 2) [] (k1 zA))))
  cD
  aG)
 (aA (bV gH (k3 zA (cF (.bl false)) zB)))))))
def w7:WT 7 t7:=λ_=>rfl
def t8:TF:=λah=>aN (aF 2 2 (aA (oS (qL zB) (oS (oE (bV cz (k1 zA)) zI) (av (ah 2) [] (k1 zA))))))
def w8:WT 8 t8:=λ_=>rfl
abbrev YL(ah:Nat->Fn):FS:=af (iE 1 (av (ah 10) [] (k2 zC zD)))
 (iE 1 (CL (bW (oE (vF 4) (cS [49]))) (cS []) (vF 4)))
def t9:TF:=λah=>aN (aF 1 5 (af (ia 1 (iG (k1 (CL (tB (oI zA zO)) (cS [94]) (cS [])))))
 (af (fm (Dm (oI zA zI)) (fS [2,3,4])
  (YL ah))
 (af (iE 1 (CL (tB (oI zA (cI 2))) (cS [36]) (cS [])))
 (aA (nZ joinM (cS []) (k1 zB)))))))
def w9:WT 9 t9:=λ_=>rfl
def Č:TF:=λah=>aN (aF 2 2 (af (aY (bW (oE zA (cS [])))
  (aA (cS [46]))
  aG)
 (af (aY (tB zB)
  (aA aT)
  aG)
 (af (aY (tB (av (ah 8) [] (k2 zA zB)))
  (aA zA)
  aG)
 (aA aT)))))
def VJ:WT 10 Č:=λ_=>rfl
def č:TF:=λah=>aN (aF 1 1 (aA (bw (aL .In) (oI zA (cI 2)) (bV gH (k2 (cS [42]) (cS [63]))))))
def Ď:WT 11 č:=λ_=>rfl
def ď:TF:=λah=>aN (aF 1 1 (aA (bw (aL .In) (oI zA (cI 2)) (bV gH (k2 (cS [42]) (cS [43]))))))
def Đ:WT 12 ď:=λ_=>rfl
abbrev Sw:FS:=aY (bW (bw (aL .NotEq) (oI zD (vF 4)) (cI (-1))))
  (aA (bV gH (k2 (vF 4) (oI zD (vF 4)))))
  aG
def đ:TF:=λah=>aN (aF 3 5 (af (aE 3 (av (ah 15) [] (k2 zA zB)))
 (af (fm (xW mL (k2 zC (bV cz (k1 zD)))) (setG 4)
  Sw)
 (aA (cF .non)))))
def Ē:WT 13 đ:=λ_=>rfl
def ē:TF:=λah=>aN (aF 2 2 (aA (bw (aL .IsNot) (av (ah 13) [(.int (0))] (k2 zA zB)) (cF .non))))
def Ĕ:WT 14 ē:=λ_=>rfl
def ĕ:TF:=λah=>aN (aF 2 4 (af (aE 2 (av (ah 16) [] (k2 zB (oI zA (cI 2)))))
 (af (fm (o1 M1 (oI zA zI)) (setG 3)
  (aE 2 (av (ah 17) [] (k3 zD zB zC))))
 (aA (CL (tB (oI zA zO)) (j8 zC r9 (gW zI)) zC)))))
def Ė:WT 15 ĕ:=λ_=>rfl
def ė:TF:=λah=>aN (aF 2 2 (af (aY (tB zB)
  (aA (oA (bw (c6 .Mult) (bV mJ (k1 (cI (-1)))) (bV cz (k1 zA))) (bV mJ (k1 (bV cz (k1 zA))))))
  aG)
 (aA (eK (o1 Av (oA (bV cz (k1 zA)) zI))))))
def Ę:WT 16 ė:=λ_=>rfl
abbrev W_:FS:=aY (bW (bw (aL .NotEq) (bw (aL .In) (oI zB (vF 7)) zD) (vF 4)))
  (af (aE 8 (oI zC (oA (vF 7) zI)))
 (af (aY (kr (tB (vF 5)) (bW (bw (aL .Gt) (lr 6 (oA (vF 7) zI)) (vF 8))))
  (aE 8 (lr 6 (oA (vF 7) zI)))
  aG)
 (aY (bW (bw (aL .Gt) (vF 8) (lr 6 (vF 7))))
  (cW 6 (vF 7) (vF 8))
  aG)))
  aG
def ę:TF:=λah=>aN (aF 3 9 (af (aE 3 (oI zA zO))
 (af (aE 4 (oI zA zI))
 (af (aE 5 (av (ah 12) [] (k1 zA)))
 (af (ia 6 (UM (tB (av (ah 11) [] (k1 zA))) (o1 Ww zC) (o2 Dw (bV mJ (k1 (cI (-1)))) (bV cz (k1 zC)))))
 (af (fm (xW Aw (k3 (bw (c6 .Sub) (bV cz (k1 zB)) zI) (dN iV zI) (dN iV zI))) (setG 7)
  W_)
 (aA (vF 6))))))))
def Ě:WT 17 ę:=λ_=>rfl
def ě:TF:=λah=>aF 2 2 (af (aY (tB (dN (gK M.P.sub [3]) zA))
  (aA (oE (az M.P.tab 3 zA) (az M.P.tab 3 zB)))
  aG)
 (af (aY (tB (dN (gK M.P.sub [5]) zA))
  (aA (au (ak [(22,62)] ah) zB (k1 (az M.P.tab 4 zA))))
  aG)
 (aA (cF (.bl true)))))
def YM:WT 18 ě:=λ_=>rfl
def Ĝ:TF:=λah=>aF 1 1 (aA (eK (cT (j9 zA) 2 [] (setG 1) (bW (oE (oI zB zO) (cS zg))) (oI zB zI))))
def ĝ:WT 19 Ĝ:=λ_=>rfl
abbrev Xa:FS:=aY (tB (dN (gK M.P.sub [10]) (az M.P.tab 2 zD)))
  (cW 1 (az M.P.tab 9 (az M.P.tab 2 zD)) zC)
  aG
def Ğ:TF:=λah=>aN (aF 1 4 (af (yt 1)
 (af (fm (i0 1 zA) (fS [2,3])
  Xa)
 (aA zB))))
def ğ:WT 20 Ğ:=λ_=>rfl
def Ġ:TF:=λah=>aN (aF 1 1 (aA (G6 (0) (eK (cT (j9 (az M.P.tab 0 zA)) 2 [] (setG 1) fQ (av (ah 22) [] (k1 (az M.P.tab 1 zB))))))))
def ġ:WT 21 Ġ:=λ_=>rfl
def Ģ:TF:=λah=>aN (aF 1 1 (af (aY (tB (dN (gK M.P.sub [8]) zA))
  (aA (av (ah 22) [] (k1 (az M.P.tab 8 zA))))
  aG)
 (af (aY (tB (dN (gK M.P.sub [4]) zA))
  (aA zI)
  aG)
 (af (aY (tB (dN (gK M.P.sub [6]) zA))
  (aA (az M.P.tab 5 zA))
  aG)
 (aA zO)))))
def YN:WT 22 Ģ:=λ_=>rfl
def ģ:TF:=λah=>aN (aF 2 4 (af (aE 2 (mK 26 (ah 88) (k2 zA zB)))
 (af (aE 3 (av (ah 24) [] (k1 zC)))
 (af (aY (qK (bW (bw (aL .NotEq) (az M.P.tab 35 zC) (cS []))) (dC (tB (av (ah 32) [] (k2 (az M.P.tab 1 zD) (az M.P.tab 2 zD))))))
  (aJ aT)
  aG)
 (aA zD)))))
def Ĥ:WT 23 ģ:=λ_=>rfl
def ĥ:TF:=λah=>aF 1 2 (af (aY (tB (au (ak [(26,89)] ah) zA (k1 (cS [109,97,114,107,32]))))
  (aA (fX 1 2 (k2 (fX 2 0 bg) aT)))
  aG)
 (af (aY (dC (tB (bV oU (k1 (eK (cT (j9 (cF (.tup [(.str [114,111,119,32]),(.str [108,97,115,116]),(.str [47]),(.str [115,111,111,110,32]),(.str [102,114,111,109,32]),(.str [110,111,116,32]),(.str [101,110,100])]))) 2 [0] (setG 1) fQ (nZ A3 (az M.P.tab 35 zC) (k1 zB))))))))
  (aA (fX 1 2 (k2 (fX 2 0 bg) (av (ah 28) [] (k1 zA)))))
  aG)
 (af (aE 1 (av (ah 25) [] (k1 zA)))
 (af (aJ (au (ak [(26,90)] ah) zA (k1 (cS [58,32]))))
 (aA (fX 1 2 (k2 zB (av (ah 28) [] (k1 zA)))))))))
def Ħ:WT 24 ĥ:=λ_=>rfl
def ħ:TF:=λah=>aF 1 1 (af (aY (tB (au (ak [(26,89)] ah) zA (k1 (cS [101,110,100]))))
  (aA (fX 9 0 bg))
  aG)
 (af (aY (tB (au (ak [(26,89)] ah) zA (k1 (cS [110,111,116,32]))))
  (aA (fX 8 1 (k1 (av (ah 26) [] (k1 zA)))))
  aG)
 (aA (av (ah 26) [] (k1 zA)))))
def Ĩ:WT 25 ħ:=λ_=>rfl
def ĩ:TF:=λah=>aF 1 3 (af (aY (tB (au (ak [(26,89)] ah) zA (k1 (cS [108,97,115,116]))))
  (aA (fX 4 0 bg))
  aG)
 (af (aY (tB (au (ak [(26,89)] ah) zA (k1 (cS [115,111,111,110,32]))))
  (af (aE 1 (av (ah 29) [] (k3 zA zI (cI 3))))
 (af (aJ (au (ak [(26,90)] ah) zA (k1 (cS [32]))))
 (aA (fX 6 2 (k2 zB (av (ah 31) [] (k1 zA)))))))
  aG)
 (af (aY (tB (au (ak [(26,89)] ah) zA (k1 (cS [102,114,111,109,32]))))
  (af (aE 2 (av (ah 27) [] (k1 zA)))
 (af (aJ (au (ak [(26,90)] ah) zA (k1 (cS [32,116,111,32]))))
 (aA aT)))
  aG)
 (aA (av (ah 27) [] (k1 zA))))))
def Ī:WT 26 ĩ:=λ_=>rfl
def ī:TF:=λah=>aF 1 1 (af (aY (tB (au (ak [(26,89)] ah) zA (k1 (cS [114,111,119,32]))))
  (aA (fX 3 1 (k1 (av (ah 29) [] (k3 zA zI (cI 999))))))
  aG)
 (aA (fX 5 1 (k1 (av (ah 31) [] (k1 zA))))))
def Ĭ:WT 27 ī:=λ_=>rfl
def ĭ:TF:=λah=>aF 1 1 (af (aY (tB (au (ak [(26,89)] ah) zA (k1 (cS [100,114,111,112]))))
  (aA (fX 11 0 bg))
  aG)
 (af (aY (tB (au (ak [(26,89)] ah) zA (k1 (cS [112,114,105,110,116]))))
  (aA (fX 12 0 bg))
  aG)
 (af (aY (tB (au (ak [(26,89)] ah) zA (k1 (cS [100,111,110,101]))))
  (aA (fX 13 0 bg))
  aG)
 (af (aY (tB (au (ak [(26,89)] ah) zA (k1 (cS [116,101,108,108]))))
  (aA (fX 21 0 bg))
  aG)
 (af (aY (tB (au (ak [(26,89)] ah) zA (k1 (cS [115,97,121,32]))))
  (aA (fX 14 1 (k1 (av (ah 30) [] (k1 zA)))))
  aG)
 (af (aY (tB (au (ak [(26,89)] ah) zA (k1 (cS [115,119,97,112,32,101,118,101,114,121,32]))))
  (aA aT)
  aG)
 (af (aY (tB (au (ak [(26,89)] ah) zA (k1 (cS [115,119,97,112,32]))))
  (aA aT)
  aG)
 (af (aY (tB (au (ak [(26,89)] ah) zA (k1 (cS [106,111,105,110,32]))))
  (aA aT)
  aG)
 (af (aY (tB (au (ak [(26,89)] ah) zA (k1 (cS [112,105,108,101,32]))))
  (aA aT)
  aG)
 (af (aY (tB (au (ak [(26,89)] ah) zA (k1 (cS [98,114,105,110,103,32]))))
  (aA aT)
  aG)
 (af (aY (tB (au (ak [(26,89)] ah) zA (k1 (cS [103,111,32]))))
  (aA aT)
  aG)
 (af (aJ (au (ak [(26,90)] ah) zA (k1 (cS [97,100,100,32]))))
 (aA aT)))))))))))))
def Į:WT 28 ĭ:=λ_=>rfl
def į:TF:=λah=>aF 3 5 (af (aE 3 (au (ak [(26,91)] ah) zA (k1 (cS [48,49,50,51,52,53,54,55,56,57]))))
 (af (aY (qK (bW (oE zD (cS []))) (qK (tB (nZ A3 zD (k1 (cS [48])))) (bW (bw (aL .Gt) (bV cz (k1 zD)) (cI 3)))))
  (aJ aT)
  aG)
 (af (aE 4 (bV vV (k1 zD)))
 (af (aY (qK (bW (bw (aL .Lt) (vF 4) zB)) (bW (bw (aL .Gt) (vF 4) zC)))
  (aJ aT)
  aG)
 (aA (vF 4))))))
def İ:WT 29 į:=λ_=>rfl
def ı:TF:=λah=>aF 1 2 (af (aE 1 (au (ak [(26,92)] ah) zA (k1 (cS [34]))))
 (af (aY (qK (bW (bw (aL .Gt) (bV cz (k1 zB)) (cI 40))) (dC (tB (av (ah 0) [] (k2 zB (cS Ei))))))
  (aJ aT)
  aG)
 (aA zB)))
def Ĳ:WT 30 ı:=λ_=>rfl
def ĳ:TF:=λah=>aF 1 2 (af (aE 1 (au (ak [(26,92)] ah) zA (k1 (cS [47]))))
 (aA (av (ah 3) [] (k1 zB))))
def Ĵ:WT 31 ĳ:=λ_=>rfl
def ĵ:TF:=λah=>aN (aF 2 2 (af (aY (tB (dN (gK M.P.sub [9]) zA))
  (aA aT)
  aG)
 (af (aY (tB (dN (gK M.P.sub [15]) zB))
  (aA aT)
  aG)
 (aA (qL (dN (gK M.P.sub [21]) zB))))))
def Ķ:WT 32 ĵ:=λ_=>rfl
def ķ:TF:=λah=>aN (aF 1 2 (af (aE 1 (nZ splitM zA (k1 (cS [10]))))
 (af (aY (bW (oE (oI zB (dN iV zI)) (cS [])))
  (aA (bV gH (k2 (j8 zB r9 (gW (dN iV zI))) (cF (.bl true)))))
  aG)
 (aA (bV gH (k2 zB (cF (.bl false))))))))
def Ĺ:WT 33 ķ:=λ_=>rfl
def ĺ:TF:=λah=>aN (aF 1 3 (af (aE 1 (av (ah 35) [] (k1 (oI (av (ah 33) [] (k1 zA)) zO))))
 (af (aE 2 (av (ah 36) [] (k1 zB)))
 (af (aJ (av (ah 37) [] (k2 zB zC)))
 (aA (dN (L5 0) zB))))))
def Ļ:WT 34 ĺ:=λ_=>rfl
abbrev Sx(ah:Nat->Fn):FS:=af (aY (bW (bw (aL .Gt) zC (cI 24)))
  cD
  aG)
 (iE 1 (av (ah 23) [] (k2 zD zC)))
def ļ:TF:=λah=>aN (aF 1 4 (af (ia 1 (iG bg))
 (af (fm (i0 1 zA) (fS [2,3])
  (Sx ah))
 (aA zB))))
def Ľ:WT 35 ļ:=λ_=>rfl
abbrev Xb:FS:=aY (tB (dN (gK M.P.sub [10]) (az M.P.tab 2 zD)))
  (af (aY (bW (bw (aL .In) (az M.P.tab 9 (az M.P.tab 2 zD)) zB))
  cD
  aG)
 (cW 1 (az M.P.tab 9 (az M.P.tab 2 zD)) (cF (.bl true))))
  aG
def ľ:TF:=λah=>aN (aF 1 4 (af (yt 1)
 (af (fm (i0 1 zA) (fS [2,3])
  Xb)
 (aA zB))))
def Ŀ:WT 36 ľ:=λ_=>rfl
abbrev Xc:FS:=aY (kr (tB (dN (gK M.P.sub [19]) (az M.P.tab 2 zD))) (bW (bw (aL .NotIn) (az M.P.tab 9 (az M.P.tab 2 zD)) zB)))
  cD
  aG
def ŀ:TF:=λah=>aN (aF 2 4 (fm (i0 1 zA) (fS [2,3])
  Xc))
def Ł:WT 37 ŀ:=λ_=>rfl
def ł:TF:=λah=>aN (aF 2 2 (af (aY (bW (bw (aL .Lt) zB (bV cz (k1 zA))))
  (aA (oI zA zB))
  aG)
 (aA zO)))
def Ń:WT 38 ł:=λ_=>rfl
def ń:TF:=λah=>aN (aF 1 1 (aA (oS (dN (Mu "int") zA) (qL (dN (Mu "bool") zA)))))
def Ņ:WT 39 ń:=λ_=>rfl
def ņ:TF:=λah=>aN (aF 1 2 (af (aE 1 (cS Su))
 (aA (oI zB (oM zA (bV cz (k1 zB)))))))
def Ň:WT 40 ņ:=λ_=>rfl
abbrev Sy(ah:Nat->Fn):FS:=af (aE 3 (oM (oD zA (oA (cI 3) (bw (c6 .Mult) (cI 7) zC))) (cI 10)))
 (aY (bW (bw (aL .Lt) zD (cI 8)))
  (aE 1 (oA zB (oI (cS [97,97,97,97,97,98,98,98]) zD)))
  (aE 1 (oA zB (av (ah 40) [] (k1 (oD zA (cI 5)))))))
def ň:TF:=λah=>aN (aF 1 4 (af (aE 1 (cS []))
 (af (fm (xW mL (k1 (oA zI (oM zA (cI 3))))) (setG 2)
  (Sy ah))
 (aA zB))))
def Ŋ:WT 41 ň:=λ_=>rfl
def ŋ:TF:=λah=>aN (aF 1 3 (af (aE 1 (oM (bw (c6 .Mult) zA (cI 48271)) (cI 1000003)))
 (af (aE 2 (av (ah 41) [] (k1 (oM (bw (c6 .Mult) zB zB) (cI 999983)))))
 (af (aE 1 (oM (bw (c6 .Mult) (oA zB (cI 7)) (oA zB (cI 7))) (cI 1000033)))
 (aA (bV gH (cO (oM zA (cI 8)) (cO (oM (oD zA (cI 8)) (cI 4)) (k3 zC (oA zI (oM zB (cI 3))) (oA zI (oM (oD zB (cI 3)) (cI 20))))))))))))
def Ō:WT 42 ŋ:=λ_=>rfl
def ō:TF:=λah=>aN (UQ 34)
def Ŏ:WT 43 ō:=λ_=>rfl
def ŏ:TF:=λah=>aN (aF 1 8 (af (Gk (fS [3,4,5,6,7]) zA)
 (af (aE 1 (oI (bV mJ (cO (cS [108,97,115,116]) (k3 (oA (oA (oA (oA (cS [115,111,111,110,32]) (bV strN (k1 (vF 6)))) (cS [32,47])) (vF 5)) (cS [47])) (oA (cS [114,111,119,32]) (bV strN (k1 (vF 7)))) (oA (oA (cS [47]) (vF 5)) (cS [47]))))) (oD zD (cI 2))))
 (af (aE 2 (oI (bV mJ (cO (cS [100,114,111,112]) (k3 (cS [100,111,110,101]) (cS [112,114,105,110,116]) (oA (oA (cS [115,97,121,32,34]) (av (ah 43) [] (k1 (vF 5)))) (cS [34]))))) (vF 4)))
 (aA (oA (oA (oA (oA (oI (bV mJ (k2 (cS []) (cS [110,111,116,32]))) (oM zD (cI 2))) zB) (cS [58,32])) zC) (cS [10])))))))
def Ő:WT 44 ŏ:=λ_=>rfl
def ő:TF:=λah=>aN (aF 3 9 (af (Gk (fS [4,5,6,7,8]) zA)
 (af (aE 3 (cF (.bl false)))
 (af (aY (bW (bw (aL .Lt) (vF 4) (cI 2)))
  (aE 3 (oE (oA zC zI) (bV cz (k1 zB))))
  (aY (bW (bw (aL .Lt) (vF 4) (cI 4)))
  (aE 3 (bV oU (k1 (eK (cT (j9 (j8 zB (gW (oA zC zI)) (gW (oA (oA zC zI) (vF 7))))) 2 [6] (setG 1) fQ (bw (aL .In) zC zB))))))
  (aY (bW (bw (aL .Lt) (vF 4) (cI 6)))
  (aE 3 (oE (oA zC zI) (vF 8)))
  (aE 3 (bw (aL .In) (vF 6) (oI zB zC))))))
 (aA (bw (aL .NotEq) zD (oE (oM (vF 4) (cI 2)) zI)))))))
def Œ:WT 45 ő:=λ_=>rfl
abbrev Sz(ah:Nat->Fn):FS:=aY (tB (av (ah 45) [] (k3 (vF 4) zB zC)))
  (af (aY (bW (oE (oI (vF 4) zI) zO))
  (aA zD)
  aG)
 (af (aY (bW (oE (oI (vF 4) zI) zI))
  (aA (oA zD (bV mJ (k1 (oI zB zC)))))
  aG)
 (aY (bW (oE (oI (vF 4) zI) (cI 2)))
  (iE 3 (oI zB zC))
  (iE 3 (av (ah 43) [] (k1 (oI (vF 4) (cI 2))))))))
  aG
def œ:TF:=λah=>aN (aF 3 5 (af (ia 3 (iG bg))
 (af (fm (j9 zA) (setG 4)
  (Sz ah))
 (aA (oA zD (bV mJ (k1 (oI zB zC))))))))
def Ŕ:WT 46 œ:=λ_=>rfl
abbrev SA:FS:=aY (bW (bw (aL .Lt) (oI zC zO) (cI 2)))
  (aE 1 (bV Ax (k2 zB zI)))
  (aY (bW (bw (aL .Lt) (oI zC zO) (cI 4)))
  (aE 1 (bV Ax (k2 zB (oI zC (cI 3)))))
  aG)
def ŕ:TF:=λah=>aN (aF 1 3 (af (aE 1 zO)
 (af (fm (j9 zA) (setG 2)
  SA)
 (aA zB))))
def Ŗ:WT 47 ŕ:=λ_=>rfl
def YO:TF:=λah=>aN (aF 1 3 (af (aE 1 (cS Sv))
 (af (aE 2 (oM zA (cI 250)))
 (af (aY (bW (bw (aL .Lt) zC (cI 110)))
  (aA (oI (cS [97,98]) (bV vV (k1 (bw (aL .Lt) zC (cI 50))))))
  aG)
 (af (aY (bW (bw (aL .Lt) zC (oA (cI 110) (bV cz (k1 zB)))))
  (aA (oI zB (bw (c6 .Sub) zC (cI 110))))
  aG)
 (aA (cS [10])))))))
def ŗ:WT 48 YO:=λ_=>rfl
abbrev SD(ah:Nat->Fn):FS:=af (aE 6 (oA (vF 6) (av (ah 48) [] (k1 (oA (vF 5) (bw (c6 .Mult) (bw (c6 .Mult) (vF 7) (vF 7)) (cI 31)))))))
 (aE 5 (oD (vF 5) (cI 250)))
abbrev SE(ah:Nat->Fn):FS:=af (aE 4 (oM zD (cI 4)))
 (af (aY (bW (oE (oM (oD zD (cI 4)) (cI 9)) zI))
  (aE 4 (oM (oD zD (cI 36)) (cI 21)))
  aG)
 (af (aE 5 (oM (oD zD (cI 36)) (bw (c6 .Pow) (cI 10) (cI 60))))
 (af (aE 6 (cS []))
 (af (fm (xW mL (k1 (bV Na (k2 (vF 4) zB)))) (setG 7)
  (SD ah))
 (af (aE 1 (bw (c6 .Sub) zB (bV cz (k1 (vF 6)))))
 (iE 2 (vF 6)))))))
def Ř:TF:=λah=>aN (aF 1 8 (af (aE 1 (cI 190))
 (af (ia 2 (iG bg))
 (af (fm (j9 zA) (setG 3)
  (SE ah))
 (aA zC)))))
def ř:WT 49 Ř:=λ_=>rfl
def Ś:TF:=λah=>aN (aF 1 2 (af (ia 1 (o1 (Ay [10]) zA))
 (af (aY (bW (oE (lr 1 (dN iV zI)) (cS [])))
  (G7 1)
  aG)
 (aA zB))))
def ś:WT 50 Ś:=λ_=>rfl
def Ŝ:TF:=λah=>aN (aF 1 3 (af (ia 1 (iG bg))
 (af (fm (j9 zA) (setG 2)
  (DB 1 zC))
 (aA zB))))
def ŝ:WT 51 Ŝ:=λ_=>rfl
def Ş:TF:=λah=>aN (aF 2 2 (aA (oS (dN (Mu "list") zA) (oS (bV Aj (k1 (eK (cT (j9 zA) 2 [] (setG 1) fQ (dN (Mu "str") zB))))) (oE zA zB)))))
def ş:WT 52 Ş:=λ_=>rfl
abbrev NQ(ah:Nat->Fn):FS:=af (aE 10 (oA (vF 10) (nZ GG (vF 13) (k1 (cS [10])))))
 (af (aE 14 (vF 11))
 (af (aE 11 (bV Ax (k2 zO (bw (c6 .Sub) (vF 10) (av (ah 47) [] (k1 zB))))))
 (af (aE 15 (au (ak [(25,82)] ah) (vF 9) (k1 (vF 13))))
 (af (aY (dC (tB (av (ah 52) [] (k2 (vF 15) (av (ah 51) [] (k1 (j8 (vF 7) (gW (vF 14)) (gW (vF 11)))))))))
  (aA (cF (.bl false)))
  aG)
 (af (aE 16 (au (ak [(25,87)] ah) (vF 9) bg))
 (af (aY (qK (dC (tB (av (ah 39) [] (k1 (vF 16))))) (bW (bw (aL .NotEq) (vF 16) (bw (c6 .Sub) (vF 10) (vF 11)))))
  (aA (cF (.bl false)))
  aG)
 (iE 12 (bV gH (k2 (vF 15) (bV ye (k1 (vF 15))))))))))))
def Š:TF:=λah=>aN (aF 1 18 (af (aE 1 (eK (cT (j9 (j8 zA (gW zI) (gW (oA zI (oM (av (ah 38) [] (k2 zA zO)) (cI 5)))))) 2 [] (setG 1) fQ (av (ah 42) [] (k1 zB)))))
 (af (aE 2 (av (ah 38) [] (k2 zA zO)))
 (af (aE 3 (bw (c6 .Mult) (cS [114,111,119,32,57,48,48,58,32,112,114,105,110,116,10]) (bw (c6 .Mult) (bV vV (k1 (oE (oM (oD zC (cI 5)) (cI 8)) zI))) (oA (cI 10) (oM (oD zC (cI 40)) (cI 11))))))
 (af (aE 4 (av (ah 34) [] (k1 (oA zD (nZ joinM (cS []) (k1 (eK (cT (j9 zB) 2 [] (setG 1) fQ (av (ah 44) [] (k1 zB))))))))))
 (af (aE 5 (av (ah 49) [] (k1 (j8 zA (gW (cI 5)) r9))))
 (af (aE 6 (av (ah 50) [] (k1 (nZ joinM (cS []) (k1 (vF 5))))))
 (af (aE 7 (eK (cT (xW mL (k1 (bV cz (k1 (vF 6))))) 2 [1,6] (setG 1) fQ (av (ah 46) [] (k3 zC zD zB)))))
 (af (aE 8 (av (ah 21) [] (k1 (vF 4))))
 (af (aY (qK (dC (tB (av (ah 39) [] (k1 (vF 8))))) (bW (bw (aL .NotEq) (vF 8) (av (ah 47) [] (k1 zB)))))
  (aA (cF (.bl false)))
  aG)
 (af (aE 9 (mK 25 (ah 81) (k1 (vF 4))))
 (af (aE 10 zO)
 (af (aE 11 zO)
 (af (ia 12 (iG bg))
 (af (fm (j9 (vF 5)) (setG 13)
  (NQ ah))
 (af (aY (dC (tB (av (ah 52) [] (k2 (au (ak [(24,73),(25,83)] ah) (vF 9) bg) (av (ah 51) [] (k1 (j8 (vF 7) (gW (vF 11)) r9)))))))
  (aA (cF (.bl false)))
  aG)
 (af (fm (Dm (vF 12)) (fS [15,17])
  (aY (bW (bw (aL .NotEq) (vF 15) (vF 17)))
  (aA (cF (.bl false)))
  aG))
 (aA (cF (.bl true))))))))))))))))))))
def š:WT 53 Š:=λ_=>rfl
def Ţ:TF:=λah=>aF 3 3 (af (aH M.P.tab 14 zA zB)
 (af (aH M.P.tab 3 zA zC)
 (aH M.P.tab 15 zA (lA M.bc))))
def ţ:WT 61 Ţ:=λ_=>rfl
def Ť:TF:=λah=>aF 2 3 (af (aE 2 (av (ah 9) [] (k1 zB)))
 (af (aY (bW (rj M.bc true zC (az M.P.tab 15 zA)))
  (Ar M.bc (az M.P.tab 15 zA) zC (av (ah 14) [] (k2 zB (az M.P.tab 14 zA))))
  aG)
 (aA (Dt M.bc (az M.P.tab 15 zA) zC))))
def ť:WT 62 Ť:=λ_=>rfl
def Ŧ:TF:=λah=>aF 2 2 (af (aH M.P.tab 16 zA (eK (cT (j9 zB) 2 [] (setG 1) fQ (az M.P.tab 1 zB))))
 (aH M.P.tab 17 zA (lA M.bc)))
def ŧ:WT 63 Ŧ:=λ_=>rfl
def Ũ:TF:=λah=>aF 3 6 (af (ia 3 (iG bg))
 (af (fm (i0 0 (az M.P.tab 16 zA)) (fS [4,5])
  (iE 3 (au (ak [(23,65)] ah) zA (cO (vF 4) (k3 (vF 5) zB zC)))))
 (aA zD)))
def ũ:WT 64 Ũ:=λ_=>rfl
def Ū:TF:=λah=>aF 5 5 (af (aY (tB (dN (gK M.P.sub [8]) zC))
  (aA (qL (au (ak [(23,65)] ah) zA (cO zB (k3 (az M.P.tab 8 zC) zD (vF 4))))))
  aG)
 (af (aY (tB (dN (gK M.P.sub [7]) zC))
  (aA aT)
  aG)
 (af (aY (tB (dN (gK M.P.sub [4]) zC))
  (aA (oE (bV cz (k1 (vF 4))) zO))
  aG)
 (af (aY (tB (dN (gK M.P.sub [6]) zC))
  (aA (bV oU (k1 (eK (cT (j9 (j8 (vF 4) r9 (gW (az M.P.tab 5 zC)))) 2 [2] (setG 1) fQ (au (ak [(22,62)] ah) zB (k1 (az M.P.tab 4 zC))))))))
  aG)
 (aA (av (ah 18) [] (k2 zC zD)))))))
def SH:WT 65 Ū:=λ_=>rfl
def ū:TF:=λah=>aF 2 2 (af (aH M.P.tab 0 zA (bV ye (k1 (az M.P.tab 0 zB))))
 (af (aH M.P.tab 18 zA (av (ah 20) [] (k1 (az M.P.tab 0 zA))))
 (af (aH M.P.tab 19 zA (mK 23 (ah 63) (k1 (az M.P.tab 0 zA))))
 (af (aH M.P.tab 20 zA (bV mJ bg))
 (af (aH M.P.tab 21 zA zO)
 (af (aH M.P.tab 22 zA (lA M.bc))
 (af (aH M.P.tab 23 zA zO)
 (af (aH M.P.tab 24 zA (cF .non))
 (af (aH M.P.tab 25 zA zO)
 (af (aH M.P.tab 26 zA (lA M.bc))
 (af (aH M.P.tab 27 zA (lA M.bc))
 (af (aH M.P.tab 28 zA (jI M.bc (iG bg)))
 (af (aH M.P.tab 29 zA (jI M.bc (iG bg)))
 (af (aH M.P.tab 30 zA (cF (.bl false)))
 (aJ (au (ak [(24,67)] ah) zA bg))))))))))))))))
def Ŭ:WT 66 ū:=λ_=>rfl
def ŭ:TF:=λah=>aF 1 1 (af (eZ M.bc (az M.P.tab 29 zA) (bV gH (k2 (cS [119,97,110,116]) (oA (az M.P.tab 23 zA) zI))))
 (aH M.P.tab 30 zA (cF (.bl true))))
def YQ:WT 67 ŭ:=λ_=>rfl
def Ů:TF:=λah=>aF 3 3 (aJ (au (ak [(24,69)] ah) zA (k2 (az M.P.tab 14 zB) (au (ak [(23,64)] ah) (az M.P.tab 19 zA) (k2 zB zC)))))
def ů:WT 68 Ů:=λ_=>rfl
def Ű:TF:=λah=>aF 3 3 (af (nk M.P.tab 23 f6 zA zI)
 (af (eZ M.bc (az M.P.tab 29 zA) (bV gH (k2 (cS [116,97,107,101]) (az M.P.tab 23 zA))))
 (af (aH M.P.tab 24 zA (CL (bW (bw (aL .Is) (az M.P.tab 24 zA) (cF .non))) zB (oA (oA (az M.P.tab 24 zA) (cS [32])) zB)))
 (af (nk M.P.tab 25 f6 zA zI)
 (af (aH M.P.tab 20 zA zC)
 (af (aH M.P.tab 22 zA (lA M.bc))
 (af (aH M.P.tab 30 zA (cF (.bl false)))
 (iF many (dC (tB (az M.P.tab 30 zA)))
  (aJ (au (ak [(24,70)] ah) zA bg))))))))))
def ű:WT 69 Ű:=λ_=>rfl
def Ų:TF:=λah=>aF 1 1 (aY (bW (oE (az M.P.tab 21 zA) (bV cz (k1 (az M.P.tab 0 zA)))))
  (aJ (au (ak [(24,77)] ah) zA bg))
  (af (nk M.P.tab 21 f6 zA zI)
 (aJ (au (ak [(24,71)] ah) zA (k2 (bw xU (az M.P.tab 0 zA) (bw (c6 .Sub) (az M.P.tab 21 zA) zI)) (az M.P.tab 21 zA))))))
def YR:WT 70 Ų:=λ_=>rfl
def ų:TF:=λah=>aF 3 4 (af (aY (tB (dN (gK M.P.sub [9]) (az M.P.tab 1 zB)))
  (aA (cF .non))
  aG)
 (af (aY (bW (rj M.bc false zC (az M.P.tab 22 zA)))
  cD
  aG)
 (af (Ar M.bc (az M.P.tab 22 zA) zC (cF (.bl true)))
 (af (aE 3 (bw xU (az M.P.tab 20 zA) (bw (c6 .Sub) zC zI)))
 (af (eZ M.bc (az M.P.tab 29 zA) (bV gH (k3 (cS [109,101,101,116]) zC zD)))
 (aY (tB zD)
  (aJ (au (ak [(24,78)] ah) zA (k2 (az M.P.tab 2 zB) zC)))
  aG))))))
def Ŵ:WT 71 ų:=λ_=>rfl
def ŵ:TF:=λah=>aF 1 2 (af (aE 1 (av (ah 19) [] (k1 (As M.bc M.P.tab 29 zA))))
 (af (aH M.P.tab 29 zA (jI M.bc (iG bg)))
 (aA zB)))
def Ŷ:WT 72 ŵ:=λ_=>rfl
abbrev Xd(ah:Nat->Fn):FS:=aY (tB (dN (gK M.P.sub [9]) (az M.P.tab 1 zB)))
  (aJ (au (ak [(24,79)] ah) zA (k1 (az M.P.tab 2 zB))))
  aG
def ŷ:TF:=λah=>aF 1 2 (af (aJ (au (ak [(24,74)] ah) zA bg))
 (af (aY (bW (bw (aL .IsNot) (az M.P.tab 24 zA) (cF .non)))
  (af (aJ (au (ak [(24,77)] ah) zA bg))
 (aJ (au (ak [(24,74)] ah) zA bg)))
  aG)
 (af (eZ M.bc (az M.P.tab 29 zA) (bV gH (k1 (cS [101,110,100]))))
 (fm (j9 (az M.P.tab 0 zA)) (setG 1)
  (Xd ah)))))
def Ÿ:WT 73 ŷ:=λ_=>rfl
def Ź:TF:=λah=>aF 1 1 (eZ M.bc (az M.P.tab 29 zA) (bV gH (k2 (cS [110,111,110,101]) (oA (az M.P.tab 23 zA) zI))))
def ź:WT 74 Ź:=λ_=>rfl
def Ż:TF:=λah=>aF 2 2 (eZ M.bc (az M.P.tab 29 zA) (bV gH (k2 (cS zg) zB)))
def ż:WT 75 Ż:=λ_=>rfl
def Ž:TF:=λah=>aF 1 1 (af (eZ M.bc (az M.P.tab 29 zA) (bV gH (k1 (cS [111,118,101,114]))))
 (af (aH M.P.tab 24 zA (cF .non))
 (af (aH M.P.tab 25 zA zO)
 (af (aH M.P.tab 21 zA zO)
 (aJ (au (ak [(24,67)] ah) zA bg))))))
def ž:WT 76 Ž:=λ_=>rfl
def t77:TF:=λah=>aF 1 1 (af (aJ (au (ak [(24,75)] ah) zA (k1 (az M.P.tab 24 zA))))
 (aJ (au (ak [(24,76)] ah) zA bg)))
def w77:WT 77 t77:=λ_=>rfl
def t78:TF:=λah=>aF 3 3 (aY (tB (dN (gK M.P.sub [11]) zB))
  (aJ (au (ak [(24,76)] ah) zA bg))
  (aY (tB (dN (gK M.P.sub [12]) zB))
  (aJ (au (ak [(24,75)] ah) zA (k1 (az M.P.tab 24 zA))))
  (aY (tB (dN (gK M.P.sub [13]) zB))
  (aJ (au (ak [(24,77)] ah) zA bg))
  (aY (tB (dN (gK M.P.sub [15]) zB))
  (aJ aT)
  (aY (tB (dN (gK M.P.sub [16]) zB))
  (aJ aT)
  (aY (tB (dN (gK M.P.sub [17]) zB))
  (aJ aT)
  (aY (tB (dN (gK M.P.sub [19]) zB))
  (aH M.P.tab 21 zA (bw xU (az M.P.tab 18 zA) (az M.P.tab 9 zB)))
  (aY (tB (dN (gK M.P.sub [20]) zB))
  (aJ aT)
  (aY (dC (tB (dN (gK M.P.sub [10]) zB)))
  (aJ (au (ak [(24,79)] ah) zA (k1 zB)))
  aG)))))))))
def w78:WT 78 t78:=λ_=>rfl
def t79:TF:=λah=>aF 2 2 (aY (tB (dN (gK M.P.sub [14]) zB))
  (aJ (au (ak [(24,75)] ah) zA (k1 (az M.P.tab 10 zB))))
  (aY (tB (dN (gK M.P.sub [18]) zB))
  (aJ aT)
  (aY (tB (dN (gK M.P.sub [21]) zB))
  (aJ aT)
  aG)))
def w79:WT 79 t79:=λ_=>rfl
def t80:TF:=λah=>aF 1 3 (af (aE 1 zO)
 (af (DA M.bc (az M.P.tab 26 zA))
 (aA zB)))
def w80:WT 80 t80:=λ_=>rfl
def t81:TF:=λah=>aF 2 2 (af (aH M.P.tab 31 zA (mK 24 (ah 66) (k1 zB)))
 (af (aH M.P.tab 32 zA (av (ah 21) [] (k1 zB)))
 (af (aH M.P.tab 33 zA zO)
 (af (aH M.P.tab 34 zA (jI M.bc (iG bg)))
 (af (aH M.P.tab 35 zA (cS []))
 (aH M.P.tab 36 zA (cF (.bl false))))))))
def w81:WT 81 t81:=λ_=>rfl
def t82:TF:=λah=>aF 2 4 (af (aJ (au (ak [(25,84)] ah) zA bg))
 (af (aE 2 (nZ splitM (oA (az M.P.tab 35 zA) zB) (k1 (cS [10]))))
 (af (aH M.P.tab 35 zA (oI zC (dN iV zI)))
 (af (fm (j9 (j8 zC r9 (gW (dN iV zI)))) (setG 3)
  (aJ (au (ak [(25,85)] ah) zA (k1 zD))))
 (af (aJ (au (ak [(25,86)] ah) zA (k1 (az M.P.tab 32 zA))))
 (aA (au (ak [(24,72)] ah) (az M.P.tab 31 zA) bg)))))))
def w82:WT 82 t82:=λ_=>rfl
def t83:TF:=λah=>aF 1 1 (af (aJ (au (ak [(25,84)] ah) zA bg))
 (af (aH M.P.tab 36 zA (cF (.bl true)))
 (af (aY (bW (bw (aL .NotEq) (az M.P.tab 35 zA) (cS [])))
  (aJ (au (ak [(25,85)] ah) zA (k1 (az M.P.tab 35 zA))))
  aG)
 (af (aJ (au (ak [(25,86)] ah) zA (k1 zO)))
 (af (aJ (au (ak [(24,73),(25,83)] ah) (az M.P.tab 31 zA) bg))
 (aA (au (ak [(24,72)] ah) (az M.P.tab 31 zA) bg)))))))
def w83:WT 83 t83:=λ_=>rfl
def t84:TF:=λah=>aF 1 1 (aY (tB (az M.P.tab 36 zA))
  cD
  aG)
def w84:WT 84 t84:=λ_=>rfl
def t85:TF:=λah=>aF 2 2 (af (nk M.P.tab 33 f6 zA zI)
 (eZ M.bc (az M.P.tab 34 zA) (mK 22 (ah 61) (k2 zB (az M.P.tab 33 zA)))))
def w85:WT 85 t85:=λ_=>rfl
abbrev SI(ah:Nat->Fn):FS:=af (aE 2 (nq M.bc (az M.P.tab 34 zA)))
 (aJ (au (ak [(24,68)] ah) (az M.P.tab 31 zA) (k2 zC (Dz M.bc (az M.P.tab 34 zA) r9 (gW (az M.P.tab 32 zA))))))
def t86:TF:=λah=>aF 2 3 (iF many (bW (bw (aL .Gt) (kU M.bc (az M.P.tab 34 zA)) zB))
  (SI ah))
def w86:WT 86 t86:=λ_=>rfl
def t87:TF:=λah=>aF 1 1 (aA (oA (oA (kU M.bc (az M.P.tab 34 zA)) (az M.P.tab 25 (az M.P.tab 31 zA))) (au (ak [(24,80)] ah) (az M.P.tab 31 zA) bg)))
def w87:WT 87 t87:=λ_=>rfl
def t88:TF:=λah=>aF 3 3 (af (aH M.P.tab 35 zA zB)
 (aH M.P.tab 3 zA zC))
def w88:WT 88 t88:=λ_=>rfl
def t89:TF:=λah=>aF 2 2 (af (aY (dC (tB (nZ A3 (az M.P.tab 35 zA) (k1 zB))))
  (aA (cF (.bl false)))
  aG)
 (af (aH M.P.tab 35 zA (j8 (az M.P.tab 35 zA) (gW (bV cz (k1 zB))) r9))
 (aA (cF (.bl true)))))
def YS:WT 89 t89:=λ_=>rfl
def t90:TF:=λah=>aF 2 2 (aY (dC (tB (au (ak [(26,89)] ah) zA (k1 zB))))
  (aJ aT)
  aG)
def w90:WT 90 t90:=λ_=>rfl
def t91:TF:=λah=>aF 2 3 (af (aE 2 (av (ah 1) [] (k2 (az M.P.tab 35 zA) zB)))
 (af (aH M.P.tab 35 zA (j8 (az M.P.tab 35 zA) (gW (bV cz (k1 zC))) r9))
 (aA zC)))
def w91:WT 91 t91:=λ_=>rfl
def t92:TF:=λah=>aF 2 4 (af (aJ (au (ak [(26,90)] ah) zA (k1 zB)))
 (af (aE 2 (nZ ua (az M.P.tab 35 zA) (k1 zB)))
 (af (aY (bW (oE zC (dN iV zI)))
  (aJ aT)
  aG)
 (af (aE 3 (j8 (az M.P.tab 35 zA) r9 (gW zC)))
 (af (aH M.P.tab 35 zA (j8 (az M.P.tab 35 zA) (gW (oA zC zI)) r9))
 (aA zD))))))
def w92:WT 92 t92:=λ_=>rfl
end K42
namespace K42
open D
variable(n:Nat){m:List _root_.D.Ob}
section
variable{a:FE}{fl:FL}{s s' s1 s2:S}{t:T}{ts:FK}
def iJ{α:Type}{l:List α}{j:Nat}(h:j<l.length):atT l (j:Int)=l[j]?:=by
 unfold atT;rw[if_pos (by omega),if_pos (by omega)];rfl
def wy{c m:Nat}(h:fl s=.ok (ts,s'))(hl:ts.length=m):fX c m fl s=.ok (.obj c ts,s'):=by
 unfold fX;rw[h];exact if_pos hl
def aw(h:a s=.ok (t,s1))(h2:fl s1=.ok (ts,s2)):cO a fl s=.ok (t::ts,s2):=by
 unfold cO;rw[h];show Res.bind (fl s1) _=_;rw[h2];rfl
def dz{i:Nat}(h:a s=.ok (t,s')):aE i a s=.ok (.nx,j7 s' i (.val t)):=by unfold aE;rw[h];rfl
end
def HA(a b:B1):aL .Eq (.str a) (.str b)=some (.bl (decide (a=b))):=rfl
def uH(a b:Int):aL .Gt (.int a) (.int b)=some (.bl (decide (b<a))):=rfl
def iY(a b:Int):aL .Lt (.int a) (.int b)=some (.bl (decide (a<b))):=rfl
theorem cH{g:FG}{e:FE}{b:Fs}{m:FV}{f:T->T}:∀{ts:FK},(∀t∈ts,∃b1 b2,g t b=some b1/\e ⟨b1,m⟩=.ok (f t,⟨b2,m⟩))->cP g fQ e b ts m=.ok (ts.map f,m)
 |[],_=>rfl
 |t::ts,h=>by
  obtain⟨b1,b2,h1,h2⟩:=h t (ee ..);unfold cP;rw[h1];show Res.bind (e ⟨b1,m⟩) _=_;rw[h2];show Res.bind (cP g fQ e b ts m) _=_;rw[cH λt ht=>h t (dX _ ht)];rfl
def yO{src:FL}{n:Nat}{js:B1}{g:FG}{c:FT}{e:FE}{s s1:S}{ts us:FK}{m':FV}(h:src s=.ok (ts,s1))(z:ts.length<=1000000)(q:cP g c e (iD n js (iW js s1.r)) ts s1.m=.ok (us,m')):cT src n js g c e s=.ok (us,⟨iW js s1.r,m'⟩):=by
 unfold cT;rw[h];show(if ts.length<=1000000 then _ else _)=_
 rw[if_pos z,q];rfl
def uI{fl:FL}{s s':S}{ts:FK}(h:fl s=.ok (ts,s')):eK fl s=.ok (.lst ts,s'):=by unfold eK;rw[h];rfl
def dm{g:FK->FR}{fl:FL}{s s':S}{ts:FK}{t:T}(h:fl s=.ok (ts,s'))(q:g ts=some t):bV g fl s=.ok (t,s'):=by unfold bV;rw[h];show Res.bind (aX (g ts)) _=_;rw[q];rfl
def aB{g:T->T->FR}{a b:FE}{s s1 s2:S}{t u v:T}(h:a s=.ok (t,s1))(h2:b s1=.ok (u,s2))(k:g t u=some v):bw g a b s=.ok (v,s2):=by
 unfold bw;rw[h];refine Eq.trans (bI _ _) ?_;dsimp only;rw[h2];refine Eq.trans (bI _ _) ?_;dsimp only;rw[k];rfl
def yP{g:FG}{b:FS}{t:T}{ts:FK}{s s1:S}{r:Fs}{q:Res (Out×S)}(h:g t s.r=some r)(hb:b ⟨r,s.m⟩=.ok (.nx,s1))(k:bo g b ts s1=q):bo g b (t::ts) s=q:=by
 unfold bo;rw[h];refine Eq.trans (bI _ _) ?_;rw[hb];exact k
def Xe{src:FL}{g:FG}{b:FS}{s s1:S}{ts:FK}{q:Res (Out×S)}(h:src s=.ok (ts,s1))(k:bo g b ts s1=q):fm src g b s=q:=by unfold fm;rw[h];exact k
def rB{i:Nat}{a:FE}{s s1:S}{Dy ts:FK}{t:T}(h0:s.r[i]?=some (some (.ol Dy)))(h:a s=.ok (t,s1))(h2:s1.r[i]?=some (some (.ol ts)))(z:ts.length<1000000):iE i a s=.ok (.nx,j7 s1 i (.ol (ts++[t]))):=by
 unfold iE;rw[h0];refine Eq.trans (bI Dy _) ?_;rw[h];refine Eq.trans (bI _ _) ?_;dsimp only;rw[h2];refine Eq.trans (bI ts _) ?_;rw[gQ z];rfl
def W.eq{α:Type}{x:Res α}{v:α}(h:W x λa=>a=v):x=.ok v:=by
 obtain⟨a,e,rfl⟩:=h;exact e
def eg{src:FL}{g:FG}{b:FS}{s:S}{QS:Out×S->Prop}(h:W (src s) λp=>W (bo g b p.1 p.2) QS):W (fm src g b s) QS:=W.bind h
def dW{np n:Nat}{B:FS}{ts:FK}{G:T×FV->Prop}(h:ts.length=np)(k:W (B ⟨ts.map (λt=>sv t)++dM (n-ts.length) none,m⟩) λp=>p.1=.nx/\G (.non,p.2.m)):W (aF np n B ts m) G:=by
 unfold aF;rw[if_pos h];exact W.bind (k.mono λp ⟨e,k⟩=>⟨_,by rw[e],k⟩)
def jl{g:T->FR}{a:FE}{s:S}{t:T}{b:Bool}(h:a s=.ok (t,s))(k:g t=some (.bl b)):D.tB (dN g a) s=.ok (b,s):=by
 unfold D.tB dN;rw[h];refine Eq.trans (congrArg (λz=>Res.bind z _) (bI _ _)) ?_;dsimp only;rw[k];rfl
def HB{c:FT}{s s':S}(h:c s=.ok (true,s')):dC c s=.ok (false,s'):=by unfold dC;rw[h];rfl
def orN{c d:FT}{s s1:S}{q:Res (Bool×S)}(h:c s=.ok (false,s1))(h2:d s1=q):qK c d s=q:=by unfold qK;rw[h];exact h2
def HC{c:Nat}{g:Fn}{fl:FL}{s s':S}{ts:FK}{m':FV}(h:fl s=.ok (ts,s'))(k:g (.own s'.m.length::ts) (s'.m++[⟨c,[]⟩])=.ok (.non,m')):mK c g fl s=.ok (.own s'.m.length,⟨s'.r,m'⟩):=by
 unfold mK;rw[h];refine Eq.trans (bI _ _) ?_;dsimp only;rw[k]
section
variable{s:S}{a:FE}{t:T}{i:Nat}{A B E:FS}{c:FT}{G:T×FV->Prop}{QS:Out×S->Prop}
def bS(e:a s=.ok (t,s))(h:WB B (j7 s i (.val t)) G):WB (af (aE i a) B) s G:=W8 e h
def bN(e:c s=.ok (false,s))(h:WB B s G):WB (af (aY c A aG) B) s G:=ċ e h
def bY(e:c s=.ok (true,s))(h:WB A s G):WB (af (aY c A B) E) s G:=Ċ e h
def bR(e:a s=.ok (t,s))(h:G (t,s.m)):WB (aA a) s G:=vf e h
def sEq{np n:Nat}{b:FS}{ts:FK}(h:aI ts=true)(hl:ts.length=np)(ht:noOwn t=true)(k:WB b ⟨ts.map (λt=>sv t)++dM (n-ts.length) none,[]⟩ λp=>p.1=t):aN (aF np n b) ts m=.ok (t,m):=W.eq (yN h ((kH hl k).mono λp hp=>⟨by rw[hp];exact ht,by rw[hp]⟩))
def cE{g:Fn}{fl:FL}{ts:FK}(h:fl s=.ok (ts,s))(k:g ts s.m=.ok (t,s.m)):av g [] fl s=.ok (t,s):=gX h (by rw[cJ];exact k)
def mE{g:Nat->Option Fn}{o:FE}{fl:FL}{k:Nat}{ob:Ob}{f:Fn}{ts:FK}{m':FV}(h:o s=.ok (.own k,s))(hm:s.m[k]?=some ob)(hg:g ob.c=some f)(ha:fl s=.ok (ts,s))(hc:f (.own k::ts) s.m=.ok (t,m')):au g o fl s=.ok (t,⟨s.r,m'⟩):=uE h hm hg ha hc
def dE{m':FV}(h:a s=.ok (t,⟨s.r,m'⟩))(k:QS (.nx,⟨s.r,m'⟩)):W (aJ a s) QS:=⟨_,by unfold aJ;rw[h];rfl,k⟩
def wS(e:a s=.ok (t,s))(h:W (B (j7 s i (.val t))) QS):W (af (aE i a) B s) QS:=dD (W.of (dz e) ⟨rfl,h⟩)
def wA{ts:FK}(h0:s.r[i]?=some (some (.ol ts)))(h:a s=.ok (t,s))(z:ts.length<1000000)(k:W (B (j7 s i (.ol (ts++[t])))) QS):W (af (iE i a) B s) QS:=dD (W.of (rB h0 h h0 z) ⟨rfl,k⟩)
def iK{gg:FG}{ts:FK}{r:Fs}(h:gg t s.r=some r)(k:W (B ⟨r,s.m⟩) λp=>p.1=.nx/\W (bo gg B ts p.2) QS):W (bo gg B (t::ts) s) QS:=by
 obtain⟨⟨o,s1⟩,e,rfl,p,e2,q⟩:=k;exact⟨p,yP h e e2,q⟩
def Ku{b:Bool}(h:a s=.ok (.bl b,s)):D.tB a s=.ok (b,s):=by unfold D.tB;rw[h];rfl
def gE{b:Bool}(h:a s=.ok (.bl b,s)):D.bW a s=.ok (b,s):=by unfold D.bW;rw[h];rfl
def Ej{d:FT}{x y:Bool}(h:c s=.ok (x,s))(h2:d s=.ok (y,s)):kr c d s=.ok (x&&y,s):=by
 unfold kr;rw[h];cases x with
 |true=>exact h2
 |false=>rfl
def HD{g:FK->FC}{fl:FL}{s s1:S}{ts us:FK}(h:fl s=.ok (ts,s1))(k:g ts=some us):xW g fl s=.ok (us,s1):=by
 unfold xW;rw[h];refine Eq.trans (bI _ _) ?_;dsimp only;rw[k];rfl
def Xf{b:Bool}{s1:S}(h:a s=.ok (.bl b,s1)):qL a s=.ok (.bl (!b),s1):=by unfold qL;rw[h];rfl
def NR{lo hi:FO}{u:T}{x y:D2}(ha:a s=.ok (t,s))(hl:lo s=.ok (x,s))(hh:hi s=.ok (y,s))(h:EZ x y t=some u):j8 a lo hi s=.ok (u,s):=by
 unfold j8;rw[ha];refine Eq.trans (bI _ _) ?_;dsimp only;rw[hl];refine Eq.trans (bI _ _) ?_;dsimp only;rw[hh];refine Eq.trans (bI _ _) ?_;dsimp only;rw[h];rfl
def A5{ts:FK}(h:a s=.ok (t,s))(k:UA t=some ts):j9 a s=.ok (ts,s):=by
 unfold j9;rw[h];refine Eq.trans (bI _ _) ?_;dsimp only;rw[k];rfl
def NS{src:FL}{n:Nat}{js:B1}{g:FG}{e:FE}{ts us:FK}(h:src s=.ok (ts,s))(z:ts.length<=1000000)(hf:iW js s.r=s.r)(q:cP g c e (iD n js s.r) ts s.m=.ok (us,s.m)):eK (cT src n js g c e) s=.ok (.lst us,s):=by
 have:=uI (yO (n:=n) (js:=js) (g:=g) (c:=c) (e:=e) (us:=us) (m':=s.m) h z (by rw[hf];exact q))
 rw[hf]at this;exact this
def pE(h:a s=.ok (t,s)){b:FE}{u v:T}{g:T->T->FR}(h2:b s=.ok (u,s))(k:g t u=some v):bw g a b s=.ok (v,s):=aB h h2 k
def Kv{f:B1->FK->FR}{o:FE}{fl:FL}{s s1 s2:S}{l:B1}{ts:FK}{t:T}(h:o s=.ok (.str l,s1))(h2:fl s1=.ok (ts,s2))(h3:f l ts=some t):nZ f o fl s=.ok (t,s2):=by
 unfold nZ;rw[h];refine Eq.trans (bI _ _) ?_;refine Eq.trans (bI _ _) ?_;dsimp only;rw[h2];refine Eq.trans (bI _ _) ?_;dsimp only;rw[h3];rfl
end
section
variable{a:FE}{s s1:S}{k kb nb f j:Nat}{ob:Ob}{t:T}{m:FV}{ks:List Ky}{ts:FK}
def jX(h:a s=.ok (.own k,s1))(hm:s1.m[k]?=some ob)(hj:iC M.P.tab ob.c f=some j)(hf:ob.fs[j]?=sv t):az M.P.tab f a s=.ok (t,s1):=by
 unfold az;rw[h];refine Eq.trans (bI _ _) ?_;show Res.bind (aX ((s1.m[k]?).bind _)) _=_;rw[hm];show Res.bind (aX ((iC M.P.tab ob.c f).bind _)) _=_;rw[hj];show Res.bind (aX (ob.fs[j]?)) _=_;rw[hf];rfl
def yQ(h:m[kb]?=some ⟨nb,[.od ks ts]⟩):oY nb m (.own kb)=some (kb,ks,ts):=by
 have e:uq nb m (.own kb)=some (kb,.od ks ts):=by
  show(m[kb]?).bind _=_;rw[h];exact if_pos rfl
 unfold oY;rw[e];rfl
def nC(h:m[kb]?=some ⟨nb,[.ol ts]⟩):oX nb m (.own kb)=some (kb,ts):=by
 have e:uq nb m (.own kb)=some (kb,.ol ts):=by
  show(m[kb]?).bind _=_;rw[h];exact if_pos rfl
 unfold oX;rw[e];rfl
end
def Xg{c d:FT}{s s1:S}(h:c s=.ok (false,s1)):kr c d s=.ok (false,s1):=by
 unfold kr;rw[h];rfl
def rC{c:FT}{B:FS}{k:Nat}{s s1:S}{QS:Out×S->Prop}(hc:c s=.ok (true,s1))(h:W (B s1) λq=>q.1=.nx/\W (bB c B k q.2) QS):W (bB c B (k+1) s) QS:=by
 obtain⟨⟨o,s2⟩,e,rfl,h⟩:=h;obtain⟨a,e2,h⟩:=h;refine⟨a,?_,h⟩;show Res.bind (c s) _=_;rw[hc];show Res.bind (B s1) _=_;rw[e];exact e2
def AD{c:FT}{B:FS}{k:Nat}{s s1:S}{QS:Out×S->Prop}(hc:c s=.ok (false,s1))(h:QS (.nx,s1)):W (bB c B (k+1) s) QS:=by
 refine⟨_,?_,h⟩;show Res.bind (c s) _=_;rw[hc];rfl
def SC(rest:B1)(k:Int):FV:=[⟨26,[.val (.str rest),.val (.int k)]⟩]
abbrev St(r:Fs)(rest:B1)(k:Int):S:=⟨sv (.own 0)::r,SC rest k⟩
section
variable{r:Fs}{rest uJ l w:B1}{k:Int}{a:FE}{ah:Nat->Fn}{fl:FL}{ts:FK}{t:T}{i:Nat}
def NT:az M.P.tab 35 zA (St r rest k)=.ok (.str rest,St r rest k):=rfl
def NU(h:a (St r rest k)=.ok (.str l,St r rest k)):aH M.P.tab 35 zA a (St r rest k)=.ok (.nx,St r l k):=by
 unfold aH;rw[h];rfl
def sm(ha:fl (St r rest k)=.ok (ts,St r rest k))(hc:ah i (.own 0::ts) (SC rest k)=.ok (t,SC uJ k)):au (ak [(26,i)] ah) zA fl (St r rest k)=.ok (t,St r uJ k):=by
 exact uE (ob:=⟨26,[.val (.str rest),.val (.int k)]⟩) (s1:=St r rest k) rfl rfl rfl ha hc
def AE(h:pre w rest=false):cN (n+1) 89 [.own 0,.str w] (SC rest k)=.ok (.bl false,SC rest k):=by
 rw[YS];refine eB rfl (Ed (A4 (s':=St [sv (.str w)] rest k) ?_ rfl)) rfl;show dC _ (St [sv (.str w)] rest k)=_;simp only[ev,uF,NT,bI,rA,A3,h,Jt]
def nE:cN (n+1) 89 [.own 0,.str w] (SC (w++rest) k)=.ok (.bl true,SC rest k):=by
 rw[YS];refine eB rfl (seq1 (s':=St [sv (.str w)] (w++rest) k) (o8 (s':=St [sv (.str w)] (w++rest) k) ?_ rfl) (seq1 (NU (l:=rest) ?_) rfl)) rfl
 ·show dC _ (St [sv (.str w)] (w++rest) k)=_
  simp only[ev,uF,NT,bI,rA,A3,pre_app,BU]
 ·simp only[ev,uF,NT,bI,rA,cz,CJ,EZ,jV]
def yR:cN (n+2) 90 [.own 0,.str w] (SC (w++rest) k)=.ok (.non,SC rest k):=by
 rw[w90];refine wu rfl (o8 (s':=St [sv (.str w)] rest k) ?_ rfl) rfl;show dC (D.tB (au _ _ _)) (St [sv (.str w)] (w++rest) k)=_;have e:au (ak [(26,89)] (cN (n+1))) zA (k1 zB) (St [sv (.str w)] (w++rest) k)=.ok (.bl true,St [sv (.str w)] rest k):=sm rfl (nE n);simp only[ev,e,bI,rA,BU]
end
section
variable{a b signs:B1}{m:FV}
def Ek(c:Nat)(l:B1):aL .In (.str [c]) (.str l)=some (.bl (decide (c∈l))):=rfl
def yS{P R:B1}{c:Nat}:gi (.str (P++c::R)) (.int P.length)=some (.str [c]):=by
 show(atT (P++c::R) (P.length:Int)).map _=_;rw[iJ (by simp)]
 simp
theorem El(hb:∀c,b.head?=some c->c∉signs):∀(a P:B1)(f:Nat),(∀c∈a,c∈signs)->a.length<f->W (bB (kr (D.bW (bw (aL .Lt) zC (bV cz (k1 zA)))) (D.bW (bw (aL .In) (oI zA zC) zB))) (CM f6 2 zI) f ⟨[sv (.str (P++(a++b))),sv (.str signs),sv (.int P.length)],m⟩) λq=>q=(.nx,⟨[sv (.str (P++(a++b))),sv (.str signs),sv (.int (P++a).length)],m⟩)
 |_,_,0,_,h=>absurd h (Jl _)
 |[],P,f+1,_,_=>by
  rw[jw,cJ];cases b with
  |nil=>exact AD (Xg (gE (aB rfl rfl (by rw[iY,decide_eq_false (by simp)])))) rfl
  |cons d r=>exact AD ((Ej (x:=true) (y:=false) (gE (aB rfl rfl (by rw[iY,decide_eq_true (by simp;omega)]))) (gE (aB (aB rfl rfl yS) rfl (by rw[Ek,decide_eq_false (hb d rfl)]))))) rfl
 |c::a,P,f+1,ha,h=>by
  have ih:=El hb a (P++[c]) f (λd hd=>ha d (dX _ hd)) (Nat.lt_of_succ_lt_succ h);rw[fK,fK,b9 (bs:=[c])]at ih;exact rC (Ej (x:=true) (y:=true) (gE (aB rfl rfl (by rw[iY,decide_eq_true (by simp;omega)]))) (gE (aB (aB rfl rfl yS) rfl (by rw[Ek,decide_eq_true (ha c (ee ..))])))) (W.of rfl ⟨rfl,ih⟩)
def NV(ha:∀c∈a,c∈signs)(hb:∀c,b.head?=some c->c∉signs)(hl:a.length<1000):cN (n+1) 1 [.str (a++b),.str signs] m=.ok (.str a,m):=by
 rw[w1];refine sEq rfl rfl rfl (bS (t:=.int 0) rfl (bJ ((El hb a [] many ha (by show a.length<1000000;omega)).mono λq hq=>⟨by rw[hq],?_⟩)))
 rw[hq];refine bR (t:=.str a) ?_ rfl;simp only[ev,uF,bI,rA,EZ,jw,Eg]
def HE{k:Int}(ha:∀c∈a,c∈signs)(hb:∀c,b.head?=some c->c∉signs)(hl:a.length<1000):cN (n+2) 91 [.own 0,.str signs] (SC (a++b) k)=.ok (.str a,SC b k):=by
 rw[w91];refine eB (s':=St [sv (.str signs),sv (.str a)] b k) rfl (seq1 (s':=St [sv (.str signs),sv (.str a)] (a++b) k) ?_ (seq1 (NU (l:=b) ?_) rfl)) rfl
 ·show aE 2 (av _ _ _) (St [sv (.str signs),none] (a++b) k)=_
  have e:av (cN (n+1) 1) [] (k2 (az M.P.tab 35 zA) zB) (St [sv (.str signs),none] (a++b) k)=.ok (.str a,St [sv (.str signs),none] (a++b) k):=gX (ts:=[.str (a++b),.str signs]) (s':=St [sv (.str signs),none] (a++b) k) rfl (NV n ha hb hl);simp only[ev,uF,e,bI]
 ·simp only[ev,uF,NT,bI,rA,cz,CJ,EZ,jV]
end
def nF{c:Nat}{l b:B1}{k:Int}(h:c∉l):cN (n+3) 92 [.own 0,.str [c]] (SC (c::(l++c::b)) k)=.ok (.str l,SC b k):=by
 rw[w92];refine eB (s':=St [sv (.str [c]),sv (.int l.length),sv (.str l)] b k) rfl ?_ rfl;refine seq1 (s':=St [sv (.str [c]),none,none] (l++c::b) k) ?_ (seq1 (s':=St [sv (.str [c]),sv (.int l.length),none] (l++c::b) k) ?_ (seq1 (s':=St [sv (.str [c]),sv (.int l.length),none] (l++c::b) k) (o8 (s':=St [sv (.str [c]),sv (.int l.length),none] (l++c::b) k) ?_ rfl) (seq1 (s':=St [sv (.str [c]),sv (.int l.length),sv (.str l)] (l++c::b) k) ?_ (seq1 (NU (l:=b) ?_) rfl))))
 ·have e:au (ak [(26,90)] (cN (n+2))) zA (k1 zB) (St [sv (.str [c]),none,none] ([c]++(l++c::b)) k)=.ok (.non,St [sv (.str [c]),none,none] (l++c::b) k):=sm rfl (yR n)
  show aJ _ (St [sv (.str [c]),none,none] ([c]++(l++c::b)) k)=_;simp only[ev,e,bI]
 ·simp only[ev,uF,NT,bI,rA,AB c l b h]
 ·have e:aL .Eq (.int l.length) (.int (-1))=some (.bl (decide ((l.length:Int)=-1))):=rfl
  simp only[ev,uF,bI,rA,iV,e];rw[decide_eq_false (by omega)]
 ·simp only[ev,uF,NT,bI,rA,EZ,Eg]
 ·have e:c6 .Add (.int l.length) (.int 1)=some (.int ((l++[c]).length:Nat)):=by
   rw[b9];rfl
  have e2:bu (l++c::b) (some ((l++[c]).length:Int)) none=b:=by
   have:=jV (l++[c]) b
   rw[fK]at this;exact this
  simp only[ev,uF,NT,bI,rA,e,EZ,e2]
section
variable{r:Fs}{rest uJ l w:B1}{k:Int}{ah:Nat->Fn}{fl:FL}{ts:FK}{t:T}{i:Nat}{A B:FS}{R:Res (Out×S)}{s s' s1 s2:S}{a:FE}
def pT:D.tB (au (ak [(26,89)] (cN (n+1))) zA (k1 (cS w))) (St r (w++rest) k)=.ok (true,St r rest k):=by
 have e:au (ak [(26,89)] (cN (n+1))) zA (k1 (cS w)) (St r (w++rest) k)=.ok (.bl true,St r rest k):=sm rfl (nE n);simp only[ev,e,bI,rA]
def pN(h:pre w rest=false):D.tB (au (ak [(26,89)] (cN (n+1))) zA (k1 (cS w))) (St r rest k)=.ok (false,St r rest k):=by
 have e:au (ak [(26,89)] (cN (n+1))) zA (k1 (cS w)) (St r rest k)=.ok (.bl false,St r rest k):=sm rfl (AE n h);simp only[ev,e,bI,rA]
def mP:aJ (au (ak [(26,90)] (cN (n+2))) zA (k1 (cS w))) (St r (w++rest) k)=.ok (.nx,St r rest k):=by
 have e:au (ak [(26,90)] (cN (n+2))) zA (k1 (cS w)) (St r (w++rest) k)=.ok (.non,St r rest k):=sm rfl (yR n);simp only[ev,e,bI]
def skip(h:pre w rest=false)(q:B (St r rest k)=R):af (aY (D.tB (au (ak [(26,89)] (cN (n+1))) zA (k1 (cS w)))) A aG) B (St r rest k)=R:=seq1 (o8 (pN n h) rfl) q
def hit(q:A (St r rest k)=.ok (.rt t,s')):af (aY (D.tB (au (ak [(26,89)] (cN (n+1))) zA (k1 (cS w)))) A aG) B (St r (w++rest) k)=.ok (.rt t,s'):=Ed (A4 (pT n) q)
def cR(ha:fl (St r rest k)=.ok (ts,St r rest k))(hc:ah i (.own 0::ts) (SC rest k)=.ok (t,SC uJ k)):av (ah i) [] (cO zA fl) (St r rest k)=.ok (t,St r uJ k):=by
 refine gX (ts:=.own 0::ts) (s':=St r rest k) ?_ (by rw[cJ];exact hc)
 show Res.bind (fl (St r rest k)) _=_;rw[ha];rfl
end
def AF:B1:=[48,49,50,51,52,53,54,55,56,57]
def qe{d b:B1}{v lo hi k:Int}(hd:∀c∈d,c∈AF)(h0:d≠[])(hz:pre [48] d=false)(hl:d.length<=3)(VP:vV [.str d]=some (.int v))(h1:lo<=v)(h2:v<=hi)(hb:∀c,b.head?=some c->c∉AF) :
  cN (n+3) 29 [.own 0,.int lo,.int hi] (SC (d++b) k)=.ok (.int v,SC b k):=by
 rw[İ];refine eB (s':=St [sv (.int lo),sv (.int hi),sv (.str d),sv (.int v)] b k) rfl ?_ rfl;have e:au (ak [(26,91)] (cN (n+2))) zA (k1 (cS AF)) (St [sv (.int lo),sv (.int hi),none,none] (d++b) k)=.ok (.str d,St [sv (.int lo),sv (.int hi),none,none] b k):=sm rfl (HE n hd hb (by omega))
 refine seq1 (dz e) (seq1 (o8 (s':=St [sv (.int lo),sv (.int hi),sv (.str d),none] b k) ?_ rfl) (seq1 (s':=St [sv (.int lo),sv (.int hi),sv (.str d),sv (.int v)] b k) ?_ (seq1 (o8 (s':=St [sv (.int lo),sv (.int hi),sv (.str d),sv (.int v)] b k) ?_ rfl) rfl)))
 ·show qK _ _ (St [sv (.int lo),sv (.int hi),sv (.str d),none] b k)=_
  have g1:decide (d=[])=false:=decide_eq_false h0;have g2:decide ((3:Int)<(d.length:Nat))=false:=decide_eq_false (by omega)
  simp only[qK,ev,uF,bI,rA,HA,g1,A3,hz,cz,CJ,uH,g2,sD,if_false]
 ·simp only[ev,uF,bI,rA,VP]
 ·have g1:decide (v<lo)=false:=decide_eq_false (by omega)
  have g2:decide (hi<v)=false:=decide_eq_false (by omega)
  simp only[qK,ev,uF,bI,rA,iY,uH,g1,g2,sD,if_false]
def uK:T->T:=λ_=>.bl true
theorem all_true:∀(l:FK),boolsOf (l.map uK)=some (l.map λ_=>true)
 |[]=>rfl
 |_::l=>by
  show(boolsOf (l.map uK)).map _=_;rw[all_true l];rfl
def nG{l signs:B1}(h:∀c∈l,c∈signs)(hl:l.length<=1000):cN (n+1) 0 [.str l,.str signs] m=.ok (.bl true,m):=by
 rw[w0];refine qc (m':=[]) rfl (eB (s':=⟨[sv (.str l),sv (.str signs)],[]⟩) rfl (fD (dm (ts:=[.lst ((l.map λc=>T.str [c]).map uK)]) (aw (uI (yO (ts:=l.map λc=>T.str [c]) (s1:=⟨[sv (.str l),sv (.str signs)],[]⟩) rfl (by rw[bK];omega) (cH λt ht=>?_))) rfl) ?_)) rfl) rfl
 ·obtain⟨c,hc,rfl⟩:=ez.mp ht
  refine⟨[none,sv (.str [c]),sv (.str signs)],[none,sv (.str [c]),sv (.str signs)],rfl,?_⟩;simp only[ev,uF,bI,rA,Ek,decide_eq_true (h c hc),uK]
 ·simp only[Aj,Gi,all_true]
  simp
noncomputable def o9:B1:=Ei
def Em{l b:B1}{k:Int}(h:∀c∈l,c∈o9/\c≠34)(hl:l.length<=40):cN (n+4) 30 [.own 0] (SC (34::(l++34::b)) k)=.ok (.str l,SC b k):=by
 rw[Ĳ];have hq:34∉l:=λz=>(h 34 z).2 rfl;refine eB (s':=St [sv (.str l)] b k) rfl ?_ rfl;have e:au (ak [(26,92)] (cN (n+3))) zA (k1 (cS [34])) (St [none] (34::(l++34::b)) k)=.ok (.str l,St [none] b k):=sm rfl (nF n hq);refine seq1 (dz e) (seq1 (o8 (s':=St [sv (.str l)] b k) ?_ rfl) rfl);show qK _ _ (St [sv (.str l)] b k)=_;have e2:av (cN (n+3) 0) [] (k2 zB (cS o9)) (St [sv (.str l)] b k)=.ok (.bl true,St [sv (.str l)] b k):=gX (ts:=[.str l,.str o9]) (s':=St [sv (.str l)] b k) rfl (nG (n+2) (λc hc=>(h c hc).1) (by omega))
 unfold o9 at e2;have g2:decide ((40:Int)<(l.length:Nat))=false:=decide_eq_false (by omega)
 unfold qK dC;rw[show D.bW (bw (aL .Gt) (bV cz (k1 zB)) (cI 40)) (St [sv (.str l)] b k)=.ok (false,St [sv (.str l)] b k) by simp only[ev,uF,bI,rA,cz,CJ,uH,g2]]
 show Res.bind (D.tB (av _ _ _) (St [sv (.str l)] b k)) _=_;unfold D.tB;rw[e2];rfl
structure Nm(d:B1)(v:Int):Prop where
 hd:∀c∈d,c∈AF
 h0:d≠[]
 hz:pre [48] d=false
 hl:d.length<=3
 hi:vV [.str d]=some (.int v)
structure Pt(w:B1)(t:T):Prop where
 no:47∉w
 eq:∀n m,cN (n+7) 3 [.str w] m=.ok (t,m)
def gY{w b:B1}{t:T}{k:Int}(P:Pt w t):cN (n+8) 31 [.own 0] (SC (47::(w++47::b)) k)=.ok (t,SC b k):=by
 rw[Ĵ];have e:au (ak [(26,92)] (cN (n+7))) zA (k1 (cS [47])) (St [none] (47::(w++47::b)) k)=.ok (.str w,St [none] b k):=sm rfl (nF (n+4) P.no);exact eB (s':=St [sv (.str w)] b k) rfl (seq1 (dz e) (fD (gX (ts:=[.str w]) (s':=St [sv (.str w)] b k) rfl (P.eq n _)))) rfl
def SJ(b:B1):Prop:=∀c,b.head?=some c->c∉AF
inductive RP where
 |row (d:B1) (v:Int)|like (w:B1) (t:T)
def RP.ok:RP->Prop
 |.row d v=>Nm d v/\1<=v/\v<=999
 |.like w t=>Pt w t
noncomputable def RP.txt:RP->B1->B1
 |.row d _,b=>114::111::119::32::(d++b)
 |.like w _,b=>47::(w++47::b)
noncomputable def RP.val:RP->T
 |.row _ v=>.obj 3 [.int v]
 |.like _ t=>.obj 5 [t]
def SK{x:RP}{b:B1}{k:Int}(h:x.ok)(hb:SJ b):cN (n+9) 27 [.own 0] (SC (x.txt b) k)=.ok (x.val,SC b k):=by
 rw[Ĭ];cases x with
 |row d v=>
  obtain⟨N,h1,h2⟩:=h;exact eB (s':=St [] b k) rfl (hit (w:=[114,111,119,32]) (rest:=d++b) (n+7) (fD (wy (ts:=[.int v]) (aw (cR (ts:=[.int 1,.int 999]) rfl (qe (n+5) N.hd N.h0 N.hz N.hl N.hi h1 h2 hb)) rfl) rfl))) rfl
 |like w t=>
  exact eB (s':=St [] b k) rfl (skip (n+7) (eW (by decide)) (fD (wy (ts:=[t]) (aw (cR (ts:=[]) rfl (gY n h)) rfl) rfl))) rfl
inductive PC where
 |last|soon (d:B1) (v:Int) (w:B1) (t:T)|rp (x:RP)
def PC.ok:PC->Prop
 |.last=>True
 |.soon d v w t=>Nm d v/\1<=v/\v<=3/\Pt w t
 |.rp x=>x.ok
noncomputable def PC.txt:PC->B1->B1
 |.last,b=>108::97::115::116::b
 |.soon d _ w _,b=>115::111::111::110::32::(d++32::47::(w++47::b))
 |.rp x,b=>x.txt b
noncomputable def PC.val:PC->T
 |.last=>.obj 4 []
 |.soon _ v _ t=>.obj 6 [.int v,t]
 |.rp x=>x.val
def SM(b:B1):SJ (32::b):=λc h=>by cases h;decide
def rD{x:RP}{b w:B1}{c:Nat}(h1:c≠114)(h2:c≠47):pre (c::w) (x.txt b)=false:=by
 cases x with
 |row d v=>exact eW h1
 |like w t=>exact eW h2
def uL{x:PC}{b:B1}{k:Int}(h:x.ok)(hb:SJ b):cN (n+10) 26 [.own 0] (SC (x.txt b) k)=.ok (x.val,SC b k):=by
 rw[Ī];cases x with
 |last=>exact eB (s':=St [none,none] b k) rfl (hit (w:=[108,97,115,116]) (rest:=b) (n+8) (fD (wy (ts:=[]) rfl rfl))) rfl
 |soon d v w t=>
  obtain⟨N,h1,h2,P⟩:=h;refine eB (s':=St [sv (.int v),none] b k) rfl (skip (n+8) (eW (by decide)) (hit (w:=[115,111,111,110,32]) (rest:=d++32::47::(w++47::b)) (n+8) ?_)) rfl
  refine seq1 (s':=St [sv (.int v),none] (32::47::(w++47::b)) k) (dz (cR (ts:=[.int 1,.int 3]) rfl (qe (n+6) N.hd N.h0 N.hz N.hl N.hi h1 h2 (SM _)))) (seq1 (mP (w:=[32]) (rest:=47::(w++47::b)) (n+7)) (fD (wy (ts:=[.int v,t]) (aw (t:=.int v) rfl (aw (cR (ts:=[]) rfl (gY (n+1) P)) rfl)) rfl)))
 |rp x=>
  exact eB (s':=St [none,none] b k) rfl (skip (n+8) (rD (by decide) (by decide)) (skip (n+8) (rD (by decide) (by decide)) (skip (n+8) (rD (by decide) (by decide)) (fD (cR (ts:=[]) rfl (SK n h hb)))))) rfl
inductive CD where
 |no (x:PC)|pc (x:PC)
def CD.ok:CD->Prop
 |.no x=>x.ok
 |.pc x=>x.ok
noncomputable def CD.txt:CD->B1->B1
 |.no x,b=>110::111::116::32::x.txt b
 |.pc x,b=>x.txt b
noncomputable def CD.val:CD->T
 |.no x=>.obj 8 [x.val]
 |.pc x=>x.val
def wz{x:PC}{b w:B1}{c:Nat}(h:c≠114/\c≠47/\c≠108/\c≠115):pre (c::w) (x.txt b)=false:=by
 obtain⟨h1,h2,h3,h4⟩:=h;cases x with
 |last=>exact eW h3
 |soon d v w t=>exact eW h4
 |rp x=>exact rD h1 h2
def lL{x:CD}{b:B1}{k:Int}(h:x.ok)(hb:SJ b):cN (n+11) 25 [.own 0] (SC (x.txt b) k)=.ok (x.val,SC b k):=by
 rw[Ĩ];cases x with
 |no x=>exact eB (s':=St [] b k) rfl (skip (n+9) (eW (by decide)) (hit (w:=[110,111,116,32]) (rest:=x.txt b) (n+9) (fD (wy (ts:=[x.val]) (aw (cR (ts:=[]) rfl (uL n h hb)) rfl) rfl)))) rfl
 |pc x=>exact eB (s':=St [] b k) rfl (skip (n+9) (wz (by decide)) (skip (n+9) (wz (by decide)) (fD (cR (ts:=[]) rfl (uL n h hb))))) rfl
structure YT(l:B1):Prop where
 h:∀c∈l,c∈o9/\c≠34
 hl:l.length<=40
inductive DD where
 |drop|print|done|say (l:B1)
def DD.ok:DD->Prop
 |.say l=>YT l
 |_=>True
noncomputable def DD.txt:DD->B1
 |.drop=>[100,114,111,112]
 |.print=>[112,114,105,110,116]
 |.done=>[100,111,110,101]
 |.say l=>115::97::121::32::34::(l++[34])
noncomputable def DD.val:DD->T
 |.drop=>.obj 11 []
 |.print=>.obj 12 []
 |.done=>.obj 13 []
 |.say l=>.obj 14 [.str l]
section
variable{k:Int}
def NW{l b:B1}(W:YT l):cN (n+4) 30 [.own 0] (SC (34::(l++34::b)) k)=.ok (.str l,SC b k):=Em n W.h W.hl
def p2{a c d:Nat}{w r:B1}(h:c≠d):pre (a::c::w) (a::d::r)=false:=by rw[Eh];exact eW h
def sk{c d:Nat}{w' q':B1}(n:Nat){r:Fs}{A B:FS}{R:Res (Out×S)}(q:B (St r (d::q') k)=R)(h:c≠d:=by decide):af (aY (D.tB (au (ak [(26,89)] (cN (n+8+1))) zA (k1 (cS (c::w'))))) A aG) B (St r (d::q') k)=R:=skip (n+8) (eW h) q
def HG{x:DD}(h:x.ok):cN (n+10) 28 [.own 0] (SC x.txt k)=.ok (x.val,SC [] k):=by
 rw[Į];refine eB (s':=St [] [] k) rfl ?_ rfl;show af _ _ (St [] x.txt k)=_;cases x with
 |drop=>exact hit (w:=[100,114,111,112]) (rest:=[]) (n+8) (fD rfl)
 |print=>exact sk n (hit (w:=[112,114,105,110,116]) (rest:=[]) (n+8) (fD rfl))
 |done=>exact skip (n+8) (p2 (by decide)) (sk n (hit (w:=[100,111,110,101]) (rest:=[]) (n+8) (fD rfl)))
 |say l=>exact sk n (sk n (sk n (sk n (hit (w:=[115,97,121,32]) (rest:=34::(l++[34])) (n+8) (fD (wy (ts:=[.str l]) (aw (cR (ts:=[]) rfl (NW (n+5) h)) rfl) rfl))))))
end
def AG:Ap:=[[114,111,119,32],[108,97,115,116],[47],[115,111,111,110,32],[102,114,111,109,32],[110,111,116,32],[101,110,100]]
def wB(rest:B1):Bool:=AG.any λw=>pre w rest
def jY{w r:B1}(h:w∈AG):wB (w++r)=true:=Bu.mpr ⟨w,h,pre_app w r⟩
def En(x:CD)(b:B1):wB (x.txt b)=true:=by
 have rp:∀(x:RP)(b:B1),wB (x.txt b)=true:=λx b=>by
  cases x with
  |row d v=>exact jY (w:=[114,111,119,32]) (by decide)
  |like w t=>exact jY (w:=[47]) (by decide)
 have pc:∀(x:PC)(b:B1),wB (x.txt b)=true:=λx b=>by
  cases x with
  |last=>exact jY (w:=[108,97,115,116]) (by decide)
  |soon d v w t=>exact jY (w:=[115,111,111,110,32]) (by decide)
  |rp x=>exact rp x b
 cases x with
 |no x=>exact jY (w:=[110,111,116,32]) (by decide)
 |pc x=>exact pc x b
def YU(rest:B1):T->T
 |.str w=>.bl (pre w rest)
 |_=>.non
theorem kI(f:B1->Bool):∀l:Ap,boolsOf (l.map λw=>T.bl (f w))=some (l.map f)
 |[]=>rfl
 |w::l=>by
  show(boolsOf (l.map λw=>T.bl (f w))).map _=_;rw[kI f l];rfl
def any_eq{rest:B1}{k:Int}:D.tB (bV oU (k1 (eK (cT (j9 (cF (.tup [(.str [114,111,119,32]),(.str [108,97,115,116]),(.str [47]),(.str [115,111,111,110,32]),(.str [102,114,111,109,32]),(.str [110,111,116,32]),(.str [101,110,100])]))) 2 [0] (setG 1) fQ (nZ A3 (az M.P.tab 35 zC) (k1 zB)))))) (St [none] rest k)=.ok (wB rest,St [none] rest k):=by
 have e:bV oU (k1 (eK (cT (j9 (cF (.tup [(.str [114,111,119,32]),(.str [108,97,115,116]),(.str [47]),(.str [115,111,111,110,32]),(.str [102,114,111,109,32]),(.str [110,111,116,32]),(.str [101,110,100])]))) 2 [0] (setG 1) fQ (nZ A3 (az M.P.tab 35 zC) (k1 zB))))) (St [none] rest k)=.ok (.bl (wB rest),St [none] rest k):=by
  refine dm (ts:=[.lst ((AG.map T.str).map (YU rest))]) (aw (uI (yO (ts:=AG.map T.str) (s1:=St [none] rest k) rfl (by decide) (cH λt ht=>?_))) rfl) ?_
  ·obtain⟨w,_,rfl⟩:=ez.mp ht
   exact⟨[none,sv (.str w),sv (.own 0)],[none,sv (.str w),sv (.own 0)],rfl,rfl⟩
  ·have:(AG.map T.str).map (YU rest)=AG.map λw=>T.bl (pre w rest):=by rw[du];rfl
   rw[this];simp only[oU,CK,kI];unfold wB;rw[Jx,xf];rfl
 unfold D.tB;rw[e];rfl
inductive LN where
 |full (c:CD) (x:DD)
def LN.ok:LN->Prop
 |.full c x=>c.ok/\x.ok
noncomputable def LN.txt:LN->B1
 |.full c x=>c.txt (58::32::x.txt)
def LN.cond:LN->T
 |.full c _=>c.val
def LN.lC:LN->T
 |.full _ x=>x.val
noncomputable def LN.val(x:LN):T:=.obj 1 [x.cond,x.lC]
def Xh(x:CD)(b w:B1):pre (109::w) (x.txt b)=false:=by
 cases x with
 |no x=>exact eW (by decide)
 |pc x=>exact wz (by decide)
def SN(b:B1):SJ (58::b):=λc h=>by cases h;decide
def rE{x:LN}{k:Int}(h:x.ok):cN (n+12) 24 [.own 0] (SC x.txt k)=.ok (x.val,SC [] k):=by
 rw[Ħ];cases x with
 |full c x=>
  refine eB (s':=St [sv c.val] [] k) rfl (skip (n+10) (Xh c _ _) (seq1 (s':=St [none] (c.txt (58::32::x.txt)) k) (o8 (s':=St [none] (c.txt (58::32::x.txt)) k) ?_ rfl) (seq1 (s':=St [sv c.val] (58::32::x.txt) k) (dz (cR (ts:=[]) rfl (lL n h.1 (SN _)))) (seq1 (s':=St [sv c.val] (x.txt) k) (mP (w:=[58,32]) (rest:=x.txt) (n+9)) (fD (wy (ts:=[c.val,x.val]) (aw (t:=c.val) rfl (aw (cR (ts:=[]) rfl (HG (n+1) h.2)) rfl)) rfl)))))) rfl;exact HB ((any_eq (rest:=c.txt (58::32::x.txt))).trans (by rw[En]))
def HH{row:B1}{k:Int}:cN (n+1) 88 [.own 0,.str row,.int k] [⟨26,[]⟩]=.ok (.non,SC row k):=by
 rw[w88];rfl
def nH(x:LN):Prop:=∀n m,cN (n+7) 32 [x.cond,x.lC] m=.ok (.bl true,m)
def wC{x:LN}{k:Int}(h:x.ok)(hs:nH x)(hw:noOwn x.val=true):cN (n+13) 23 [.str (x.txt),.int k] m=.ok (x.val,m):=by
 rw[Ĥ];refine qc (m':=SC [] k) rfl ?_ hw;refine eB (s':=⟨[sv (.str (x.txt)),sv (.int k),sv (.own 0),sv x.val],SC [] k⟩) rfl ?_ rfl;refine seq1 (s':=⟨[sv (.str (x.txt)),sv (.int k),sv (.own 0),none],SC (x.txt) k⟩) ?_ (seq1 (s':=⟨[sv (.str (x.txt)),sv (.int k),sv (.own 0),sv x.val],SC [] k⟩) ?_ (seq1 (s':=⟨[sv (.str (x.txt)),sv (.int k),sv (.own 0),sv x.val],SC [] k⟩) (o8 (s':=⟨[sv (.str (x.txt)),sv (.int k),sv (.own 0),sv x.val],SC [] k⟩) ?_ rfl) rfl))
 ·refine dz (t:=.own 0) (s':=⟨[sv (.str (x.txt)),sv (.int k),none,none],SC (x.txt) k⟩) ?_
  exact HC (ts:=[.str (x.txt),.int k]) (s':=⟨[sv (.str (x.txt)),sv (.int k),none,none],[]⟩) rfl (HH (n+11))
 ·exact dz (gX (ts:=[.own 0]) (s':=⟨[sv (.str (x.txt)),sv (.int k),sv (.own 0),none],SC (x.txt) k⟩) rfl (rE n h))
 ·have e:av (cN (n+12) 32) [] (k2 (az M.P.tab 1 zD) (az M.P.tab 2 zD)) ⟨[sv (.str (x.txt)),sv (.int k),sv (.own 0),sv x.val],SC [] k⟩=.ok (.bl true,⟨[sv (.str (x.txt)),sv (.int k),sv (.own 0),sv x.val],SC [] k⟩):=gX (ts:=[x.cond,x.lC]) (s':=⟨[sv (.str (x.txt)),sv (.int k),sv (.own 0),sv x.val],SC [] k⟩) rfl (hs (n+5) _)
  refine orN (s1:=⟨[sv (.str (x.txt)),sv (.int k),sv (.own 0),sv x.val],SC [] k⟩) rfl (HB ?_);unfold D.tB;rw[e];rfl
structure Lk(x:LN):Prop where
 ok:x.ok
 ms:nH x
 no:noOwn x.val=true
abbrev gZ(xs:List LN):FK:=xs.map λx=>.str (x.txt)
abbrev aU(xs:List LN):FK:=xs.map LN.val
theorem uM(n:Nat){R:Option C}:∀(xs:List LN)(j:Nat)(done:FK)(u v:Option C),(∀x∈xs,Lk x)->j+xs.length<=25->done.length<=j->∃u' v',bo (fS [2,3]) (Sx (cN (n+13))) (fR (j:Nat) (gZ xs)) ⟨[R,some (.ol done),u,v],[]⟩=.ok (.nx,⟨[R,some (.ol (done++aU xs)),u',v'],[]⟩)
 |[],j,done,u,v,_,_,_=>⟨u,v,by rw[show done++aU []=done from cJ _];rfl⟩
 |x::xs,j,done,u,v,h,hj,hd=>by
  have hx:=h x (ee ..);rw[cU]at hj;obtain⟨u',v',e⟩:=uM n xs (j+1) (done++[x.val]) (sv (.int j)) (sv (.str (x.txt))) (λy hy=>h y (dX _ hy)) (by omega) (by rw[b9];show done.length+1<=_;omega)
  refine⟨u',v',yP (r:=[R,some (.ol done),sv (.int j),sv (.str (x.txt))]) rfl (seq1 (s':=⟨[R,some (.ol done),sv (.int j),sv (.str (x.txt))],[]⟩) (o8 (s':=⟨[R,some (.ol done),sv (.int j),sv (.str (x.txt))],[]⟩) ?_ rfl) (rB (Dy:=done) (ts:=done) rfl (gX (ts:=[.str (x.txt),.int j]) (s':=⟨[R,some (.ol done),sv (.int j),sv (.str (x.txt))],[]⟩) rfl (wC n hx.ok hx.ms hx.no)) rfl (by omega))) ?_⟩
  ·have g:decide ((24:Int)<(j:Nat))=false:=decide_eq_false (by omega)
   simp only[ev,uF,bI,rA,uH,g]
  ·have e2:done++aU (x::xs)=done++[x.val]++aU xs:=by simp
   rw[e2];exact e
theorem dF:∀(a:List LN),(∀x∈a,Lk x)->aI (aU a)=true
 |[],_=>rfl
 |x::a,h=>by
  show(noOwn x.val&&aI (aU a))=true;rw[(h x (ee ..)).no,dF a λy hy=>h y (dX _ hy)];rfl
theorem kX:∀(a:List LN),aI (gZ a)=true
 |[]=>rfl
 |x::a=>by
  show(true&&aI (gZ a))=true;rw[kX a];rfl
def uN{xs:List LN}(h:∀x∈xs,Lk x)(hl:xs.length<=24):cN (n+14) 35 [.lst (gZ xs)] m=.ok (.lst (aU xs),m):=by
 rw[Ľ];obtain⟨u,v,e⟩:=uM n (R:=sv (.lst (gZ xs))) xs 1 [] none none h (by omega) (jz _)
 refine qc (m':=[]) ?_ (eB (s':=⟨[sv (.lst (gZ xs)),sv (.lst (aU xs)),u,v],[]⟩) rfl (seq1 (s':=⟨[sv (.lst (gZ xs)),some (.ol []),none,none],[]⟩) rfl (seq1 (Xe (ts:=fR 1 (gZ xs)) (s1:=⟨[sv (.lst (gZ xs)),some (.ol []),none,none],[]⟩) rfl e) rfl)) rfl) ?_
 ·show(aI (gZ xs)&&true)=true
  rw[kX];rfl
 ·exact dF xs h
def Eo(x:LN):gK M.P.sub [10] x.lC=some (.bl false):=by
 obtain⟨c,d⟩:=x;cases d<;>rfl
def Xi(x:LN):gK M.P.sub [19] x.lC=some (.bl false):=by
 obtain⟨c,d⟩:=x;cases d<;>rfl
theorem uO:∀{l:FK}{i:Int}{t:T},t∈fR i l->∃j x,x∈l/\t=.tup [.int j,x]
 |[],_,_,h=>by cases h
 |x::l,i,t,h=>by
  rcases cA.mp (show t∈T.tup [.int i,x]::fR (i+1) l from h)with z|z
  ·exact⟨i,x,ee ..,z⟩
  ·obtain⟨j,y,h1,h2⟩:=uO z
   exact⟨j,y,dX _ h1,h2⟩
def Ep{B:FS}{R D u v:Option C}{xs:List LN}(hB:∀(x:LN)(u:Option C),W (B ⟨[R,D,u,sv x.val],[]⟩) λp=>p.1=.nx/\p.2=⟨[R,D,u,sv x.val],[]⟩):W (bo (fS [2,3]) B (fR 1 (aU xs)) ⟨[R,D,u,v],[]⟩) λp=>p.1=.nx/\∃u v,p.2=⟨[R,D,u,v],[]⟩:=Hz (I:=λs=>∃u v,s=⟨[R,D,u,v],[]⟩) (λt ht s hI=>by
 obtain⟨u,v,rfl⟩:=hI;obtain⟨j,x,hx,rfl⟩:=uO ht;obtain⟨q,_,rfl⟩:=ez.mp hx;exact⟨_,rfl,(hB q _).mono λp hp=>⟨hp.1,_,_,hp.2⟩⟩) ⟨u,v,rfl⟩
def uP{xs:List LN}(hv:∀x∈xs,Lk x):cN (n+1) 36 [.lst (aU xs)] m=.ok (.hU [] [],m):=by
 rw[Ŀ];refine W.eq (yN ?_ (kH rfl (bJ (W.of (a:=(Out.nx,(⟨[sv (.lst (aU xs)),some (.od [] []),none,none],[]⟩:S))) rfl ⟨rfl,bJ (eg (W.of (a:=(fR 1 (aU xs),(⟨[sv (.lst (aU xs)),some (.od [] []),none,none],[]⟩:S))) rfl ((Ep λx u=>c8 (jl (t:=x.lC) rfl (Eo x)) ⟨_,rfl,rfl,rfl⟩).mono λp hp=>⟨hp.1,?_⟩)))⟩))))
 ·show(aI (aU xs)&&true)=true
  rw[dF xs hv];rfl
 ·obtain⟨_,u,v,e⟩:=hp
  rw[e];exact vf (t:=.hU [] []) (s':=⟨[sv (.lst (aU xs)),sv (.hU [] []),u,v],[]⟩) rfl ⟨rfl,rfl⟩
def refuse_eq{xs:List LN}(hv:∀x∈xs,Lk x):cN (n+1) 37 [.lst (aU xs),.hU [] []] m=.ok (.non,m):=by
 rw[Ł];refine W.eq (yN ?_ (dW rfl (eg (W.of (a:=(fR 1 (aU xs),(⟨[sv (.lst (aU xs)),sv (.hU [] []),none,none],[]⟩:S))) rfl ((Ep λx u=>c8 (s':=⟨[sv (.lst (aU xs)),sv (.hU [] []),u,sv x.val],[]⟩) ?_ ⟨_,rfl,rfl,rfl⟩).mono λp hp=>⟨hp.1,rfl,rfl⟩)))))
 ·show(aI (aU xs)&&(true&&true))=true
  rw[dF xs hv];rfl
 ·unfold kr
  rw[jl (s:=⟨[sv (.lst (aU xs)),sv (.hU [] []),u,sv x.val],[]⟩) (t:=x.lC) rfl (Xi x)];rfl
theorem jm{c:Nat}:∀{p q:B1},c∉p->aP c (p++c::q)=p::aP c q
 |[],q,_=>by show aP c (c::q)=_;rw[aP,if_pos rfl]
 |d::p,q,h=>by
  have hd:d≠c:=λe=>h (by rw[e];exact ee ..)
  show aP c (d::(p++c::q))=_;rw[aP,if_neg hd,jm (λz=>h (dX _ z))]
abbrev AH(ls:Ap):B1:=(ls.map (·++[10])).flatten
theorem nI:∀{ls:Ap},(∀l∈ls,10∉l)->aP 10 (AH ls)=ls++[[]]
 |[],_=>rfl
 |a::r,h=>by
  show aP 10 (a++[10]++AH r)=_;rw[fK];show aP 10 (a++10::AH r)=_;rw[jm (h a (ee ..)),nI λl hl=>h l (dX _ hl)];rfl
def rF{α:Type}(xs:List α)(x:α):atT (xs++[x]) (-1)=some x:=by
 unfold atT;rw[if_neg (by decide),if_pos (by rw[b9,zG];omega)]
 have:(-1+((xs++[x]).length:Int)).toNat=xs.length:=by rw[b9,zG];omega
 rw[this];simp
def nJ{α:Type}(xs:List α)(x:α):bu (xs++[x]) none (some (-1))=xs:=by
 unfold bu gz;dsimp only;rw[if_pos (by decide)]
 have:(-1+((xs++[x]).length:Int)).toNat=xs.length:=by rw[b9,zG];omega
 rw[this];simp
def aaa:iV (.int 1)=some (.int (-1)):=rfl
theorem bC:∀(l:Ap),aI (l.map T.str)=true
 |[]=>rfl
 |x::a=>by
  show(true&&aI (a.map T.str))=true;rw[bC a];rfl
def HJ{ls:Ap}(h:∀l∈ls,10∉l)(hz:(AH ls).length<=100000):cN (n+1) 33 [.str (AH ls)] m=.ok (.tup [.lst (ls.map T.str),.bl true],m):=by
 rw[Ĺ];have e:splitM (AH ls) [.str [10]]=some (.lst ((ls++[[]]).map T.str)):=by
  show gd _ _=_;rw[gQ hz,nI h]
 have e2:gi (.lst ((ls++[[]]).map T.str)) (.int (-1))=some (.str []):=by
  show atT _ (-1)=_;rw[d_];exact rF _ _
 have e3:bu ((ls++[[]]).map T.str) none (some (-1))=ls.map T.str:=by
  rw[d_];exact nJ _ _
 refine sEq rfl rfl ?_ (bS (Kv rfl rfl e) (bY (gE (aB (aB (t:=.lst ((ls++[[]]).map T.str)) rfl (u:=.int (-1)) rfl e2) rfl (by rw[HA,decide_eq_true rfl]))) (bR (dm (ts:=[.lst (ls.map T.str),.bl true]) (aw (by show Res.ok (T.lst (bu ((ls++[[]]).map T.str) none (some (-1))),_)=_;rw[e3];rfl) rfl) rfl) rfl)))
 show(aI (ls.map T.str)&&(true&&true))=true;rw[bC];rfl
def HK{xs:List LN}{text:B1}{b:Bool}(hv:∀x∈xs,Lk x)(hl:xs.length<=24)(hc:∀m,cN (n+14) 33 [.str text] m=.ok (.tup [.lst (gZ xs),.bl b],m)):cN (n+15) 34 [.str text] m=.ok (.obj 0 [.lst (aU xs)],m):=by
 rw[Ļ];refine sEq rfl rfl ?_ (bS (cE (ts:=[.lst (gZ xs)]) (aw (pE (cE (ts:=[.str text]) rfl (hc _)) rfl rfl) rfl) (uN n hv hl)) (bS (cE (ts:=[.lst (aU xs)]) rfl (uP (n+13) hv)) (bJ (dE (cE (ts:=[.lst (aU xs),.hU [] []]) rfl (refuse_eq (n+13) hv)) ⟨rfl,bR rfl rfl⟩))));show(aI (aU xs)&&true)=true;rw[dF xs hv];rfl
def UW:B1:=[94,36,46,91,93,42,43,63,47]
def kY(c:Nat):Bool:=decide (c∈o9)&&!decide (c∈UW)
def SO(c:Nat)(l:B1):aL .NotIn (.str [c]) (.str l)=some (.bl (!decide (c∈l))):=rfl
def uQ{a b:FE}{s s1:S}{x y:Bool}(h:a s=.ok (.bl x,s1))(h2:x=true->b s1=.ok (.bl y,s1)):oS a b s=.ok (.bl (x&&y),s1):=by
 unfold oS;rw[h];refine Eq.trans (bI _ _) ?_;cases x with
 |true=>exact h2 rfl
 |false=>rfl
def Er{c:Nat}:cN (n+1) 2 [.str [c]] m=.ok (.bl (kY c),m):=by
 rw[w2];exact sEq rfl rfl rfl (bR (uQ (aB rfl rfl (Ek c o9)) λ_=>aB rfl rfl (SO c UW)) rfl)
def rG(a b:Int):aL .Eq (.int a) (.int b)=some (.bl (decide (a=b))):=rfl
def SQ(a b:Int):aL .NotEq (.int a) (.int b)=some (.bl (!decide (a=b))):=rfl
inductive IT where
 |pl (c:Nat)
structure Itm where
 k:IT
 mn:Nat
def IT.c:IT->Nat
 |.pl c=>c
def IT.sg(k:IT):B1:=[k.c]
def IT.ot(_:IT):Bool:=false
noncomputable def Itm.val(i:Itm):T:=.tup [.str i.k.sg,.bl i.k.ot,.str [i.mn]]
def Itm.ok(i:Itm):Prop:=kY i.k.c=true/\i.mn=49
abbrev iZ(ws:B1):List Itm:=ws.map λc=>⟨.pl c,49⟩
theorem rH:∀{its:List Itm},(∀i∈its,Itm.ok i)->∃ws,its=iZ ws/\∀c∈ws,kY c=true
 |[],_=>⟨[],rfl,λ_ z=>nomatch z⟩
 |⟨.pl c,mn⟩::r,h=>by
  obtain⟨ws,rfl,h2⟩:=rH (its:=r) λi hi=>h i (dX _ hi);obtain⟨h0,rfl⟩:=h _ (ee ..);exact⟨c::ws,rfl,λd hd=>(cA.mp hd).elim (λz=>z▸h0) (h2 d)⟩
def gR{c:Nat}(h:kY c=true):c∈o9/\c∉UW:=by
 unfold kY at h;rw[dq]at h;refine⟨of_decide_eq_true h.1,λz=>?_⟩;rw[decide_eq_true z]at h;cases h.2
def wD{c:Nat}(hk:kY c=true):cN (n+4) 7 [.str [c],.str [49]] m=.ok (Itm.val ⟨.pl c,49⟩,m):=by
 obtain⟨h1,h2⟩:=gR hk;rw[w7];exact sEq rfl rfl rfl (bN (gE (aB (t:=.str [c]) (u:=.str [46]) rfl rfl (by rw[HA,decide_eq_false λz=>h2 (by injection z with z _;rw[z];decide)]))) (bN (Ku (by show Res.ok (T.bl (pre [91] [c]),_)=_;rw[eW λz=>h2 (by rw[<- z];decide)])) (bN (HB (Ku (by have e:=Er (n+2) (c:=c) (m:=[]);rw[hk]at e;exact cE (ts:=[.str [c]]) rfl e))) (bR rfl rfl))))
def Xj(a b:B1):aL .NotEq (.str a) (.str b)=some (.bl (!decide (a=b))):=rfl
def wF{D R:B1}{c:Nat}(h:c≠91):cN (n+1) 5 [.str (D++c::R),.int (D.length:Nat)] m=.ok (.int ((D.length+1:Nat):Int),m):=by
 rw[w5];exact sEq rfl rfl rfl (bY (gE (aB (aB (t:=.str (D++c::R)) (u:=.int (D.length:Nat)) rfl rfl yS) rfl (by rw[Xj,decide_eq_false λz=>h (by injection z)];rfl))) (bR rfl rfl))
def NX{c:FT}{b:FS}{f:Nat}{s s1 s2:S}{q:Res (Out×S)}(h:c s=.ok (true,s1))(hb:b s1=.ok (.nx,s2))(k:bB c b f s2=q):bB c b (f+1) s=q:=by
 rw[bB,h];refine Eq.trans (bI _ _) ?_;dsimp only;rw[if_pos rfl,hb];exact k
def SS{c:FT}{b:FS}{f:Nat}{s s1:S}(h:c s=.ok (false,s1)):bB c b (f+1) s=.ok (.nx,s1):=by
 rw[bB,h];rfl
def wG{P R:B1}{s:S}{b:FE}{j:Nat}(h:vF j s=.ok (.int (P.length:Nat),s))(h2:b s=.ok (.int ((P++R).length:Nat),s)):D.bW (bw (aL .Lt) (vF j) b) s=.ok (decide (R≠[]),s):=gE (aB h h2 (by rw[iY];congr 2;apply decide_eq_decide.mpr;cases R<;>simp;omega))
def HL{P R:B1}(h:∀c,R.head?=some c->c∉[42,43,63]):cN (n+1) 6 [.str (P++R),.int (P.length:Nat)] m=.ok (.str [49],m):=by
 rw[w6];refine sEq rfl rfl rfl (bN ?_ (bR rfl rfl));unfold kr;rw[wG (R:=R) rfl rfl];refine Eq.trans (bI _ _) ?_;cases R with
 |nil=>rfl
 |cons c R=>exact gE (aB (aB (t:=.str (P++c::R)) (u:=.int (P.length:Nat)) rfl rfl yS) rfl (by rw[Ek,decide_eq_false (h c rfl)]))
theorem uR(n:Nat){b:B1}:∀(ws P:B1)(bx:FK)(f:Nat)(u v:Option C),b=P++ws->(∀c∈ws,kY c=true)->ws.length<f->bx.length+ws.length<=1000 ->
  W (bB (_root_.D.bW (bw (aL .Lt) zC (bV cz (k1 zA)))) (YK (cN (n+4))) f ⟨[sv (.str b),some (.ol bx),sv (.int (P.length:Nat)),u,v],[]⟩) λq=>q.1=.nx/\∃p u' v',q.2=⟨[sv (.str b),some (.ol (bx++(iZ ws).map Itm.val)),p,u',v'],[]⟩
 |ws,P,bx,0,u,v,_,_,hf,_=>absurd hf (Jl _)
 |[],P,bx,f+1,u,v,e,_,_,_=>by
  subst e;exact⟨_,SS (wG (P:=P) (R:=[]) (s:=⟨[sv (.str (P++[])),some (.ol bx),sv (.int (P.length:Nat)),u,v],[]⟩) rfl rfl),rfl,_,u,v,by rw[show bx++(iZ []).map Itm.val=bx from cJ bx]⟩
 |c::r,P,bx,f+1,u,v,e,h,hf,hl=>by
  have hi:=h c (ee ..);have hr:∀j∈r,kY j=true:=λj hj=>h j (dX _ hj);rw[cU]at hf hl;have hn:=(gR hi).2;have eQ:b=(P++[c])++r:=by rw[e];simp
  have bZ:(P++[c]).length=P.length+1:=by rw[b9];rfl
  obtain⟨q,eq,h1,p,u',v',h2⟩:=uR n r (P++[c]) (bx++[Itm.val ⟨.pl c,49⟩]) f (sv (.int ((P.length+1:Nat):Int))) (sv (.str [49])) eQ hr (by omega) (by rw[b9,zG];omega)
  have hm:=HL (n+3) (P:=P++[c]) (R:=r) (m:=[]) λd hd z=>by
   have:=(gR (hr d (List.mem_of_mem_head? hd))).2
   refine this ?_;unfold UW;simp at z ⊢;omega
  rw[<- eQ,bZ]at hm;rw[bZ]at eq;have ek:bu b (some ((P.length:Nat):Int)) (some ((P.length+1:Nat):Int))=[c]:=by rw[e];exact jW P [c] r
  refine⟨q,NX (s1:=⟨[sv (.str b),some (.ol bx),sv (.int (P.length:Nat)),u,v],[]⟩) ?_ (seq1 (dz (cE (ts:=[.str b,.int (P.length:Nat)]) rfl (by rw[e];exact wF (n+3) (λz=>hn (by rw[z];decide))))) (seq1 (dz (cE (ts:=[.str b,.int ((P.length+1:Nat):Int)]) rfl hm)) (seq1 (rB (Dy:=bx) (ts:=bx) rfl (cE (ts:=[.str [c],.str [49]]) (aw (by show Res.ok (T.str (bu b (some ((P.length:Nat):Int)) (some ((P.length+1:Nat):Int))),_)=_;rw[ek]) rfl) (wD n hi)) rfl (by omega)) rfl))) eq,h1,p,u',v',by rw[h2];simp⟩
  subst e;exact wG (P:=P) (R:=c::r) (s:=⟨[sv (.str (P++c::r)),some (.ol bx),sv (.int (P.length:Nat)),u,v],[]⟩) (j:=2) (b:=bV cz (k1 zA)) rfl rfl
theorem gS:∀l:List Itm,aI (l.map Itm.val)=true
 |[]=>rfl
 |a::l=>by show((true&&(true&&(true&&true)))&&aI (l.map Itm.val))=true;rw[gS l];rfl
def uS{ws:B1}(h:∀c∈ws,kY c=true)(hl:ws.length<=8):cN (n+5) 4 [.str ws] m=.ok (.lst ((iZ ws).map Itm.val),m):=by
 rw[w4];refine sEq rfl rfl (gS _) (bJ (W.of rfl ⟨rfl,bS rfl (bJ ((uR n ws [] [] many none none rfl h (by show ws.length<1000000;omega) (by show 0+_<=_;omega)).mono λq hq=>⟨hq.1,?_⟩))⟩))
 obtain⟨_,p,u,v,e⟩:=hq;rw[e];exact vf rfl rfl
def fT(b:Bool):B1:=if b then[94]else[]
def bT(b:Bool):B1:=if b then[36]else[]
def NY(its:List Itm):B1:=its.map λi=>i.k.c
def rJ(f:Bool)(its:List Itm)(b:Bool):B1:=fT f++(NY its++bT b)
def c9(f:Bool)(its:List Itm)(b:Bool):T:=.tup [.bl f,.lst (its.map Itm.val),.bl b]
def HM(ws:B1):NY (iZ ws)=ws:=by
 unfold NY;rw[du];exact List.map_id' ws
def lM(f b:Bool)(ws:B1):rJ f (iZ ws) b=fT f++(ws++bT b):=by unfold rJ;rw[HM]
def uT(a:B1)(c:Nat):L4 [36] (a++[c])=decide (c=36):=by
 unfold L4;have h1:decide ([36].length<=(a++[c]).length)=true:=decide_eq_true (by simp)
 have h2:(a++[c]).drop ((a++[c]).length - [36].length)=[c]:=by
  rw[show(a++[c]).length - [36].length=a.length by simp,BE]
 rw[h1,h2,xu,xr];simp
section
variable{f b:Bool}{ws:B1}
def NZ(h:∀c∈ws,kY c=true):L4 [36] ws=false:=by
 rcases List.eq_nil_or_concat ws with e|⟨a,c,e⟩
 ·rw[e];rfl
 ·rw[List.concat_eq_append]at e
  rw[e,uT,decide_eq_false λz=>(gR (h c (by rw[e];simp))).2 (by rw[z];decide)]
def N1(h:∀c∈ws,kY c=true)(b:Bool):pre [94] (ws++bT b)=false:=by
 cases ws with
 |nil=>cases b<;>rfl
 |cons c l=>exact eW λz=>(gR (h c (ee ..))).2 (by rw[<- z];decide)
def yT(h:∀c∈ws,kY c=true):∀c∈fT f++(ws++bT b),c∈o9/\c≠47:=by
 intro c hc;rcases k7.mp hc with z|z
 ·cases f with
  |true=>rw[kc.mp z];decide
  |false=>cases z
 ·rcases k7.mp z with z|z
  ·exact⟨(gR (h c z)).1,λq=>(gR (h c z)).2 (by rw[q];decide)⟩
  ·cases b with
   |true=>rw[kc.mp z];decide
   |false=>cases z
def yU(hl:ws.length<=8):(fT f++(ws++bT b)).length<=10:=by
 have h2:(fT f).length<=1:=by cases f<;>decide
 have h3:(bT b).length<=1:=by cases b<;>decide
 rw[b9,b9];omega
end
def jn{f b:Bool}{its:List Itm}(h:∀i∈its,i.ok)(hl:its.length<=8):cN (n+7) 3 [.str (rJ f its b)] m=.ok (c9 f its b,m):=by
 obtain⟨ws,rfl,q⟩:=rH h;rw[bK]at hl;rw[w3,lM];have hpl:=yU (f:=f) (b:=b) hl;have e1:pre [94] (fT f++(ws++bT b))=f:=by
  cases f with
  |true=>exact pre_app [94] (ws++bT b)
  |false=>exact N1 q b
 have e2:L4 [36] (ws++bT b)=b:=by
  cases b with
  |true=>rw[show ws++bT true=ws++[36]from rfl,uT];rfl
  |false=>rw[show ws++bT false=ws from cJ _];exact NZ q
 refine sEq rfl rfl (by show(true&&(aI ((iZ ws).map Itm.val)&&(true&&true)))=true;rw[gS];rfl) (bN rfl (bN (HB (Ku (cE (ts:=[.str (fT f++(ws++bT b)),.str o9]) rfl (nG (n+5) (λc hc=>(yT q c hc).1) (by omega))))) (bS (t:=.bl f) (Kv (l:=fT f++(ws++bT b)) rfl rfl (congrArg (λz=>some (T.bl z)) e1)) (bS (t:=.str (ws++bT b)) ?_ (bS (t:=.bl b) (Kv (l:=ws++bT b) rfl rfl (congrArg (λz=>some (T.bl z)) e2)) (bS (cE (ts:=[.str ws]) (aw ?_ rfl) (uS (n+1) q hl)) (bN (gE (aB (t:=.int (((iZ ws).map Itm.val).length:Nat)) (u:=.int 8) rfl rfl (by rw[uH,decide_eq_false (by rw[bK,bK];omega)]))) (bR rfl rfl))))))))
 ·cases f with
  |true=>
   show Res.ok (T.str (bu (fT true++(ws++bT b)) (some 1) none),_)=_;rw[show bu (fT true++(ws++bT b)) (some 1) none=ws++bT b from jV [94] (ws++bT b)]
  |false=>rfl
 ·cases b with
  |true=>
   show Res.ok (T.str (bu (ws++[36]) none (some (-1))),_)=_;rw[nJ]
  |false=>
   show Res.ok (T.str (ws++[]),_)=_;rw[cJ]
def SW{f b:Bool}{its:List Itm}(h:∀i∈its,i.ok)(hl:its.length<=8):Pt (rJ f its b) (c9 f its b):=⟨λz=>by
 obtain⟨ws,rfl,q⟩:=rH h;rw[lM]at z;exact(yT q 47 z).2 rfl,λn m=>jn n h hl⟩
def N2(i:Itm):Bool:=eqT (.str [42]) (.str [i.mn]) ||(eqT (.str [63]) (.str [i.mn]) ||false)
def HN{i:Itm}:cN (n+1) 11 [i.val] m=.ok (.bl (N2 i),m):=by
 rw[Ď];exact qc (m':=[]) rfl (eB (s':=⟨[sv i.val],[]⟩) rfl (fD (aB (t:=.str [i.mn]) (u:=.tup [.str [42],.str [63]]) rfl rfl rfl)) rfl) rfl
def fH(f b:Bool)(its:List Itm):noOwn (c9 f its b)=true:=by
 show(true&&(aI (its.map Itm.val)&&(true&&true)))=true;rw[gS];rfl
abbrev s2(a b:T):S:=⟨[sv a,sv b],[]⟩
def N3{cv dv:T}(h1:gK M.P.sub [9] cv=some (.bl false))(h2:gK M.P.sub [15] dv=some (.bl false))(h3:gK M.P.sub [21] dv=some (.bl false))(hc:noOwn cv=true)(hd:noOwn dv=true):cN (n+7) 32 [cv,dv] m=.ok (.bl true,m):=by
 rw[Ķ];refine qc (m':=[]) ?_ (eB (s':=s2 cv dv) rfl (seq1 (s':=s2 cv dv) (o8 (s':=s2 cv dv) (jl (t:=cv) rfl h1) rfl) (seq1 (s':=s2 cv dv) (o8 (s':=s2 cv dv) (jl (t:=dv) rfl h2) rfl) (fD ?_))) rfl) rfl
 ·show(noOwn cv&&(noOwn dv&&true))=true
  rw[hc,hd];rfl
 ·have e:dN (gK M.P.sub [21]) zB (s2 cv dv)=.ok (.bl false,s2 cv dv):=by
   simp only[ev,uF,bI,rA,h3]
  unfold qL;exact Eq.trans (congrArg (λz=>Res.bind z _) e) rfl
def uU(x:CD):gK M.P.sub [9] x.val=some (.bl false):=by
 cases x with
 |no x=>rfl
 |pc x=>cases x with
  |rp x=>cases x<;>rfl
  |_=>rfl
def rK{x:LN}(hc:noOwn x.cond=true)(hd:noOwn x.lC=true):nH x:=λn m=>by
 obtain⟨c,x⟩:=x;have hE:=uU c;cases x<;>exact N3 n hE rfl rfl hc hd
def Kw{x:LN}(h:x.ok)(hc:noOwn x.cond=true)(hd:noOwn x.lC=true):Lk x:=⟨h,rK hc hd,by
 show(noOwn x.cond&&(noOwn x.lC&&true))=true;rw[hc,hd];rfl⟩
def Es{c:Nat}(h:kY c=true):cN (n+2) 8 [.str [c],.bl false] m=.ok (.bl true,m):=by
 rw[w8];have e:=Er n (c:=c) (m:=[]);rw[h]at e;exact sEq rfl rfl rfl (bR (uQ (x:=true) (y:=true) rfl λ_=>uQ (x:=true) (y:=true) rfl λ_=>cE (ts:=[.str [c]]) rfl e) rfl)
def Et{c:Nat}(hk:kY c=true):cN (n+3) 10 [.str [c],.bl false] m=.ok (.str [c],m):=by
 rw[VJ];exact sEq rfl rfl rfl (bN (gE (aB (t:=.str [c]) (u:=.str []) rfl rfl (by rw[HA,decide_eq_false (List.cons_ne_nil c [])]))) (bN rfl (bY (Ku (cE (ts:=[.str [c],.bl false]) rfl (Es n hk))) (bR rfl rfl))))
def vg:B1->Ap
 |[]=>[]
 |c::r=>[c]::[]::vg r
theorem nK:∀ws:B1,(vg ws).flatten=ws/\(vg ws).length=2*ws.length
 |[]=>⟨rfl,rfl⟩
 |c::r=>by
  have ih:=nK r;constructor
  ·show c::(vg r).flatten=_;rw[ih.1]
  ·show(vg r).length+1+1=2*(r.length+1)
   rw[ih.2];omega
theorem nL(n:Nat){o:T}:∀(ws:B1)(bx:Ap)(u v w:Option C),(∀c∈ws,kY c=true)->bx.length+2*ws.length<=1000->W (bo (fS [2,3,4]) (YL (cN (n+3))) ((iZ ws).map Itm.val) ⟨[sv o,some (.ol (bx.map T.str)),u,v,w],[]⟩) λp=>p.1=.nx/\∃u v w,p.2=⟨[sv o,some (.ol ((bx++vg ws).map T.str)),u,v,w],[]⟩
 |[],bx,u,v,w,_,_=>⟨_,rfl,rfl,u,v,w,by rw[show bx++vg []=bx from cJ _]⟩
 |c::r,bx,u,v,w,h,hl=>by
  rw[cU]at hl;have ih:=nL n (o:=o) r (bx++[[c],[]]) (sv (.str [c])) (sv (.bl false)) (sv (.str [49])) (λj hj=>h j (dX _ hj)) (by rw[b9];show bx.length+2+_<=_;omega)
  rw[show bx++vg (c::r)=bx++[[c],[]]++vg r by simp[vg]]
  rw[d_]at ih;refine iK rfl (wA (ts:=bx.map T.str) rfl (cE (ts:=[.str [c],.bl false]) rfl (Et n (h c (ee ..)))) (by rw[bK];omega) (W.of (rB (Dy:=bx.map T.str++[.str [c]]) (ts:=bx.map T.str++[.str [c]]) (t:=.str []) (s1:=⟨[sv o,some (.ol (bx.map T.str++[.str [c]])),sv (.str [c]),sv (.bl false),sv (.str [49])],[]⟩) rfl rfl rfl (by rw[b9,bK];show _+1<_;omega)) ⟨rfl,?_⟩))
  show W (bo _ _ _ ⟨[sv o,some (.ol (bx.map T.str++[.str [c]]++[.str []])),_,_,_],[]⟩) _;rw[fK];exact ih
theorem strs_map:∀l:Ap,strsOf (l.map T.str)=some l
 |[]=>rfl
 |a::l=>by
  show(strsOf (l.map T.str)).map (a::·)=_
  rw[strs_map l];rfl
theorem join_nil:∀l:Ap,dQ [] l=l.flatten
 |[]=>rfl
 |[a]=>by simp[dQ]
 |a::b::r=>by
  show a++[]++dQ [] (b::r)=_;rw[join_nil (b::r)];simp
def join_eq{l:Ap}(h:l.flatten.length<=100000):joinM [] [.lst (l.map T.str)]=some (.str l.flatten):=by
 show xV (.str []) (.lst (l.map T.str))=_;unfold xV;dsimp only;rw[strs_map];show gd _ _=_;rw[Bs]at h;have h:(l.map (·.length)).sum<=100000:=h
 rw[gQ (by rw[jy,Nat.mul_zero];omega),join_nil]
def wH{f b:Bool}{its:List Itm}(h:∀i∈its,i.ok)(hl:its.length<=8):cN (n+4) 9 [c9 f its b] m=.ok (.str (rJ f its b),m):=by
 obtain⟨ws,rfl,q⟩:=rH h;rw[bK]at hl;rw[w9,lM];have ef:([fT f]++vg ws++[bT b]).flatten=fT f++(ws++bT b):=by
  rw[xj,xj,(nK ws).1];simp
 have ej:=join_eq (l:=[fT f]++vg ws++[bT b]) (by rw[ef];have:=yU (f:=f) (b:=b) hl;omega)
 rw[ef]at ej;refine sEq (by show(noOwn (c9 f (iZ ws) b)&&true)=true;rw[fH];rfl) rfl rfl (bJ (W.of (a:=(.nx,⟨[sv (c9 f (iZ ws) b),some (.ol ([fT f].map T.str)),none,none,none],[]⟩)) (by cases f<;>rfl) ⟨rfl,bJ (eg (W.of (a:=((iZ ws).map Itm.val,⟨[sv (c9 f (iZ ws) b),some (.ol ([fT f].map T.str)),none,none,none],[]⟩)) rfl ((nL n (o:=c9 f (iZ ws) b) ws [fT f] none none none q (by show 1+_<=_;omega)).mono λp hp=>⟨hp.1,?_⟩)))⟩))
 obtain⟨_,u,v,w,e⟩:=hp;rw[e];refine bJ (W.of (rB (Dy:=([fT f]++vg ws).map T.str) (ts:=([fT f]++vg ws).map T.str) (t:=.str (bT b)) (s1:=⟨[sv (c9 f (iZ ws) b),some (.ol (([fT f]++vg ws).map T.str)),u,v,w],[]⟩) rfl (by cases b<;>rfl) rfl (by rw[bK,b9,(nK ws).2];show 1+_<_;omega)) ⟨rfl,?_⟩)
 show WB _ ⟨[sv (c9 f (iZ ws) b),some (.ol (([fT f]++vg ws).map T.str++[bT b].map T.str)),u,v,w],[]⟩ _;rw[<- d_];exact vf (Kv (l:=[]) rfl (aw rfl rfl) ej) rfl
theorem Kz{gg:FG}{B:FS}{α:Type}{J:α->S->Prop}{f:α->T->α}:∀{ts:FK}{a:α}{s:S},(∀t∈ts,∀a s,J a s->∃r,gg t s.r=some r/\W (B ⟨r,s.m⟩) λp=>p.1=.nx/\J (f a t) p.2)->J a s->W (bo gg B ts s) λp=>p.1=.nx/\J (ts.foldl f a) p.2
 |[],a,s,_,h=>⟨_,rfl,rfl,h⟩
 |t::ts,a,s,k,h=>by
  obtain⟨r,e1,⟨o,s1⟩,e2,e3,h1⟩:=k t (ee ..) a s h;cases e3;obtain⟨p,e4,h2⟩:=Kz (ts:=ts) (λt ht=>k t (dX _ ht)) h1;refine⟨p,?_,h2⟩;rw[bo,e1];refine Eq.trans (bI _ _) ?_;show Res.bind (B ⟨r,s.m⟩) _=_;rw[e2];exact e4
def yV(i:Itm):Bool:=eqT (.str [42]) (.str [i.mn]) ||(eqT (.str [43]) (.str [i.mn]) ||false)
def Eu{i:Itm}:cN (n+1) 12 [i.val] m=.ok (.bl (yV i),m):=by
 rw[Đ];exact sEq rfl rfl rfl (bR rfl rfl)
def OU(ag:Bool)(bh es:Dx)(p:Nat):Int:=if(ag&&decide (bh.getD (p+1) 0<es.getD (p+1) 0))=true then es.getD (p+1) 0 else bh.getD (p+1) 0
def gk(ag:Bool)(sg:B1)(ot:Bool)(row:B1)(bh es:Dx)(p:Nat):Dx:=
 if(decide (row.getD p 0∈sg) != ot)=true then(if es.getD p 0<OU ag bh es p then es.set p (OU ag bh es p)else es)else es
def rL{ag:Bool}{sg:B1}{ot:Bool}{row:B1}{bh es:Dx}{p:Nat}:(gk ag sg ot row bh es p).length=es.length:=by
 unfold gk;split
 ·split
  ·exact e_
  ·rfl
 ·rfl
def SX:T->Nat
 |.int i=>i.toNat
 |_=>0
def E4(i:Itm)(row:B1)(bh:Dx):Dx:=((bM row.length).map λk=>T.int (((row.length:Int)-1)-(k:Nat))).foldl (λes t=>gk (yV i) i.k.sg i.k.ot row bh es (SX t)) (if N2 i then bh else dM bh.length (-1))
def yW{i:Itm}{row:B1}{bh:Dx}:(E4 i row bh).length=bh.length:=by
 unfold E4
 have:∀(l:FK)(es:Dx),(l.foldl (λes t=>gk (yV i) i.k.sg i.k.ot row bh es (SX t)) es).length=es.length:=λl=>by
  induction l with
  |nil=>intro es;rfl
  |cons t l ih=>intro es;rw[ou,ih,rL]
 rw[this];split
 ·rfl
 ·exact i9
def Xk{l:Dx}{p:Nat}(h:p<l.length):xU (.lst (l.map T.int)) (.int (p:Nat))=some (.int (l.getD p 0)):=by
 show atT (l.map T.int) (p:Int)=_;rw[iJ (by rw[bK];exact h),fJ,cX h,gq,cX h];rfl
def Xl{l:Dx}{p:Nat}(h:p+1<l.length):xU (.lst (l.map T.int)) (.int ((p:Nat)+1))=some (.int (l.getD (p+1) 0)):=Xk (p:=p+1) h
def ixC{l:B1}{p:Nat}(h:p<l.length):gi (.str l) (.int (p:Nat))=some (.str [l.getD p 0]):=by
 show(atT l (p:Int)).map _=_;rw[iJ h,cX h,gq,cX h];rfl
def EW(i:Itm)(row:B1)(bh es:Dx)(v7 v8:Option C):S:=⟨[sv i.val,sv (.str row),sv (.lst (bh.map T.int)),sv (.str i.k.sg),sv (.bl i.k.ot),sv (.bl (yV i)),some (.ol (es.map T.int)),v7,v8],[]⟩
section
variable{i:Itm}{row:B1}{bh es:Dx}{v7 v8:Option C}{p:Nat}{x:Int}
def Xm{b:FE}{q:Nat}(hq:q<es.length)(h:b (EW i row bh es v7 v8)=.ok (.int (q:Nat),EW i row bh es v7 v8)):lr 6 b (EW i row bh es v7 v8)=.ok (.int (es.getD q 0),EW i row bh es v7 v8):=by
 unfold lr;show Res.bind (b (EW i row bh es v7 v8)) _=_;rw[h];show Res.bind (aX (xU (.lst (es.map T.int)) (.int (q:Nat)))) _=_;rw[Xk hq];rfl
def YV(a b:Int):aL .Gt (.int a) (.int b)=some (.bl (decide (b<a))):=rfl
def Xn{e:Int}(hp:p<es.length):cW 6 (vF 7) (vF 8) (EW i row bh es (sv (.int (p:Nat))) (sv (.int e)))=.ok (.nx,EW i row bh (es.set p e) (sv (.int (p:Nat))) (sv (.int e))):=by
 show cW 6 (vF 7) (vF 8) _=_;unfold cW;show Res.bind (aX (gd (0<=((p:Nat):Int)/\((p:Nat):Int)<((es.map T.int).length:Nat)) ((es.map T.int).set ((p:Nat):Int).toNat (.int e)))) _=_;rw[gQ ⟨by omega,by rw[bK];omega⟩]
 show Res.ok (Out.nx,j7 _ 6 (.ol ((es.map T.int).set ((p:Nat):Int).toNat (.int e))))=_;rw[zK,<- List.map_set];rfl
def yX(hp:p<es.length)(hx:x=OU (yV i) bh es p):W (aY (bW (bw (aL .Gt) (vF 8) (lr 6 (vF 7)))) (cW 6 (vF 7) (vF 8)) aG (EW i row bh es (sv (.int (p:Nat))) (sv (.int x)))) λq=>q.1=.nx/\∃v8,q.2=EW i row bh (if es.getD p 0<OU (yV i) bh es p then es.set p (OU (yV i) bh es p)else es) (sv (.int (p:Nat))) v8:=by
 subst hx;refine Sq (W.of (gE (aB rfl (Xm (q:=p) hp rfl) (YV _ _))) ⟨λh=>?_,λh=>?_⟩)
 ·rw[if_pos (of_decide_eq_true h)]
  exact W.of (Xn hp) ⟨rfl,_,rfl⟩
 ·rw[if_neg (of_decide_eq_false h)]
  exact⟨_,rfl,rfl,_,rfl⟩
end
def f_(l:Dx):aI (l.map T.int)=true:=by
 induction l with
 |nil=>rfl
 |cons a l ih=>exact ih
theorem rep1(t:T):∀n:Nat,(dM n [t]).flatten=dM n t
 |0=>rfl
 |n+1=>by rw[ju,ju,jv,rep1 t n];rfl
section
variable{i:Itm}{row:B1}{bh es:Dx}{p:Nat}
def HP(hr:row.length<=1000):Aw [.int ((row.length:Int)-1),.int (-1),.int (-1)]=some ((bM row.length).map λk=>T.int (((row.length:Int)-1)-(k:Nat))):=by
 have e:((row.length:Int)-1+1).toNat=row.length:=by omega
 show gd _ _=_;rw[gQ ⟨rfl,rfl,by omega,by omega⟩,e]
def o2r{g:T->T->FC}{a b:FE}{s s1 s2:S}{t u:T}{v:FK}(h:a s=.ok (t,s1))(h2:b s1=.ok (u,s2))(k:g t u=some v):o2 g a b s=.ok (v,s2):=by
 unfold o2;rw[h];refine Eq.trans (bI _ _) ?_;show Res.bind (b s1) _=_;rw[h2];refine Eq.trans (bI _ _) ?_;show Res.bind (aX (g t u)) _=_;rw[k];rfl
def HQ{k:Nat}(h:k<=1001):Dw (.lst [.int (-1)]) (.int (k:Nat))=some (dM k (T.int (-1))):=by
 have e:Dw (.lst [.int (-1)]) (.int (k:Nat))=some (dM ((k:Nat):Int).toNat [T.int (-1)]).flatten:=gQ ⟨by omega,by omega,by show 1*_<=_;omega⟩
 rw[e,zK,rep1]
def rM(hb:bh.length=row.length+1)(hr:row.length<=1000):cN (n+2) 17 [i.val,.str row,.lst (bh.map T.int)] m=.ok (.lst ((E4 i row bh).map T.int),m):=by
 rw[Ě];refine sEq ?_ rfl (f_ _) (bS rfl (bS rfl (bS (cE rfl (Eu n)) (bJ (W.of (a:=(Out.nx,EW i row bh (if N2 i then bh else dM bh.length (-1)) none none)) ?_ ⟨rfl,bJ (eg (W.of (a:=((bM row.length).map λk=>T.int (((row.length:Int)-1)-(k:Nat)),EW i row bh (if N2 i then bh else dM bh.length (-1)) none none)) ?_ ?_))⟩)))))
 ·show(true&&(true&&(aI (bh.map T.int)&&true)))=true
  rw[f_];rfl
 ·unfold ia UM
  rw[Ku (cE (ts:=[i.val]) rfl (HN n))];show Res.bind (if N2 i then _ else _) _=_
  cases N2 i with
  |true=>rfl
  |false=>
   rw[if_neg dP,if_neg dP,o2r (t:=.lst [.int (-1)]) (u:=.int (((bh.map T.int).length:Nat):Int)) (v:=(dM bh.length (-1)).map T.int) rfl rfl (by rw[bK,HQ (by omega),qq])]
   rfl
 ·unfold xW
  show Res.bind (aX (Aw [.int ((row.length:Int)-1),.int (-1),.int (-1)])) _=_;rw[HP hr];rfl
 refine(Kz (J:=λes s=>es.length=row.length+1/\∃v7 v8,s=EW i row bh es v7 v8) (f:=λes t=>gk (yV i) i.k.sg i.k.ot row bh es (SX t)) (λt ht es s hJ=>?_) ⟨?_,_,_,rfl⟩).mono λq hq=>⟨hq.1,?_⟩
 ·obtain⟨he,v7,v8,rfl⟩:=hJ
  obtain⟨k,hk,rfl⟩:=ez.mp ht;have hk:=ig.mp hk;obtain⟨p,hp⟩:∃p,p=row.length-1-k:=⟨_,rfl⟩;rw[show((row.length:Int)-1)-(k:Nat)=((p:Nat):Int) by omega]
  refine⟨_,rfl,?_⟩;show W (aY _ _ _ (EW i row bh es (sv (.int (p:Nat))) v8)) λq=>q.1=.nx/\(gk (yV i) i.k.sg i.k.ot row bh es p).length=row.length+1/\∃v7 v8,q.2=EW i row bh (gk (yV i) i.k.sg i.k.ot row bh es p) v7 v8;rw[rL];unfold gk;refine Sq (W.of (gE (b:=decide (row.getD p 0∈i.k.sg) != i.k.ot) (aB (t:=.bl (decide (row.getD p 0∈i.k.sg))) (aB (t:=.str [row.getD p 0]) (aB rfl rfl (ixC (by omega))) rfl rfl) rfl rfl)) ⟨λ(hc:(decide (row.getD p 0∈i.k.sg) != i.k.ot)=true)=>?_,λ(hc:(decide (row.getD p 0∈i.k.sg) != i.k.ot)=false)=>?_⟩)
  ·rw[if_pos hc]
   refine wS (aB (t:=.lst (bh.map T.int)) (u:=.int ((p:Nat)+1)) rfl rfl (Xl (by omega))) (dD (Sq (W.of (Ej (Ku (b:=yV i) rfl) (gE (aB (Xm (q:=p+1) (v8:=sv (.int (bh.getD (p+1) 0))) (by omega) rfl) rfl (YV _ _)))) ⟨λ(ha:(yV i&&decide (bh.getD (p+1) 0<es.getD (p+1) 0))=true)=>W.of (dz (Xm (q:=p+1) (by omega) rfl)) ⟨rfl,(yX (by omega) (if_pos ha).symm).mono λq hq=>⟨hq.1,he,_,hq.2⟩⟩,λ(ha:(yV i&&decide (bh.getD (p+1) 0<es.getD (p+1) 0))=false)=>⟨_,rfl,rfl,(yX (by omega) (if_neg (by rw[ha];exact dP)).symm).mono λq hq=>⟨hq.1,he,_,hq.2⟩⟩⟩)))
  ·rw[if_neg (by rw[hc];exact dP)]
   exact⟨_,rfl,rfl,he,_,_,rfl⟩
 ·split
  ·exact hb
  ·rw[i9];exact hb
 ·obtain⟨_,v7,v8,e⟩:=hq.2
  rw[e];exact vf rfl rfl
end
def N4(row:B1)(b:Bool):Dx:=if b then dM row.length (-1)++[(row.length:Int)]else(bM (row.length+1)).map λk=>(0+((k:Nat):Int))
def yY{row:B1}{b:Bool}:(N4 row b).length=row.length+1:=by
 unfold N4;split
 ·simp
 ·simp
def yZ(row:B1)(its:List Itm)(b:Bool):Dx:=its.reverse.foldl (λes i=>E4 i row es) (N4 row b)
def lN{row:B1}{its:List Itm}{b:Bool}:(yZ row its b).length=row.length+1:=by
 unfold yZ
 have:∀(l:List Itm)(es:Dx),(l.foldl (λes i=>E4 i row es) es).length=es.length:=λl=>by
  induction l with
  |nil=>intro es;rfl
  |cons t l ih=>intro es;rw[ou,ih,yW]
 rw[this,yY]
def A6(row:B1)(f:Bool)(its:List Itm)(b:Bool):Dx:=if f then bu (yZ row its b) none (some 1)else yZ row its b
def qU{α β:Type}(f:α->β)(l:List α)(lo hi:D2):bu (l.map f) lo hi=(bu l lo hi).map f:=by
 unfold bu;rw[bK,qr,zJ]
def YW{g:T->FC}{a:FE}{s s1:S}{t:T}{v:FK}(h:a s=.ok (t,s1))(k:g t=some v):o1 g a s=.ok (v,s1):=by
 unfold o1;rw[h];refine Eq.trans (bI _ _) ?_;show Res.bind (aX (g t)) _=_;rw[k];rfl
def SY(a:FK)(k:Int):c6 .Mult (.lst a) (.int k)=gd (k<1000000/\-1000000<k/\a.length*k.toNat<=1000000) (.lst (dM k.toNat a).flatten):=rfl
def add_l(a b:FK):c6 .Add (.lst a) (.lst b)=gd (a.length+b.length<=1000000) (.lst (a++b)):=rfl
def S8(j:Int):Av (.int j)=gd (0<=j/\j<1000000) (lE 0 j.toNat):=rfl
section
variable{row:B1}{m:FV}{f b:Bool}{its:List Itm}
theorem Ew{gg:FG}{B:FS}{α:Type}{I:α->S->Prop}{f:α->Itm->α}:∀{l:List Itm}{a:α}{s:S},(∀i∈l,∀a s,I a s->∃r,gg i.val s.r=some r/\W (B ⟨r,s.m⟩) λp=>p.1=.nx/\I (f a i) p.2)->I a s->W (bo gg B (l.map Itm.val) s) λp=>p.1=.nx/\I (l.foldl f a) p.2
 |[],_,_,_,h=>⟨_,rfl,rfl,h⟩
 |i::l,a,s,k,h=>by
  obtain⟨r,e,k1⟩:=k i (ee ..) a s h;exact iK e (k1.mono λp hp=>⟨hp.1,Ew (λi hi=>k i (dX _ hi)) hp.2⟩)
def Ex(hr:row.length<=1000):cN (n+1) 16 [.str row,.bl b] m=.ok (.lst ((N4 row b).map T.int),m):=by
 rw[Ę];refine sEq rfl rfl (f_ _) ?_;unfold N4;cases b with
 |true=>
  refine bY rfl (bR (aB (t:=.lst ((dM row.length (-1:Int)).map T.int)) (u:=.lst [.int row.length]) (aB (t:=.lst [.int (-1)]) (u:=.int row.length) rfl rfl ?_) rfl ?_) rfl)
  ·rw[SY,gQ ⟨by omega,by omega,by show 1*_<=_;omega⟩,zK,rep1,qq]
  ·rw[add_l,gQ (by rw[bK,i9];show _+1<=_;omega),if_pos rfl,d_];rfl
 |false=>
  refine bN rfl (bR (uI (YW (t:=.int ((row.length:Int)+1)) rfl ?_)) rfl);rw[S8,gQ ⟨by omega,by omega⟩,show((row.length:Int)+1).toNat=row.length+1 by omega,if_neg dP]
  unfold lE;rw[du];rfl
def uV(hr:row.length<=1000)(hl:its.length<=8):cN (n+3) 15 [c9 f its b,.str row] m=.ok (.lst ((A6 row f its b).map T.int),m):=by
 rw[Ė];refine sEq (by show(noOwn (c9 f its b)&&true)=true;rw[fH];rfl) rfl (f_ _) (bS (cE (ts:=[.str row,.bl b]) rfl (Ex (n+1) hr)) (bJ (eg (W.of (YW (v:=its.reverse.map Itm.val) (t:=.lst (its.map Itm.val)) rfl (by rw[List.map_reverse];rfl)) ((Ew (I:=λes s=>es.length=row.length+1/\∃v,s=⟨[sv (c9 f its b),sv (.str row),sv (.lst (es.map T.int)),v],[]⟩) (f:=λes i=>E4 i row es) (λi _ es s hI=>?_) ⟨yY,none,rfl⟩).mono λq hq=>⟨hq.1,?_⟩)))))
 ·obtain⟨he,v,rfl⟩:=hI
  exact⟨_,rfl,W.of (dz (cE (ts:=[i.val,.str row,.lst (es.map T.int)]) rfl (rM n he hr))) ⟨rfl,by rw[yW];exact he,_,rfl⟩⟩
 obtain⟨_,_,v,e⟩:=hq;rw[e];unfold A6;cases f with
 |false=>exact bR rfl rfl
 |true=>
  refine bR rfl ?_;rw[if_pos rfl,<- qU];rfl
end
def S9{A B:FS}{s:S}{G:T×FV->Prop}(h:W (A s) λp=>(∃t,p.1=.rt t/\G (t,p.2.m))\/(p.1=.nx/\WB B p.2 G)):WB (af A B) s G:=by
 obtain⟨⟨o,s'⟩,e,h⟩:=h;rcases h with⟨t,h1,h2⟩|⟨h1,h2⟩
 ·cases h1;exact Ks ⟨_,e,t,rfl,h2⟩
 ·cases h1;exact bJ ⟨_,e,rfl,h2⟩
def lD(l:Dx):B1->T
 |[]=>.non
 |q::qs=>if l.getD q 0≠-1 then .tup [.int (q:Nat),.int (l.getD q 0)]else lD l qs
def N5(l:Dx):T:=lD l (bM l.length)
def Xo:T->Bool
 |.non=>true
 |_=>false
theorem uW(l:Dx):∀qs,noOwn (lD l qs)=true
 |[]=>rfl
 |q::qs=>by
  unfold lD;split
  ·rfl
  ·exact uW l qs
theorem y9(l:Dx):∀qs,aL .IsNot (lD l qs) .non=some (.bl (!Xo (lD l qs)))
 |[]=>rfl
 |q::qs=>by
  unfold lD;split
  ·rfl
  ·exact y9 l qs
def HR(k:Nat)(h:k<=1001):mL [.int 0,.int (k:Nat)]=some ((bM k).map λq=>T.int ((q:Nat):Int)):=by
 have e2:(((k:Nat):Int)-0).toNat=k:=by omega
 show gd _ _=_;rw[gQ ⟨by omega,by omega,by omega,by omega⟩,e2]
 unfold lE;exact congrArg some (oz λq _=>by rw[xw])
section
variable{row:B1}{m:FV}{f b:Bool}{its:List Itm}{t u:T}
def YX(a c:Int):aL .NotEq (.int a) (.int c)=some (.bl (!decide (a=c))):=rfl
theorem Ey{l:Dx}:∀(qs:B1)(v:Option C),(∀q∈qs,q<l.length)->W (bo (setG 4) Sw (qs.map λq=>T.int ((q:Nat):Int)) ⟨[sv t,sv u,sv (.int 0),sv (.lst (l.map T.int)),v],m⟩) λp=>p.2.m=m/\((p.1=.rt (lD l qs))\/(p.1=.nx/\lD l qs=.non))
 |[],v,_=>⟨_,rfl,rfl,.inr ⟨rfl,rfl⟩⟩
 |q::qs,v,h=>by
  have e0:gi (.lst (l.map T.int)) (.int (q:Nat))=some (.int (l.getD q 0)):=Xk (h q (ee ..));unfold lD;by_cases hd:l.getD q 0=-1
  ·rw[if_neg (λz=>z hd)]
   exact iK rfl (c8 (gE (aB (aB (t:=.lst (l.map T.int)) (u:=.int (q:Nat)) rfl rfl e0) rfl (by rw[YX,decide_eq_true hd];rfl))) ⟨_,rfl,rfl,Ey qs _ λq hq=>h q (dX _ hq)⟩)
  ·rw[if_pos hd,dO,bo]
   refine⟨_,Eq.trans (bI _ _) (Eq.trans (congrArg (λx=>Res.bind x _) (A4 (gE (aB (aB (t:=.lst (l.map T.int)) (u:=.int (q:Nat)) rfl rfl e0) rfl (by rw[YX,decide_eq_false hd];rfl))) (fD (dm (ts:=[.int (q:Nat),.int (l.getD q 0)]) (aw rfl (aw (aB (t:=.lst (l.map T.int)) (u:=.int (q:Nat)) rfl rfl e0) rfl)) rfl)))) rfl),rfl,.inl rfl⟩
def HS:(A6 row f its b).length<=row.length+1:=by
 unfold A6;split
 ·unfold bu
  rw[lT,iR,lN];omega
 ·rw[lN];exact c_ _
def wI(hr:row.length<=1000)(hl:its.length<=8):cN (n+4) 13 [c9 f its b,.str row,.int 0] m=.ok (N5 (A6 row f its b),m):=by
 rw[Ē];have hg:=HS (row:=row) (f:=f) (its:=its) (b:=b);refine sEq (by show(noOwn (c9 f its b)&&(true&&(true&&true)))=true;rw[fH];rfl) rfl (uW _ _) (bS (cE (ts:=[c9 f its b,.str row]) rfl (uV n hr hl)) (S9 (eg (W.of (HD (ts:=[.int 0,.int ((A6 row f its b).length:Nat)]) (aw rfl (aw (dm (ts:=[.lst ((A6 row f its b).map T.int)]) rfl (by show some (T.int (((A6 row f its b).map T.int).length:Nat))=_;rw[bK])) rfl)) (HR _ (by omega))) ((Ey (bM (A6 row f its b).length) none λq hq=>ig.mp hq).mono λp hp=>?_)))))
 obtain⟨hm,h|⟨h1,h2⟩⟩:=hp
 ·exact .inl ⟨_,h,rfl⟩
 ·exact .inr ⟨h1,bR (t:=.non) rfl h2.symm⟩
def rN(row:B1)(f:Bool)(its:List Itm)(b:Bool):Bool:=!Xo (N5 (A6 row f its b))
def nM(hr:row.length<=1000)(hl:its.length<=8):cN (n+5) 14 [c9 f its b,.str row] m=.ok (.bl (rN row f its b),m):=by
 rw[Ĕ];exact sEq (by show(noOwn (c9 f its b)&&(true&&true))=true;rw[fH];rfl) rfl rfl (bR (aB (gX (ts:=[c9 f its b,.str row]) (s':=⟨[sv (c9 f its b),sv (.str row)],[]⟩) rfl (wI n hr hl)) rfl (y9 _ _)) rfl)
end
section
variable{a:FE}{s s1:S}{k kb nb f j:Nat}{ob:Ob}{t:T}{m:FV}{ks:List Ky}{ts:FK}
theorem get_mem:∀{ks:List Ky}{ts:FK}{x:Ky},ks.length=ts.length->x∈ks->∃t,h_ ks ts x=some t
 |[],_,_,_,h=>by cases h
 |q::ks,[],_,h,_=>by cases h
 |q::ks,t::ts,x,h,hx=>by
  rw[h_];by_cases e:q=x
  ·rw[if_pos e];exact⟨t,rfl⟩
  ·rw[if_neg e]
   rcases cA.mp hx with z|z
   ·exact absurd z.symm e
   ·exact get_mem (qv.inj h) z
theorem rO:∀{ks:List Ky}{ts:FK}{x y:Ky}{u:T},ks.length=ts.length->x∉ks->h_ (ks++[x]) (ts++[u]) y=if x=y then some u else h_ ks ts y
 |[],[],x,y,u,_,_=>by
  rw[jw,jw,h_]
 |[],_::_,_,_,_,h,_=>by cases h
 |q::ks,[],_,_,_,h,_=>by cases h
 |q::ks,t::ts,x,y,u,h,hx=>by
  rw[vm,vm,h_,h_];by_cases e:q=y
  ·rw[if_pos e,if_pos e,if_neg λz=>hx (by rw[z,e];exact ee ..)]
  ·rw[if_neg e,if_neg e,rO (qv.inj h) λz=>hx (dX _ z)]
end
section
variable{a o b:FE}{t u:T}{s:S}{nb kb:Nat}{ks:List Ky}{ts:FK}{ky:Ky}
def S_(hv:a s=.ok (u,s))(ho:o s=.ok (.own kb,s))(hb:b s=.ok (t,s))(hk:mH t=some ky)(hm:s.m[kb]?=some ⟨nb,[.od ks ts]⟩)(hn:ky∉ks)(hs:ks.length<1000000):Ar nb o b a s=.ok (.nx,⟨s.r,s.m.set kb ⟨nb,[.od (ks++[ky]) (ts++[u])]⟩⟩):=by
 unfold Ar;rw[hv];refine Eq.trans (bI _ _) ?_;show Res.bind (o s) _=_;rw[ho];refine Eq.trans (bI _ _) ?_;show Res.bind (b s) _=_;rw[hb];refine Eq.trans (bI _ _) ?_;show Res.bind (aX (oY nb s.m (.own kb))) _=_;rw[yQ hm];refine Eq.trans (bI _ _) ?_;show Res.bind (aX (mH t)) _=_;rw[hk];refine Eq.trans (bI _ _) ?_;show Res.bind (aX (gd (ks.length<1000000) ())) _=_;rw[gQ hs];show Res.ok (Out.nx,setB nb _ kb (let y:=jO ks ts ky u;.od y.1 y.2))=_;unfold jO;rw[if_neg hn];rfl
def N6{neg:Bool}(hv:a s=.ok (t,s))(ho:o s=.ok (.own kb,s))(hk:mH t=some ky)(hm:s.m[kb]?=some ⟨nb,[.od ks ts]⟩):bW (rj nb neg a o) s=.ok (if neg then !decide (ky∈ks)else decide (ky∈ks),s):=by
 have e:rj nb neg a o s=.ok (.bl (if neg then !decide (ky∈ks)else decide (ky∈ks)),s):=by
  unfold rj;rw[hv];refine Eq.trans (bI _ _) ?_;show Res.bind (o s) _=_;rw[ho];refine Eq.trans (bI _ _) ?_;show Res.bind (aX (oY nb s.m (.own kb))) _=_;rw[yQ hm];refine Eq.trans (bI _ _) ?_;show Res.bind (aX (mH t)) _=_;rw[hk];rfl
 unfold bW;rw[e];rfl
def Tc(ho:o s=.ok (.own kb,s))(hb:b s=.ok (t,s))(hk:mH t=some ky)(hm:s.m[kb]?=some ⟨nb,[.od ks ts]⟩)(hg:h_ ks ts ky=some u):Dt nb o b s=.ok (u,s):=by
 unfold Dt;rw[ho];refine Eq.trans (bI _ _) ?_;show Res.bind (b s) _=_;rw[hb];refine Eq.trans (bI _ _) ?_;show Res.bind (aX (oY nb s.m (.own kb))) _=_;rw[yQ hm];refine Eq.trans (bI _ _) ?_;show Res.bind (aX (mH t)) _=_;rw[hk];show Res.bind (aX (h_ ks ts ky)) _=_;rw[hg];rfl
end
structure OV(row:B1)(ks:List Ky)(ts:FK):Prop where
 len:ks.length=ts.length
 at_:∀f its b t,(∀i∈its,Itm.ok i)->its.length<=8->h_ ks ts (.s (rJ f its b))=some t->t=.bl (rN row f its b)
def OV.nil{row:B1}:OV row [] []:=⟨rfl,λ_ _ _ _ _ _ h=>by cases h⟩
def HU{row:B1}(hr:row.length<=1000){f f' b b':Bool}{its its':List Itm}(h:∀i∈its,Itm.ok i)(hl:its.length<=8)(h':∀i∈its',Itm.ok i)(xC:its'.length<=8)(e:rJ f its b=rJ f' its' b'):rN row f its b=rN row f' its' b':=by
 have p1:=jn 0 (f:=f) (b:=b) (m:=[]) h hl;have p2:=jn 0 (f:=f') (b:=b') (m:=[]) h' xC;rw[e,p2]at p1;have ev:c9 f' its' b'=c9 f its b:=by injection p1 with p1;exact(Prod.mk.inj p1).1
 have q1:=nM 0 (f:=f) (b:=b) (m:=[]) hr hl;have q2:=nM 0 (f:=f') (b:=b') (m:=[]) hr xC;rw[ev,q1]at q2;injection q2 with q2
 have:=(Prod.mk.inj q2).1
 injection this
def N7{k kb:Nat}{row:B1}{num:Int}{ks:List Ky}{ts:FK}{f b:Bool}{its:List Itm}(hm:m[k]?=some ⟨22,[.val (.str row),.val (.int num),.val (.own kb)]⟩)(hb:m[kb]?=some ⟨M.bc,[.od ks ts]⟩)(jr:kb≠k)(K:OV row ks ts)(hs:ks.length<1000000)
  (hr:row.length<=1000) (h:∀i∈its,i.ok) (hl:its.length<=8):∃Td ts',cN (n+6) 62 [.own k,c9 f its b] m=.ok (.bl (rN row f its b),m.set kb ⟨M.bc,[.od Td ts']⟩)/\OV row Td ts'/\Td.length<=ks.length+1:=by
 rw[ť];have YY:kb<m.length:=(bD.mp hb).1;have ew:=wH (n+1) (f:=f) (b:=b) (m:=m) h hl;have ef:=nM n (f:=f) (b:=b) (m:=m) hr hl;obtain⟨X,hX⟩:∃X,X=rJ f its b:=⟨_,rfl⟩;rw[<- hX]at ew;by_cases hin:Ky.s X∈ks
 ·obtain⟨t,ht⟩:=get_mem K.len hin
  have et:=K.at_ f its b t h hl (by rw[<- hX];exact ht)
  subst et;refine⟨ks,ts,?_,K,by omega⟩
  rw[show m.set kb ⟨M.bc,[.od ks ts]⟩=m from xg λj=>by
   by_cases hj:kb=j
   ·subst hj;rw[eu YY,hb]
   ·rw[dB hj]]
  exact eB rfl (seq1 (dz (cE (ts:=[c9 f its b]) rfl ew)) (seq1 (o8 ((N6 (neg:=true) (ky:=.s X) rfl (jX (j:=2) rfl hm rfl rfl) rfl hb).trans (by rw[if_pos rfl,decide_eq_true hin];rfl)) rfl) (fD (Tc (ky:=.s X) (jX (j:=2) rfl hm rfl rfl) rfl rfl hb ht)))) rfl
 ·refine⟨ks++[.s X],ts++[.bl (rN row f its b)],?_,⟨by simp[K.len],λf' its' b' t h' xC hg=>?_⟩,by simp⟩
  ·exact eB rfl (seq1 (dz (cE (ts:=[c9 f its b]) rfl ew)) (seq1 (A4 ((N6 (neg:=true) (ky:=.s X) rfl (jX (j:=2) rfl hm rfl rfl) rfl hb).trans (by rw[if_pos rfl,decide_eq_false hin];rfl)) (S_ (ky:=.s X) (cE (ts:=[c9 f its b,.str row]) (aw rfl (aw (jX (j:=0) rfl hm rfl rfl) rfl)) ef) (jX (j:=2) rfl hm rfl rfl) rfl rfl hb hin hs)) (fD (Tc (ky:=.s X) (jX (j:=2) rfl (ob:=⟨22,[.val (.str row),.val (.int num),.val (.own kb)]⟩) (by rw[dB jr];exact hm) rfl rfl) rfl rfl (eu YY) (by rw[rO K.len hin,if_pos rfl]))))) rfl
  ·rw[rO K.len hin]at hg
   split at hg
   ·rename_i e
    cases hg;injection e with e
    rw[HU hr h hl h' xC (hX.symm.trans e)]
   ·exact K.at_ f' its' b' t h' xC hg
section
variable{c:Nat}{row:B1}{bh:Dx}
def N8{es:Dx}{p:Nat}(hp:p<es.length)(q:Nat):(gk false [c] false row bh es p).getD q 0=if q=p/\row.getD q 0=c/\es.getD q 0<bh.getD (q+1) 0 then bh.getD (q+1) 0 else es.getD q 0:=by
 have hb:OU false bh es p=bh.getD (p+1) 0:=rfl;have hm:(decide (row.getD p 0∈[c]) != false)=decide (row.getD p 0=c):=by
  rw[Bool.bne_false];exact decide_eq_decide.mpr kc
 unfold gk;rw[hb,hm];by_cases e:q=p
 ·subst e
  by_cases h1:row.getD q 0=c
  ·rw[if_pos (decide_eq_true h1)]
   by_cases h2:es.getD q 0<bh.getD (q+1) 0
   ·rw[if_pos h2,if_pos ⟨rfl,h1,h2⟩,gq,eu hp];rfl
   ·rw[if_neg h2,if_neg λz=>h2 z.2.2]
  ·rw[if_neg (by rw[decide_eq_false h1];exact dP),if_neg λz=>h1 z.2.1]
 ·rw[if_neg (c:=q=p/\_) λz=>e z.1]
  split
  ·split
   ·rw[gq,dB (Ne.symm e),<- gq]
   ·rfl
  ·rfl
theorem y_:∀(ps:B1)(es:Dx),ps.Nodup->(∀p∈ps,p<es.length)->∀q,(ps.foldl (λes p=>gk false [c] false row bh es p) es).getD q 0=if q∈ps/\row.getD q 0=c/\es.getD q 0<bh.getD (q+1) 0 then bh.getD (q+1) 0 else es.getD q 0
 |[],es,_,_,q=>by rw[if_neg λz=>by cases z.1];rfl
 |p::ps,es,hn,hp,q=>by
  have hn:=lQ.mp hn;have h0:=hp p (ee ..);rw[ou,y_ ps _ hn.2 (λx hx=>by rw[rL];exact hp x (dX _ hx)) q,N8 h0 q]
  by_cases e:q=p
  ·subst e
   rw[if_neg λz=>hn.1 z.1];by_cases h:row.getD q 0=c/\es.getD q 0<bh.getD (q+1) 0
   ·rw[if_pos ⟨rfl,h⟩,if_pos ⟨ee ..,h⟩]
   ·rw[if_neg λz=>h z.2,if_neg λz=>h z.2]
  ·rw[if_neg (c:=q=p/\_) λz=>e z.1]
   by_cases h:q∈ps/\row.getD q 0=c/\es.getD q 0<bh.getD (q+1) 0
   ·rw[if_pos h,if_pos ⟨dX _ h.1,h.2⟩]
   ·rw[if_neg h,if_neg λz=>h ⟨(cA.mp z.1).resolve_left e,z.2⟩]
end
def N9{c:Nat}{row:B1}{bh:Dx}(hl:bh.length=row.length+1)(hb:∀x∈bh,-1<=x)(q:Nat)(hq:q<=row.length):(E4 ⟨.pl c,49⟩ row bh).getD q 0=if q<row.length/\row.getD q 0=c then bh.getD (q+1) 0 else -1:=by
 have e:E4 ⟨.pl c,49⟩ row bh=((bM row.length).map λk=>row.length-1-k).foldl (λes p=>gk false [c] false row bh es p) (dM bh.length (-1)):=by
  unfold E4;rw[IU,IU];have h0:(if N2 ⟨.pl c,49⟩then bh else dM bh.length (-1))=dM bh.length (-1):=rfl
  rw[h0]
  have:∀(ks:B1)(es:Dx),(∀k∈ks,k<row.length)->ks.foldl (λes k=>gk (yV ⟨.pl c,49⟩) (IT.sg (.pl c)) (IT.ot (.pl c)) row bh es (SX (T.int (((row.length:Int)-1)-(k:Nat))))) es=ks.foldl (λes k=>gk false [c] false row bh es (row.length-1-k)) es:=by
   intro ks
   induction ks with
   |nil=>intro es _;rfl
   |cons k ks ih=>
    intro es h;have hk:=h k (ee ..);have hn:SX (T.int (((row.length:Int)-1)-(k:Nat)))=row.length-1-k:=by
     show(((row.length:Int)-1)-(k:Nat)).toNat=_;omega
    rw[ou,ou,hn];exact ih _ λx hx=>h x (dX _ hx)
  exact this _ _ λk hk=>ig.mp hk
 have hr:(dM bh.length (-1:Int)).getD q 0=-1:=by
  rw[gq,vj,if_pos (by omega)];rfl
 rw[e,y_ _ _ ?_ ?_ q,hr]
 ·have Te:q∈((bM row.length).map λk=>row.length-1-k) ↔ q<row.length:=by
   constructor
   ·intro h
    obtain⟨k,hk,rfl⟩:=ez.mp h
    have:=ig.mp hk
    omega
   ·intro h
    exact ez.mpr ⟨row.length-1-q,ig.mpr (by omega),by omega⟩
  by_cases h:q<row.length/\row.getD q 0=c
  ·rw[if_pos h]
   have hx:-1<=bh.getD (q+1) 0:=by
    rw[gq,cX (by omega)]
    exact hb _ (IV _)
   by_cases h2:(-1:Int)<bh.getD (q+1) 0
   ·rw[if_pos ⟨Te.mpr h.1,h.2,h2⟩]
   ·rw[if_neg λz=>h2 z.2.2];omega
  ·rw[if_neg h,if_neg λz=>h ⟨Te.mp z.1,z.2.1⟩]
 ·refine List.pairwise_map.mpr (BC.imp_of_mem (λ{a b} ha Ge h=>?_) List.nodup_range)
  have:=ig.mp ha
  have:=ig.mp Ge
  have h:a≠b:=h;omega
 ·intro p hp
  obtain⟨k,hk,rfl⟩:=ez.mp hp
  have:=ig.mp hk
  rw[i9];omega
def kJ(row ws:B1)(b:Bool)(q:Nat):Prop:=q+ws.length<=row.length/\(row.drop q).take ws.length=ws/\(b=true->q+ws.length=row.length)
instance (row ws:B1) (b:Bool) (q:Nat):Decidable (kJ row ws b q):=by unfold kJ;infer_instance
def Ez{row:B1}{i:Itm}{its:List Itm}{b:Bool}:yZ row (i::its) b=E4 i row (yZ row its b):=by
 unfold yZ;rw[Bw,IW];rfl
def kK{row ws:B1}{c q:Nat}{b:Bool}:kJ row (c::ws) b q ↔ (q<row.length/\row.getD q 0=c)/\kJ row ws b (q+1):=by
 unfold kJ;rw[cU];constructor
 ·rintro⟨h1,h2,h3⟩
  have hq:q<row.length:=by omega
  rw[qt hq,sy]at h2;injection h2 with h4 h5
  refine⟨⟨hq,?_⟩,by omega,h5,λz=>by have:=h3 z;omega⟩
  rw[gq,cX hq];exact h4
 ·rintro⟨⟨hq,h4⟩,h1,h5,h3⟩
  rw[gq,cX hq]at h4;have h4:row[q]=c:=h4;refine⟨by omega,?_,λz=>by have:=h3 z;omega⟩
  rw[qt hq,sy,h4,h5]
theorem rP{row:B1}{b:Bool}:∀(ws:B1)(q:Nat),q<=row.length->(yZ row (iZ ws) b).getD q 0=if kJ row ws b q then((q+ws.length:Nat):Int)else -1
 |[],q,hq=>by
  show(N4 row b).getD q 0=_;have hs:kJ row [] b q ↔ (b=true->q=row.length):=by
   unfold kJ;constructor
   ·intro h z;exact h.2.2 z
   ·intro h;exact⟨hq,rfl,h⟩
  unfold N4;cases b with
  |false=>
   rw[if_neg dP,if_pos (hs.mpr λz=>by cases z),gq,fJ,wZ (by omega)]
   show(0:Int)+(q:Nat)=_;rw[xw];rfl
  |true=>
   rw[if_pos rfl,gq];by_cases h:q=row.length
   ·rw[if_pos (hs.mpr λ_=>h),eT (by rw[i9];omega),i9,h,lV];rfl
   ·rw[if_neg λz=>h (hs.mp z rfl),gp (by rw[i9];omega),vj,if_pos (by omega)];rfl
 |c::ws,q,hq=>by
  have bZ:(yZ row (iZ ws) b).length=row.length+1:=lN;have ge:∀x∈yZ row (iZ ws) b,-1<=x:=λx hx=>by
   obtain⟨j,hj,rfl⟩:=List.mem_iff_getElem.mp hx
   have:=rP (row:=row) (b:=b) ws j (by omega)
   rw[gq,cX hj]at this;have this:(yZ row (iZ ws) b)[j]=_:=this;rw[this];split<;>omega
  show(yZ row (⟨.pl c,49⟩::iZ ws) b).getD q 0=_;rw[Ez,N9 bZ ge q hq];by_cases h:q<row.length/\row.getD q 0=c
  ·rw[if_pos h,rP ws (q+1) (by omega)]
   by_cases h2:kJ row ws b (q+1)
   ·rw[if_pos h2,if_pos (kK.mpr ⟨h,h2⟩),cU];omega
   ·rw[if_neg h2,if_neg λz=>h2 (kK.mp z).2]
  ·rw[if_neg h,if_neg λz=>h (kK.mp z).1]
theorem za(l:Dx):∀qs,(!Xo (lD l qs))=true ↔ ∃q∈qs,l.getD q 0≠-1
 |[]=>⟨λh=>(by cases h),λ⟨_,h,_⟩=>(by cases h)⟩
 |q::qs=>by
  unfold lD;by_cases h:l.getD q 0≠-1
  ·rw[if_pos h]
   exact⟨λ_=>⟨q,ee ..,h⟩,λ_=>rfl⟩
  ·rw[if_neg h,za l qs]
   exact⟨λ⟨x,a,b⟩=>⟨x,dX _ a,b⟩,λ⟨x,a,b⟩=>⟨x,(cA.mp a).resolve_left λz=>h (z▸b),b⟩⟩
def KA{row:B1}{c q:Nat}:kJ row [c] false q ↔ row[q]?=some c:=by
 unfold kJ;constructor
 ·rintro⟨h1,h2,_⟩
  have h1:q+1<=row.length:=h1;have hq:q<row.length:=by omega
  rw[qt hq]at h2;have h2:[row[q]]=[c]:=h2;injection h2 with h2
  rw[cX hq,h2]
 ·intro h
  obtain⟨hq,e⟩:=bD.mp h;refine⟨by show q+1<=_;omega,?_,λz=>by cases z⟩
  rw[qt hq,e];rfl
def HV(row ws:B1):rN row false (iZ ws) false=true ↔ ∃q,q<=row.length/\kJ row ws false q:=by
 have bZ:(yZ row (iZ ws) false).length=row.length+1:=lN;have hc:A6 row false (iZ ws) false=yZ row (iZ ws) false:=by
  unfold A6;rw[if_neg dP]
 unfold rN N5;rw[za,hc,bZ];constructor
 ·rintro⟨q,hq,h⟩
  have hq:=ig.mp hq;rw[rP ws q (by omega)]at h
  by_cases z:kJ row ws false q
  ·exact⟨q,by omega,z⟩
  ·rw[if_neg z]at h;exact absurd rfl h
 ·rintro⟨q,hq,z⟩
  refine⟨q,ig.mpr (by omega),?_⟩
  rw[rP ws q hq,if_pos z];omega
def Tf(row ws:B1)(h0:ws≠[]):Gg ws row=rN row false (iZ ws) false:=by
 rw[xr,HV]
 match ws,h0 with
 |[c],_=>
  unfold Gg;rw[decide_eq_true_iff];constructor
  ·intro h
   obtain⟨q,hq,e⟩:=List.getElem_of_mem h;exact⟨q,by omega,KA.mpr (by rw[cX hq,e])⟩
  ·rintro⟨q,_,z⟩
   exact i8 (KA.mp z)
 |c::d::r,_=>
  unfold Gg;rw[Bu];constructor
  ·rintro⟨q,hq,h⟩
   rw[dq,decide_eq_true_iff,beq_iff_eq]at h;exact⟨q,by have:=ig.mp hq;omega,h.1,h.2,λz=>by cases z⟩
  ·rintro⟨q,hq,z⟩
   refine⟨q,ig.mpr (by omega),?_⟩
   rw[dq,decide_eq_true_iff,beq_iff_eq];exact⟨z.1,z.2.1⟩
structure WV where
 lines:FK
 bm:T
 tl:Nat
 tr:T
 ps:Int
 mt:Nat
 tk:Int
 hand:T
 hr:Int
 sh:Nat
 su:Nat
 no:Nat
 lg:Nat
 wt:Bool
def WV.ob(v:WV):Ob:=⟨24,[.val (.lst v.lines),.val v.bm,.val (.own v.tl),.val v.tr,.val (.int v.ps),.val (.own v.mt),.val (.int v.tk),.val v.hand,.val (.int v.hr),.val (.own v.sh),.val (.own v.su),.val (.own v.no),.val (.own v.lg),.val (.bl v.wt)]⟩
structure WS(m:FV)(w:Nat)(v:WV)(log:FK):Prop where
 o:m[w]?=some v.ob
 l:m[v.lg]?=some ⟨M.bc,[.ol log]⟩
 ne:v.lg≠w
 pY:log.length<900000
structure Fr(X:Nat->Prop)(m m':FV):Prop where
 le:m.length<=m'.length
 at_:∀k,k<m.length->¬ X k->m'[k]?=m[k]?
def Fr.refl{X:Nat->Prop}:Fr X m m:=⟨c_ _,λ_ _ _=>rfl⟩
theorem Fr.trans{X:Nat->Prop}{m m1 m2:FV}(a:Fr X m m1)(b:Fr X m1 m2):Fr X m m2:=⟨gx a.le b.le,λk h x=>(b.at_ k (ik h a.le) x).trans (a.at_ k h x)⟩
theorem Fr.set{X:Nat->Prop}{k:Nat}{ob:Ob}(h:X k):Fr X m (m.set k ob):=⟨by rw[e_];exact c_ _,λj _ x=>dB λ(z:k=j)=>x (z▸h)⟩
def WX(w:Nat)(v:WV)(k:Nat):Prop:=k=w\/k=v.lg
section
variable{m:FV}{w f j:Nat}{v v':WV}{log:FK}{r:Fs}{a:FE}{t:T}{s:S}
def WS.app(S':WS m w v log)(h:(log++[t]).length<900000):WS (m.set v.lg ⟨M.bc,[.ol (log++[t])]⟩) w v (log++[t]):=
 ⟨by rw[dB S'.ne];exact S'.o,eu (bD.mp S'.l).1,S'.ne,h⟩
def WS.fld(S':WS m w v log)(h:v'.lg=v.lg):WS (m.set w v'.ob) w v' log:=
 ⟨eu (bD.mp S'.o).1,by rw[h,dB (Ne.symm S'.ne)];exact S'.l,by rw[h];exact S'.ne,S'.pY⟩
def w_fld(S':WS m w v log)(hj:iC M.P.tab 24 f=some j)(hf:v.ob.fs[j]?=sv t):az M.P.tab f zA ⟨sv (.own w)::r,m⟩=.ok (t,⟨sv (.own w)::r,m⟩):=jX (k:=w) rfl S'.o hj hf
def uX(S':WS m w v log)(ha:a ⟨sv (.own w)::r,m⟩=.ok (t,⟨sv (.own w)::r,m⟩)):eZ M.bc (az M.P.tab 29 zA) a ⟨sv (.own w)::r,m⟩=.ok (.nx,⟨sv (.own w)::r,m.set v.lg ⟨M.bc,[.ol (log++[t])]⟩⟩):=by
 unfold eZ;rw[w_fld S' (j:=12) (t:=.own v.lg) rfl rfl];refine Eq.trans (bI _ _) ?_;show Res.bind (aX (oX M.bc m (.own v.lg))) _=_;rw[nC S'.l];refine Eq.trans (bI _ _) ?_;show Res.bind (a ⟨sv (.own w)::r,m⟩) _=_;rw[ha];refine Eq.trans (bI _ _) ?_;show Res.bind (aX (oX M.bc m (.own v.lg))) _=_;rw[nC S'.l];refine Eq.trans (bI _ _) ?_;show Res.bind (aX (gd (log.length<1000000) ())) _=_;rw[gQ (by have:=S'.pY;omega)]
 rfl
def EA(S':WS m w v log)(ha:a ⟨sv (.own w)::r,m⟩=.ok (t,⟨sv (.own w)::r,m⟩))(hp:cY M.P.tab f (.val t) v.ob=some v'.ob):aH M.P.tab f zA a ⟨sv (.own w)::r,m⟩=.ok (.nx,⟨sv (.own w)::r,m.set w v'.ob⟩):=by
 unfold aH;rw[ha];refine Eq.trans (bI _ _) ?_;show Res.bind (aX ((m[w]?).bind _)) _=_;rw[S'.o];show Res.bind (aX (cY M.P.tab f (.val t) v.ob)) _=_;rw[hp];rfl
def N_{ah:Nat->Fn}{i:Nat}{fl:FL}{ts:FK}{Q:T×FV->Prop}(S':WS m w v log)(ha:fl ⟨sv (.own w)::r,m⟩=.ok (ts,⟨sv (.own w)::r,m⟩))(hc:W (ah i (.own w::ts) m) Q):W (aJ (au (ak [(24,i)] ah) zA fl) ⟨sv (.own w)::r,m⟩) λp=>p.1=.nx/\p.2.r=sv (.own w)::r/\∃u,Q (u,p.2.m):=by
 obtain⟨⟨u,m'⟩,e,q⟩:=hc;have e1:au (ak [(24,i)] ah) zA fl ⟨sv (.own w)::r,m⟩=.ok (u,⟨sv (.own w)::r,m'⟩):=uE (k:=w) (ob:=v.ob) (s1:=⟨sv (.own w)::r,m⟩) (s2:=⟨sv (.own w)::r,m⟩) rfl S'.o rfl ha e;refine⟨(.nx,⟨sv (.own w)::r,m'⟩),?_,rfl,rfl,u,q⟩;unfold aJ;rw[e1];rfl
def Tg(S':WS m w v log)(hj:iC M.P.tab 24 f=some j)(hf:v.ob.fs[j]?=sv (.int i))(hv:(⟨24,v.ob.fs.set j (.val (.int (i+1)))⟩:Ob)=v'.ob):nk M.P.tab f f6 zA zI ⟨sv (.own w)::r,m⟩=.ok (.nx,⟨sv (.own w)::r,m.set w v'.ob⟩):=by
 have e:f9 M.P.tab f m (.own w)=some (w,v.ob,j,.val (.int i)):=by
  show(m[w]?).bind _=_;rw[S'.o];show(iC M.P.tab 24 f).bind _=_;rw[hj];show(v.ob.fs[j]?).map _=_;rw[hf];rfl
 unfold nk;show Res.bind (aX (f9 M.P.tab f m (.own w))) _=_;rw[e];refine Eq.trans (bI _ _) ?_;show Res.bind (aX (f9 M.P.tab f m (.own w))) _=_;rw[e];refine Eq.trans (bI _ _) ?_;show Res.bind (aX (gd (v.ob.c=v.ob.c) ())) _=_;rw[gQ rfl];show Res.ok (Out.nx,(⟨sv (.own w)::r,m.set w ⟨v.ob.c,v.ob.fs.set j (.val (.int (i+1)))⟩⟩:S))=_;rw[show v.ob.c=24 from rfl,hv]
def HW{B:FS}{Q:Out×S->Prop}(S':WS m w v log)(hl:log.length+1<900000)(ha:a ⟨sv (.own w)::r,m⟩=.ok (t,⟨sv (.own w)::r,m⟩))(k:∀m',WS m' w v (log++[t])->Fr (WX w v) m m'->W (B ⟨sv (.own w)::r,m'⟩) Q):W (af (eZ M.bc (az M.P.tab 29 zA) a) B ⟨sv (.own w)::r,m⟩) Q:=dD (W.of (uX S' ha) ⟨rfl,k _ (S'.app (by simpa using hl)) (Fr.set (.inr rfl))⟩)
def AI{B:FS}{Q:Out×S->Prop}(S':WS m w v log)(v':WV)(hg:v'.lg=v.lg)(ha:a ⟨sv (.own w)::r,m⟩=.ok (t,⟨sv (.own w)::r,m⟩))(hp:cY M.P.tab f (.val t) v.ob=some v'.ob)(k:∀m',WS m' w v' log->Fr (WX w v) m m'->W (B ⟨sv (.own w)::r,m'⟩) Q):W (af (aH M.P.tab f zA a) B ⟨sv (.own w)::r,m⟩) Q:=dD (W.of (EA S' ha hp) ⟨rfl,k _ (S'.fld hg) (Fr.set (.inl rfl))⟩)
def Oa{i:Int}{B:FS}{Q:Out×S->Prop}(S':WS m w v log)(v':WV)(hg:v'.lg=v.lg)(hj:iC M.P.tab 24 f=some j)(hf:v.ob.fs[j]?=sv (.int i))(hv:(⟨24,v.ob.fs.set j (.val (.int (i+1)))⟩:Ob)=v'.ob)(k:∀m',WS m' w v' log->Fr (WX w v) m m'->W (B ⟨sv (.own w)::r,m'⟩) Q):W (af (nk M.P.tab f f6 zA zI) B ⟨sv (.own w)::r,m⟩) Q:=dD (W.of (Tg S' hj hf hv) ⟨rfl,k _ (S'.fld hg) (Fr.set (.inl rfl))⟩)
def jZ{ah:Nat->Fn}{i:Nat}{fl:FL}{ts:FK}{R:T×FV->Prop}{Q:Out×S->Prop}(S':WS m w v log)(ha:fl ⟨sv (.own w)::r,m⟩=.ok (ts,⟨sv (.own w)::r,m⟩))(hc:W (ah i (.own w::ts) m) R)(k:∀u m',R (u,m')->Q (.nx,⟨sv (.own w)::r,m'⟩)):W (aJ (au (ak [(24,i)] ah) zA fl) ⟨sv (.own w)::r,m⟩) Q:=by
 refine(N_ (r:=r) S' ha hc).mono λp hp=>?_;obtain⟨h1,h2,u,h4⟩:=hp;obtain⟨o,pr,pm⟩:=p;cases h1;cases h2;exact k u pm h4
def WR(w:Nat)(v0 v:WV)(log:FK)(m0:FV)(p:T×FV):Prop:=p.1=.non/\WS p.2 w v log/\Fr (WX w v0) m0 p.2
abbrev eS(i:Int):T:=.tup [.str [119,97,110,116],.int (i+1)]
def HX(S':WS m w v log)(hl:log.length+1<900000):W (cN (n+1) 67 [.own w] m) (WR w v {v with wt:=true} (log++[eS v.tk]) m):=by
 rw[YQ];have S1:=S'.app (t:=eS v.tk) (by simpa using hl)
 have S2:=S1.fld (v':={v with wt:=true}) rfl
 refine dW rfl (dD (W.of (uX S' (t:=eS v.tk) (r:=[]) ?_) ⟨rfl,W.of (EA S1 (t:=.bl true) (v':={v with wt:=true}) rfl rfl) ⟨rfl,rfl,S2,(Fr.set (.inr rfl)).trans (Fr.set (.inl rfl))⟩⟩))
 exact dm (aw (t:=.str [119,97,110,116]) rfl (aw (aB (w_fld S' (j:=6) (t:=.int v.tk) rfl rfl) rfl rfl) rfl)) rfl
def rQ(S':WS m w v log)(hl:log.length+1<900000):W (cN (n+1) 75 [.own w,t] m) (WR w v v (log++[.tup [.str zg,t]]) m):=by
 rw[ż];have S1:=S'.app (t:=.tup [.str zg,t]) (by simpa using hl)
 refine dW rfl (W.of (uX S' (t:=.tup [.str zg,t]) (r:=[sv t]) ?_) ⟨rfl,rfl,S1,Fr.set (.inr rfl)⟩);exact dm (aw (t:=.str zg) rfl (aw (t:=t) rfl rfl)) rfl
def HZ(S':WS m w v log)(hl:log.length+1<900000):W (cN (n+1) 74 [.own w] m) (WR w v v (log++[.tup [.str [110,111,110,101],.int (v.tk+1)]]) m):=by
 rw[ź];have S1:=S'.app (t:=.tup [.str [110,111,110,101],.int (v.tk+1)]) (by simpa using hl)
 refine dW rfl (W.of (uX S' (t:=.tup [.str [110,111,110,101],.int (v.tk+1)]) (r:=[]) ?_) ⟨rfl,rfl,S1,Fr.set (.inr rfl)⟩);exact dm (aw (t:=.str [110,111,110,101]) rfl (aw (aB (w_fld S' (j:=6) (t:=.int v.tk) rfl rfl) rfl rfl) rfl)) rfl
end
section
variable{m:FV}{w f j:Nat}{v v':WV}{log:FK}{r:Fs}{a:FE}{t:T}{s:S}
abbrev zb:T:=.tup [.str [111,118,101,114]]
abbrev zc(t:T):T:=.tup [.str zg,t]
def zd(S':WS m w v log)(hl:log.length+2<900000):W (cN (n+2) 76 [.own w] m) (WR w v {v with hand:=.non,hr:=0,ps:=0,wt:=true} (log++[zb]++[eS v.tk]) m):=by
 rw[ž];refine dW rfl (HW (r:=[]) (t:=zb) S' (by omega) rfl λm1 S1 F1=>AI S1 {v with hand:=.non} rfl rfl rfl λm2 S2 F2=>AI S2 {v with hand:=.non,hr:=0} rfl rfl rfl λm3 S3 F3=>AI S3 {v with hand:=.non,hr:=0,ps:=0} rfl rfl rfl λm4 S4 F4=>jZ S4 rfl (HX n S4 (by simp;omega)) λ_ m5 h=>⟨rfl,rfl,h.2.1,(((F1.trans F2).trans F3).trans F4).trans h.2.2⟩)
def ze(S':WS m w v log)(hl:log.length+3<900000):W (cN (n+3) 77 [.own w] m) (WR w v {v with hand:=.non,hr:=0,ps:=0,wt:=true} (log++[zc v.hand]++[zb]++[eS v.tk]) m):=by
 rw[w77];exact dW rfl (dD (jZ (r:=[]) (ts:=[v.hand]) S' (aw (w_fld S' (j:=7) rfl rfl) rfl) (rQ (n+1) S' (by omega)) λ_ m1 h=>⟨rfl,jZ h.2.1 rfl (zd n h.2.1 (by simp;omega)) λ_ m2 h2=>⟨rfl,rfl,h2.2.1,h.2.2.trans h2.2.2⟩⟩))
end
def Th:T->FK
 |.tup (.str nm::ys)=>if nm=zg then ys.take 1 else[]
 |_=>[]
def YZ(e:T):Prop:=∃nm ys,e=.tup (.str nm::ys)/\(nm=zg->∃x,ys=[x])
def Y0(a b:B1):aL .Eq (.str a) (.str b)=some (.bl (decide (a=b))):=rfl
theorem uY:∀(log:FK)(m:FV),(∀e∈log,YZ e)->cP (setG 1) (bW (oE (oI zB zO) (cS zg))) (oI zB zI) [none,none] log m=.ok (log.flatMap Th,m)
 |[],_,_=>rfl
 |e::log,m,h=>by
  obtain⟨nm,ys,rfl,hg⟩:=h e (ee ..);have ih:=uY log m λe he=>h e (dX _ he);have c:bW (oE (oI zB zO) (cS zg)) ⟨[none,sv (.tup (.str nm::ys))],m⟩=.ok (decide (nm=zg),⟨[none,sv (.tup (.str nm::ys))],m⟩):=by
   have e0:gi (.tup (.str nm::ys)) (.int 0)=some (.str nm):=by
    show atT (T.str nm::ys) (((0:Nat)):Int)=_;rw[iJ (by simp)];rfl
   have e2:oE (oI zB zO) (cS zg) ⟨[none,sv (.tup (.str nm::ys))],m⟩=.ok (.bl (decide (nm=zg)),⟨[none,sv (.tup (.str nm::ys))],m⟩):=aB (aB (t:=.tup (.str nm::ys)) (u:=.int 0) rfl rfl e0) rfl (Y0 _ _);unfold bW;rw[e2];rfl
  rw[cP];refine Eq.trans (bI _ _) ?_;show Res.bind (bW _ ⟨[none,sv (.tup (.str nm::ys))],m⟩) _=_;rw[c];refine Eq.trans (bI _ _) ?_;rw[IX];by_cases hn:nm=zg
  ·obtain⟨x,rfl⟩:=hg hn
   have e1:oI zB zI ⟨[none,sv (.tup [.str nm,x])],m⟩=.ok (x,⟨[none,sv (.tup [.str nm,x])],m⟩):=by
    refine aB (t:=.tup [.str nm,x]) (u:=.int 1) rfl rfl ?_;show atT [T.str nm,x] (((1:Nat)):Int)=_;rw[iJ (by simp)];rfl
   dsimp only;rw[decide_eq_true hn,if_pos rfl,e1];refine Eq.trans (bI _ _) ?_;dsimp only;rw[ih];show Res.ok (x::log.flatMap Th,m)=Res.ok ((if nm=zg then[x].take 1 else[])++log.flatMap Th,m)
   rw[if_pos hn];rfl
  ·dsimp only
   rw[decide_eq_false hn,if_neg dP,ih];show _=Res.ok ((if nm=zg then ys.take 1 else[])++log.flatMap Th,m)
   rw[if_neg hn];rfl
structure GV(log:FK)(rows:Ap):Prop where
 ok:∀e∈log,YZ e
 gv:log.flatMap Th=rows.map T.str
section
variable{log ys:FK}{rows:Ap}{x nm:B1}{i j:Int}
def EB(h:nm≠zg)(G:GV log rows):GV (log++[.tup (.str nm::ys)]) rows:=⟨λe he=>by
 rcases k7.mp he with he|he
 ·exact G.ok e he
 ·rw[kc.mp he];exact⟨nm,ys,rfl,λz=>absurd z h⟩,by
 rw[IY,G.gv];show _++((if nm=zg then ys.take 1 else[])++[])=_
 rw[if_neg h,cJ,cJ]⟩
def UX(G:GV log rows):GV (log++[zc (.str x)]) (rows++[x]):=⟨λe he=>by
 rcases k7.mp he with he|he
 ·exact G.ok e he
 ·rw[kc.mp he];exact⟨_,_,rfl,λ_=>⟨_,rfl⟩⟩,by
 rw[IY,G.gv,d_];rfl⟩
end
def WG(m:FV)(w:Nat)(v:WV)(gv:Ap)(lc:Nat):Prop:=∃log,WS m w v log/\GV log gv/\log.length<=lc
abbrev WV.rest(v:WV):WV:={v with hand:=.non,hr:=0,ps:=0,wt:=true}
def DD.gv(x:B1):DD->Ap
 |.drop=>[]
 |.say l=>[l]
 |_=>[x]
def DD.OW(v:WV):DD->WV
 |.drop=>v.rest
 |.done=>v.rest
 |_=>v
section
variable{m:FV}{w lc:Nat}{v v':WV}{log:FK}{gv:Ap}{x:B1}{t u:T}
def Ti(d:DD)(H:WG m w v gv lc)(hh:v.hand=.str x)(hl:lc+5<800000):W (cN (n+4) 78 [.own w,d.val,u] m) λp=>p.1=.non/\WG p.2 w (d.OW v) (gv++d.gv x) (lc+3)/\Fr (WX w v) m p.2:=by
 obtain⟨log,S',G,hg⟩:=H;rw[w78];have eh:az M.P.tab 24 zA ⟨sv (.own w)::[sv d.val,sv u],m⟩=.ok (.str x,⟨sv (.own w)::[sv d.val,sv u],m⟩):=by rw[<- hh];exact w_fld S' (j:=7) rfl rfl
 cases d with
 |drop=>exact dW rfl (iI rfl (jZ (r:=[sv DD.drop.val,sv u]) (ts:=[]) S' rfl (zd (n+1) S' (by omega)) λ_ m1 h=>⟨rfl,rfl,⟨_,h.2.1,by show GV _ (gv++[]);rw[cJ];exact EB (by decide) (EB (by decide) G),by simp;omega⟩,h.2.2⟩))
 |print=>exact dW rfl (c8 rfl (iI rfl (jZ (r:=[sv DD.print.val,sv u]) (ts:=[.str x]) S' (aw eh rfl) (rQ (n+2) S' (by omega)) λ_ m1 h=>⟨rfl,rfl,⟨_,h.2.1,UX G,by simp;omega⟩,h.2.2⟩)))
 |done=>exact dW rfl (c8 rfl (c8 rfl (iI rfl (jZ (r:=[sv DD.done.val,sv u]) (ts:=[]) S' rfl (ze n S' (by omega)) λ_ m1 h=>⟨rfl,rfl,⟨_,h.2.1,by rw[hh];exact EB (by decide) (EB (by decide) (UX G)),by simp;omega⟩,h.2.2⟩))))
 |say l=>
  have e:W (cN (n+3) 79 [.own w,(DD.say l).val] m) (WR w v v (log++[zc (.str l)]) m):=by
   rw[w79];exact dW rfl (iI rfl (jZ (r:=[sv (DD.say l).val]) (ts:=[.str l]) S' rfl (rQ (n+1) S' (by omega)) λ_ m1 h=>⟨rfl,rfl,h.2⟩))
  exact dW rfl (c8 rfl (c8 rfl (c8 rfl (c8 rfl (c8 rfl (c8 rfl (c8 rfl (c8 rfl (iI rfl (jZ (r:=[sv (DD.say l).val,sv u]) (ts:=[(DD.say l).val]) S' rfl e λ_ m1 h=>⟨rfl,rfl,⟨_,h.2.1,UX G,by simp;omega⟩,h.2.2⟩))))))))))
end
abbrev Tj(i:Int)(b:Bool):T:=.tup [.str [109,101,101,116],.int i,.bl b]
def LN.dd:LN->DD
 |.full _ x=>x
def LN.gv(x:B1)(l:LN)(b:Bool):Ap:=if b then l.dd.gv x else[]
def LN.OW(v:WV)(l:LN)(b:Bool):WV:=if b then l.dd.OW v else v
def WQ(w:Nat)(v:WV)(k:Nat):Prop:=k=v.mt\/WX w v k
section
variable{m m1 m':FV}{w lc KC f:Nat}{v v':WV}{log ts:FK}{gv Y3:Ap}{x:B1}{t u:T}{ks:List Ky}{r:Fs}{a:FE}
def Fr.mono{X Y:Nat->Prop}{m m':FV}(h:Fr X m m')(k:∀j,X j->Y j):Fr Y m m':=⟨h.le,λj a b=>h.at_ j a λz=>b (k j z)⟩
def Fr.get{X:Nat->Prop}{m m':FV}(h:Fr X m m'){k:Nat}{ob:Ob}(e:m[k]?=some ob)(x:¬ X k):m'[k]?=some ob:=(h.at_ k (bD.mp e).1 x).trans e
def EC(l:LN):gK M.P.sub [9] l.cond=some (.bl false):=by
 obtain⟨c,d⟩:=l;exact uU c
def WG.up(H:WG m w v gv lc)(h:lc<=KC):WG m w v gv KC:=by
 obtain⟨l,a,b,c⟩:=H;exact⟨l,a,b,gx c h⟩
def H0(l:LN){num:Int}{tr:FK}{b:Bool}(H:WG m w v gv lc)(hh:v.hand=.str x)(hm:m[v.mt]?=some ⟨M.bc,[.od ks ts]⟩)(nz:¬ WX w v v.mt)(hk:Ky.i num∉ks)(hs:ks.length<1000000)(ht:v.tr=.lst tr)(hi:xU (.lst tr) (.int (num-1))=some (.bl b))(hl:lc+7<800000) :
  W (cN (n+5) 71 [.own w,l.val,.int num] m) λp=>p.1=.non/\WG p.2 w (l.OW v b) (gv++l.gv x b) (lc+4)/\p.2[v.mt]?=some ⟨M.bc,[.od (ks++[.i num]) (ts++[.bl true])]⟩/\Fr (WQ w v) m p.2:=by
 rw[Ŵ];obtain⟨m0,h0⟩:∃m0,m0=m.set v.mt ⟨M.bc,[.od (ks++[.i num]) (ts++[.bl true])]⟩:=⟨_,rfl⟩;have F:Fr (λj=>j=v.mt) m m0:=by rw[h0];exact Fr.set rfl
 have Wi:m0[v.mt]?=some ⟨M.bc,[.od (ks++[.i num]) (ts++[.bl true])]⟩:=by rw[h0];exact eu (bD.mp hm).1
 have F':Fr (WQ w v) m m0:=F.mono λ_=>.inl;have keep:∀{m1},Fr (WX w v) m0 m1->m1[v.mt]?=some ⟨M.bc,[.od (ks++[.i num]) (ts++[.bl true])]⟩:=λG=>G.get Wi nz;obtain⟨log,S',G,hg⟩:=H;have S1:WS m0 w v log:=⟨F.get S'.o λz=>nz (.inl z.symm),F.get S'.l λz=>nz (.inr z.symm),S'.ne,S'.pY⟩;refine dW rfl (dD (c8 (jl (t:=l.cond) rfl (EC l)) ⟨_,rfl,rfl,dD (c8 ((N6 (neg:=false) (ky:=.i num) rfl (w_fld S' (j:=5) rfl rfl) rfl hm).trans (by rw[if_neg dP,decide_eq_false hk])) ⟨_,rfl,rfl,dD (W.of (S_ (ky:=.i num) rfl (w_fld S' (j:=5) rfl rfl) rfl rfl hm hk hs) ⟨rfl,?_⟩)⟩)⟩))
 show W (af _ _ ⟨sv (.own w)::[sv l.val,sv (.int num),none],m.set v.mt ⟨M.bc,[.od (ks++[.i num]) (ts++[.bl true])]⟩⟩) _;rw[<- h0];refine wS (aB (t:=.lst tr) (u:=.int (num-1)) (by rw[<- ht];exact w_fld S1 (j:=3) rfl rfl) rfl hi) ?_
 show W (af _ _ ⟨sv (.own w)::[sv l.val,sv (.int num),sv (.bl b)],m0⟩) _;refine HW (t:=Tj num b) S1 (by omega) rfl λm1 S2 F1=>?_
 have H2:WG m1 w v gv (lc+1):=⟨_,S2,EB (by decide) G,by rw[b9];show _+1<=_;omega⟩
 cases b with
 |false=>exact c8 rfl ⟨_,rfl,rfl,rfl,by show WG m1 w v (gv++[]) _;rw[cJ];exact H2.up (by omega),keep F1,F'.trans (F1.mono λ_=>.inr)⟩
 |true=>
  obtain⟨c,d⟩:=l;exact iI rfl (jZ (ts:=[d.val,.int num]) S2 rfl (Ti n d H2 hh (by omega)) λ_ m2 h=>⟨rfl,rfl,h.2.1.up (by omega),keep (F1.trans h.2.2),F'.trans ((F1.trans h.2.2).mono λ_=>.inr)⟩)
def atL{l:FK}{p:Nat}(h:p<l.length):xU (.lst l) (.int (p:Int))=some l[p]:=by
 show atT l (p:Int)=_;rw[iJ h,cX h]
def Tn{L:List LN}{bs:Fh}{p:Nat}(H:WG m w v gv lc)(hh:v.hand=.str x)(hm:m[v.mt]?=some ⟨M.bc,[.od ks ts]⟩)(nz:¬ WX w v v.mt)(hv:v.lines=L.map LN.val)(ht:v.tr=.lst (bs.map T.bl))(hb:bs.length=L.length)(hp:p<L.length)(rR:v.ps=(p:Nat))(hk:Ky.i ((p:Nat)+1)∉ks)(hs:ks.length<1000000)(hl:lc+7<800000) :
  W (cN (n+6) 70 [.own w] m) λq=>q.1=.non/\WG q.2 w (L[p].OW {v with ps:=(p:Nat)+1} (bs[p]'(by omega))) (gv++L[p].gv x (bs[p]'(by omega))) (lc+4)/\q.2[v.mt]?=some ⟨M.bc,[.od (ks++[.i ((p:Nat)+1)]) (ts++[.bl true])]⟩/\Fr (WQ w v) m q.2:=by
 rw[YR];have Y4:p<bs.length:=by omega
 obtain⟨log,S',G,hg⟩:=H;have e0:cz [.lst (L.map LN.val)]=some (.int L.length):=by
  show some (T.int (L.map LN.val).length)=_;rw[bK]
 have hi:∀{α:Type}(g:α->T){y:List α}(h:p<y.length),xU (.lst (y.map g)) (.int ((p:Int)+1-1))=some (g y[p]):=λg y h=>by
  rw[show(p:Int)+1-1=(p:Int) by omega,atL (by rw[bK];exact h),List.getElem_map]
 refine dW rfl (c8 (gE (aB (t:=.int p) (by rw[<- rR];exact w_fld S' (j:=4) rfl rfl) (dm (ts:=[.lst (L.map LN.val)]) (aw (by rw[<- hv];exact w_fld S' (j:=0) rfl rfl) rfl) e0) (by rw[rG,decide_eq_false (by omega)]))) (Oa (r:=[]) S' {v with ps:=(p:Nat)+1} rfl (j:=4) (i:=(p:Nat)) rfl (by rw[<- rR];rfl) rfl λm1 S1 F1=>?_))
 have H1:WG m1 w {v with ps:=(p:Nat)+1} gv lc:=⟨_,S1,G,hg⟩
 refine jZ (ts:=[L[p].val,.int ((p:Nat)+1)]) S1 (aw (aB (t:=.lst (L.map LN.val)) (by rw[<- hv];exact w_fld S1 (j:=0) rfl rfl) (aB (t:=.int ((p:Nat)+1)) (w_fld S1 (j:=4) rfl rfl) rfl rfl) (hi LN.val hp)) (aw (w_fld S1 (j:=4) rfl rfl) rfl)) (H0 n L[p] (num:=(p:Nat)+1) (b:=bs[p]) H1 hh (F1.get hm nz) nz hk hs ht (hi T.bl Y4) hl) λ_ m2 h=>⟨rfl,rfl,h.2.1,h.2.2.1,(F1.mono λj hj=>.inr hj).trans ⟨h.2.2.2.le,λk hk x=>h.2.2.2.at_ k hk x⟩⟩
end
def dG(x:B1):List (LN×Bool)->Ap
 |[]=>[x]
 | (l,b)::r=>if b then(match l.dd with
  |.drop=>[]
  |.done=>[x]
  |.print=>x::dG x r
  |.say s=>s::dG x r)else dG x r
section
variable{m m1 m':FV}{w lc KC f:Nat}{v v':WV}{log:FK}{gv Y3:Ap}{x:B1}{t u:T}{r:Fs}{a:FE}{bs:Fh}{L:List LN}
def Oc(S':WS m w v log)(hv:v.lines=L.map LN.val)(rR:v.ps=(L.length:Nat))(hl:log.length+3<900000):W (cN (n+6) 70 [.own w] m) (WR w v v.rest (log++[zc v.hand]++[zb]++[eS v.tk]) m):=by
 rw[YR];exact dW rfl (iI (gE (aB (t:=.int L.length) (u:=.int L.length) (by rw[<- rR];exact w_fld S' (j:=4) rfl rfl) (dm (ts:=[.lst (L.map LN.val)]) (aw (by rw[<- hv];exact w_fld S' (j:=0) rfl rfl) rfl) (by show some (T.int (L.map LN.val).length)=_;rw[bK])) (by rw[rG,decide_eq_true rfl]))) (jZ (r:=[]) S' rfl (ze (n+2) S' hl) λ_ m1 h=>⟨rfl,rfl,h.2⟩))
def zf(S':WS m w v log):dC (D.tB (az M.P.tab 30 zA)) ⟨sv (.own w)::r,m⟩=.ok (!v.wt,⟨sv (.own w)::r,m⟩):=by
 unfold dC D.tB;rw[w_fld S' (j:=13) (t:=.bl v.wt) rfl rfl];rfl
theorem zh(n:Nat)(hb:bs.length=L.length):∀(d:Nat){m:FV}{v:WV}{gv:Ap}{lc:Nat}{ks:List Ky}{ts:FK}{p e:Nat},p+d=L.length->WG m w v gv lc->v.hand=.str x->m[v.mt]?=some ⟨M.bc,[.od ks ts]⟩->¬ WX w v v.mt->v.lines=L.map LN.val->v.tr=.lst (bs.map T.bl)->v.wt=false->v.ps=(p:Nat)->(∀q:Nat,p<q->Ky.i (q:Nat)∉ks)->ks.length<=p->p+d<=30->lc+4*d+8<800000 ->
  W (bB (dC (D.tB (az M.P.tab 30 zA))) (aJ (au (ak [(24,70)] (cN (n+6))) zA bg)) (e+d+2) ⟨sv (.own w)::r,m⟩) λq=>q.1=.nx/\q.2.r=sv (.own w)::r/\WG q.2.m w v.rest (gv++dG x ((L.zip bs).drop p)) (lc+4*d+3)/\Fr (WQ w v) m q.2.m
 |0,m,v,gv,lc,ks,ts,p,e,hd,H,hh,hm,nz,hv,ht,hw,rR,hk,hkl,hp,hl=>by
  obtain⟨log,S',G,hg⟩:=H;have c:=zf (r:=r) S';rw[hw]at c;refine rC c (jZ S' rfl (Oc n S' hv (by rw[rR];omega) (by omega)) λ_ m1 h=>⟨rfl,AD (zf h.2.1) ⟨rfl,rfl,?_,h.2.2.mono λj hj=>.inr hj⟩⟩)
  rw[List.drop_eq_nil_of_le (by rw[sj];omega)]
  refine⟨_,h.2.1,?_,by simp;omega⟩
  rw[hh];exact EB (by decide) (EB (by decide) (UX G))
 |d+1,m,v,gv,lc,ks,ts,p,e,hd,H,hh,hm,nz,hv,ht,hw,rR,hk,hkl,hp',hl=>by
  have hp:p<L.length:=by omega
  have Y4:p<bs.length:=by omega
  have ed:(L.zip bs).drop p=(L[p],bs[p])::(L.zip bs).drop (p+1):=by
   rw[qt (by rw[sj];omega),List.getElem_zip]
  have on:=Tn n (x:=x) H hh hm nz hv ht hb hp rR (hk (p+1) (sC p)) (by omega) (by omega)
  obtain⟨log,S',G,hg⟩:=H;have c:=zf (r:=r) S';rw[hw]at c;rw[ed];have go:∀{m1:FV}{g:Ap},WG m1 w {v with ps:=(p:Nat)+1} (gv++g) (lc+4)->m1[v.mt]?=some ⟨M.bc,[.od (ks++[.i ((p:Nat)+1)]) (ts++[.bl true])]⟩->Fr (WQ w v) m m1 ->
    W (bB (dC (D.tB (az M.P.tab 30 zA))) (aJ (au (ak [(24,70)] (cN (n+6))) zA bg)) (e+d+2) ⟨sv (.own w)::r,m1⟩) λq=>q.1=.nx/\q.2.r=sv (.own w)::r/\WG q.2.m w v.rest (gv++(g++dG x ((L.zip bs).drop (p+1)))) (lc+4*(d+1)+3)/\Fr (WQ w v) m q.2.m:=λH1 h1 F1=>by
   refine(zh n hb d (p:=p+1) (e:=e) (by omega) H1 hh h1 nz hv ht hw (by show(p:Int)+1=_;omega) (λq hq z=>?_) (by rw[b9];show _+1<=_;omega) (by omega) (by omega)).mono λq hq=>?_
   ·rcases k7.mp z with z|z
    ·exact hk q (by omega) z
    ·have:=kc.mp z
     injection this with this
     omega
   ·obtain⟨k1,k2,k3,k4⟩:=hq
    exact⟨k1,k2,by rw[<- fK];exact k3.up (by omega),F1.trans k4⟩
  have stop:∀{m1:FV}{g:Ap},WG m1 w v.rest (gv++g) (lc+4)->Fr (WQ w v) m m1 ->
    W (bB (dC (D.tB (az M.P.tab 30 zA))) (aJ (au (ak [(24,70)] (cN (n+6))) zA bg)) (e+d+2) ⟨sv (.own w)::r,m1⟩) λq=>q.1=.nx/\q.2.r=sv (.own w)::r/\WG q.2.m w v.rest (gv++g) (lc+4*(d+1)+3)/\Fr (WQ w v) m q.2.m:=λH1 F1=>by
   obtain⟨Xp,S1,G1,hg1⟩:=H1;exact AD (zf S1) ⟨rfl,rfl,⟨Xp,S1,G1,by omega⟩,F1⟩
  refine rC (k:=e+d+2) c (jZ S' rfl on λ_ m1 h=>⟨rfl,?_⟩);obtain⟨_,h1,h2,h3⟩:=h;unfold LN.OW LN.gv at h1;cases hbp:bs[p]with
  |false=>
   rw[hbp]at h1;rw[show dG x ((L[p],false)::(L.zip bs).drop (p+1))=[]++dG x ((L.zip bs).drop (p+1))from rfl];exact go h1 h2 h3
  |true=>
   rw[hbp]at h1;cases hdd:L[p].dd with
   |drop=>rw[hdd]at h1;rw[show dG x ((L[p],true)::(L.zip bs).drop (p+1))=[] by rw[dG,if_pos rfl,hdd]];exact stop h1 h3
   |done=>rw[hdd]at h1;rw[show dG x ((L[p],true)::(L.zip bs).drop (p+1))=[x] by rw[dG,if_pos rfl,hdd]];exact stop h1 h3
   |print=>rw[hdd]at h1;rw[show dG x ((L[p],true)::(L.zip bs).drop (p+1))=[x]++dG x ((L.zip bs).drop (p+1)) by rw[dG,if_pos rfl,hdd];rfl];exact go h1 h2 h3
   |say s=>rw[hdd]at h1;rw[show dG x ((L[p],true)::(L.zip bs).drop (p+1))=[s]++dG x ((L.zip bs).drop (p+1)) by rw[dG,if_pos rfl,hdd];rfl];exact go h1 h2 h3
end
section
variable{m m1 m':FV}{w lc KC f:Nat}{v v':WV}{log:FK}{gv Y3:Ap}{x:B1}{t u:T}{r:Fs}{a:FE}{bs:Fh}{L:List LN}
def Od(S':WS m1 w v log)(ha:a ⟨sv (.own w)::r,m⟩=.ok (t,⟨sv (.own w)::r,m1⟩))(hp:cY M.P.tab f (.val t) v.ob=some v'.ob):aH M.P.tab f zA a ⟨sv (.own w)::r,m⟩=.ok (.nx,⟨sv (.own w)::r,m1.set w v'.ob⟩):=by
 unfold aH;rw[ha];refine Eq.trans (bI _ _) ?_;show Res.bind (aX ((m1[w]?).bind _)) _=_;rw[S'.o];show Res.bind (aX (cY M.P.tab f (.val t) v.ob)) _=_;rw[hp];rfl
def j0{α:Type}{m:List α}{k:Nat}{ob x:α}(h:m[k]?=some ob):(m++[x])[k]?=some ob:=by
 rw[gp (bD.mp h).1];exact h
def WS.snoc{ob:Ob}(S':WS m w v log):WS (m++[ob]) w v log:=⟨j0 S'.o,j0 S'.l,S'.ne,S'.pY⟩
def Xq{B:FS}{Q:Out×S->Prop}(S':WS m w v log)(v':WV)(hg:v'.lg=v.lg)(hp:cY M.P.tab f (.val (.own m.length)) v.ob=some v'.ob)(k:∀m',WS m' w v' log->Fr (WX w v) m m'->m'[m.length]?=some ⟨M.bc,[.od [] []]⟩->W (B ⟨sv (.own w)::r,m'⟩) Q):W (af (aH M.P.tab f zA (lA M.bc)) B ⟨sv (.own w)::r,m⟩) Q:=by
 have hw:w<m.length:=(bD.mp S'.o).1;have S1:WS (m++[⟨M.bc,[.od [] []]⟩]) w v log:=S'.snoc;refine dD (W.of (Od S1 (t:=.own m.length) (v':=v') rfl hp) ⟨rfl,k _ (S1.fld hg) ⟨by simp,λj hj x=>?_⟩ ?_⟩)
 ·rw[dB λ(z:w=j)=>x (.inl z.symm),gp hj]
 ·rw[dB (by omega),eT (c_ _),lV];rfl
abbrev To(i:Int):T:=.tup [.str [116,97,107,101],.int i]
def H_(H:WG m w v gv lc)(hb:bs.length=L.length)(hL:L.length<=30)(hv:v.lines=L.map LN.val)(hh:v.hand=.non)(hr:v.hr=0)(rR:v.ps=0)(hl:lc+140<800000) :
  W (cN (n+7) 69 [.own w,.str x,.lst (bs.map T.bl)] m) λp=>p.1=.non/\∃mt,WG p.2 w {v.rest with tk:=v.tk+1,tr:=.lst (bs.map T.bl),mt:=mt} (gv++dG x (L.zip bs)) (lc+130)/\Fr (WX w v) m p.2:=by
 rw[ű];obtain⟨log,S',G',hg⟩:=H;have Y5:v.lg<m.length:=(bD.mp S'.l).1;have hw:w<m.length:=(bD.mp S'.o).1;refine dW rfl (Oa (r:=[sv (.str x),sv (.lst (bs.map T.bl))]) S' {v with tk:=v.tk+1} rfl (j:=6) (i:=v.tk) rfl rfl rfl λm1 S1 F1=>HW (t:=To (v.tk+1)) S1 (by omega) (dm (aw rfl (aw (w_fld S1 (j:=6) rfl rfl) rfl)) rfl) λm2 S2 F2=>AI S2 {v with tk:=v.tk+1,hand:=.str x} rfl (t:=.str x) ?_ rfl λm3 S3 F3=>Oa S3 {v with tk:=v.tk+1,hand:=.str x,hr:=v.hr+1} rfl (j:=8) (i:=v.hr) rfl rfl rfl λm4 S4 F4=>AI S4 {v with tk:=v.tk+1,hand:=.str x,hr:=v.hr+1,tr:=.lst (bs.map T.bl)} rfl rfl rfl λm5 S5 F5=>Xq S5 {v with tk:=v.tk+1,hand:=.str x,hr:=v.hr+1,tr:=.lst (bs.map T.bl),mt:=m5.length} rfl rfl λm6 S6 F6 h6=>AI S6 {v with tk:=v.tk+1,hand:=.str x,hr:=v.hr+1,tr:=.lst (bs.map T.bl),mt:=m5.length,wt:=false} rfl rfl rfl λm7 S7 F7=>?_)
 ·unfold CL
  rw[gE (b:=true) (aB (t:=.non) (u:=.non) (by rw[<- hh];exact w_fld S2 (j:=7) rfl rfl) rfl rfl)];rfl
 have G:Fr (WX w v) m m5:=(((F1.trans F2).trans F3).trans F4).trans F5;have le:=G.le;have F:Fr (WX w v) m m7:=(G.trans F6).trans F7;have n5:¬ WX w v m5.length:=by
  rintro(z|z)
  ·have z:m5.length=w:=z
   omega
  ·have z:m5.length=v.lg:=z
   omega
 have h7:m7[m5.length]?=some ⟨M.bc,[.od [] []]⟩:=F7.get h6 n5;obtain⟨e,he⟩:∃e,many=e+L.length+2:=⟨many-(L.length+2),by unfold many;omega⟩
 unfold iF;rw[he];refine(zh n hb L.length (x:=x) (lc:=lc+1) (p:=0) (e:=e) (by omega) ⟨_,S7,EB (by decide) G',by rw[b9];show _+1<=_;omega⟩ rfl h7 n5 hv rfl rfl rR (λq _ z=>by cases z) (jz _) (by omega) (by omega)).mono λq hq=>?_
 obtain⟨k1,k2,k3,k4⟩:=hq;refine⟨k1,rfl,m5.length,k3.up (by omega),gx F.le k4.le,λk hk z=>(k4.at_ k (ik hk F.le) ?_).trans (F.at_ k hk z)⟩
 rintro(y|y)
 ·have y:k=m5.length:=y
  omega
 ·exact z y
end
theorem Tp{gg:FG}{e:FE}{r:Fs}{I:Nat->FV->Prop}{V:T->T}{N:Nat}:∀{ts:FK}{i:Nat}{m:FV},(∀t∈ts,∀i m,i<N->I i m->∃b1,gg t r=some b1/\W (e ⟨b1,m⟩) λp=>p.1=V t/\I (i+1) p.2.m)->i+ts.length<=N->I i m->W (cP gg fQ e r ts m) λp=>p.1=ts.map V/\I (i+ts.length) p.2
 |[],i,m,_,_,h=>⟨_,rfl,rfl,h⟩
 |t::ts,i,m,k,hN,h=>by
  rw[cU]at hN;obtain⟨b1,e1,p,e2,r1,h1⟩:=k t (ee ..) i m (by omega) h
  obtain⟨q,e3,l,h2⟩:=Tp (ts:=ts) (λt ht=>k t (dX _ ht)) (by omega) h1
  refine⟨(p.1::q.1,q.2),?_,by rw[dO,<- r1,<- l],by rw[cU,show i+(ts.length+1)=i+1+ts.length by omega];exact h2⟩
  rw[cP,e1];refine Eq.trans (bI _ _) ?_;show Res.bind (e ⟨b1,m⟩) _=_;rw[e2];show Res.bind (cP gg fQ e r ts p.2.m) _=_;rw[e3];rfl
def fF(n d j:Nat):gz n d (some ((j:Nat):Int))=min j n:=by
 unfold gz;dsimp only;rw[if_neg (by omega),zK]
def uZ{α:Type}(l:List α)(j:Nat):bu l none (some ((j:Nat):Int))=l.take j:=by
 unfold bu;have h1:gz l.length 0 none=0:=rfl;have h2:=fF l.length l.length j;rw[h1,h2,Bl,Jm,IZ];omega
theorem u0:∀bs:Fh,boolsOf (bs.map T.bl)=some bs
 |[]=>rfl
 |b::bs=>by
  have:=u0 bs
  show(boolsOf (bs.map T.bl)).map _=_;rw[this];rfl
structure RA(A:B1)(tx:Nat->B1)(nu:Nat->Int)(c:Nat)(m:FV):Prop where
 o:∀k∈A,m[k]?=some ⟨22,[.val (.str (tx k)),.val (.int (nu k)),.val (.own (k+1))]⟩
 b:∀k∈A,∃ks ts,m[k+1]?=some ⟨M.bc,[.od ks ts]⟩/\OV (tx k) ks ts/\ks.length<=c
 sp:∀k∈A,∀j∈A,k≠j+1
 sh:∀k∈A,(tx k).length<=1000
def RX(A:B1)(j:Nat):Prop:=∃k∈A,j=k+1
inductive CV where
 |rw(i:Int)|la|li (f:Bool) (its:List Itm) (b:Bool)|so (j:Nat) (f:Bool) (its:List Itm) (b:Bool)
noncomputable def CV.val:CV->T
 |.rw i=>.obj 3 [.int i]
 |.la=>.obj 4 []
 |.li f its b=>.obj 5 [c9 f its b]
 |.so j f its b=>.obj 6 [.int (j:Nat),c9 f its b]
def CV.lO(x:B1)(i:Int)(R:Ap):CV->Bool
 |.rw j=>decide (j=i)
 |.la=>decide (R.length=0)
 |.li f its b=>rN x f its b
 |.so j f its b=>(R.take j).any λr=>rN r f its b
def CV.ok:CV->Prop
 |.li _ its _=>(∀i∈its,Itm.ok i)/\its.length<=8
 |.so j _ its _=>(∀i∈its,Itm.ok i)/\its.length<=8/\j<=9
 |_=>True
section
variable{A B:B1}{tx:Nat->B1}{nu:Nat->Int}{c k j tk:Nat}{m m':FV}{f b:Bool}{its:List Itm}{i:Int}{tl pl rr:T}{ob:Ob}
def RA.mono{c':Nat}(R:RA A tx nu c m)(h:c<=c'):RA A tx nu c' m:=⟨R.o,λk hk=>let⟨ks,ts,a,b,d⟩:=R.b k hk;⟨ks,ts,a,b,gx d h⟩,R.sp,R.sh⟩
def RA.fr{X:Nat->Prop}(R:RA A tx nu c m)(F:Fr X m m')(h:∀k∈A,¬ X k/\¬ X (k+1)):RA A tx nu c m':=⟨λk hk=>F.get (R.o k hk) (h k hk).1,λk hk=>let⟨ks,ts,a,b⟩:=R.b k hk;⟨ks,ts,F.get a (h k hk).2,b⟩,R.sp,R.sh⟩
def u1(R:RA A tx nu c m)(hk:k∈A)(hc:c<900000)(h:∀i∈its,Itm.ok i)(hl:its.length<=8):W (cN (n+6) 62 [.own k,c9 f its b] m) λp=>p.1=.bl (rN (tx k) f its b)/\RA A tx nu (c+1) p.2/\Fr (RX A) m p.2:=by
 obtain⟨ks,ts,hb,K,hs⟩:=R.b k hk;obtain⟨Td,ts',e,K',Ac⟩:=N7 n (f:=f) (b:=b) (R.o k hk) hb (by omega) K (by omega) (R.sh k hk) h hl
 refine W.of e ⟨rfl,⟨λq hq=>?_,λq hq=>?_,R.sp,R.sh⟩,Fr.set ⟨k,hk,rfl⟩⟩
 ·show(m.set (k+1) _)[q]?=_
  rw[dB (Ne.symm (R.sp q hq k hk))];exact R.o q hq
 ·by_cases hqk:q=k
  ·subst hqk
   exact⟨Td,ts',eu (bD.mp hb).1,K',by omega⟩
  ·obtain⟨ls,us,h1,h2,h3⟩:=R.b q hq
   exact⟨ls,us,by show(m.set (k+1) _)[q+1]?=_;rw[dB (by omega)];exact h1,h2,by omega⟩
def ED(R:RA A tx nu c m)(hk:k∈A):cN (n+1) 18 [.obj 3 [.int i],.own k] m=.ok (.bl (decide (i=nu k)),m):=by
 rw[YM];refine eB (s':=⟨[sv (.obj 3 [.int i]),sv (.own k)],m⟩) rfl (Ed (A4 (s':=⟨[sv (.obj 3 [.int i]),sv (.own k)],m⟩) rfl (fD (aB (t:=.int i) (u:=.int (nu k)) rfl (jX (k:=k) (j:=1) rfl (R.o k hk) rfl rfl) (rG _ _))))) rfl
def EE(R:RA A tx nu c m)(hk:k∈A)(hc:c<900000)(h:∀i∈its,Itm.ok i)(hl:its.length<=8):W (cN (n+7) 18 [.obj 5 [c9 f its b],.own k] m) λp=>p.1=.bl (rN (tx k) f its b)/\RA A tx nu (c+1) p.2/\Fr (RX A) m p.2:=by
 rw[YM];obtain⟨⟨u,m'⟩,e,hu,q⟩:=u1 n (f:=f) (b:=b) R hk hc h hl;have hu:u=.bl (rN (tx k) f its b):=hu;subst hu;exact kH rfl (bN rfl (bY rfl (vf (mE (k:=k) rfl (R.o k hk) rfl rfl e) ⟨rfl,q⟩)))
def Tq(tx:Nat->B1)(f:Bool)(its:List Itm)(b:Bool):T->T
 |.own q=>.bl (rN (tx q) f its b)
 |_=>.non
def EF(R:RA A tx nu c m)(hB:∀k∈B,k∈A)(hc:c+10<900000)(h:∀i∈its,Itm.ok i)(hl:its.length<=8)(hj:j<=9):W (cN (n+7) 65 [tl,pl,.obj 6 [.int (j:Nat),c9 f its b],rr,.lst (B.map T.own)] m) λp=>p.1=.bl (((B.map tx).take j).any λr=>rN r f its b)/\RA A tx nu (c+10) p.2/\Fr (RX A) m p.2:=by
 rw[SH];refine kH rfl (bN rfl (bN rfl (bN rfl (bY rfl (NP (W5 (Sn (W9 (Ss (W.of (A5 (t:=.lst ((B.take j).map T.own)) (NR (t:=.lst (B.map T.own)) (y:=some ((j:Nat):Int)) rfl rfl rfl (by show some (T.lst (bu _ none _))=_;rw[uZ,qr])) rfl) ⟨?_,?_⟩))))))))))
 ·rw[bK,lT];omega
 ·have h9:((B.take j).map T.own).length<=9:=by rw[bK,lT];omega
  refine(Tp (V:=Tq tx f its b) (N:=9) (I:=λi m'=>RA A tx nu (c+i) m'/\Fr (RX A) m m') (i:=0) (λt ht i' m' hi hI=>?_) (by show 0+((B.take j).map T.own).length<=9;omega) ⟨R,Fr.refl⟩).mono λp hp=>⟨_,rfl,.bl (((B.map tx).take j).any λr=>rN r f its b),?_,rfl,hp.2.1.mono (by show c+(0+((B.take j).map T.own).length)<=c+10;omega),hp.2.2⟩
  ·obtain⟨q,hq,rfl⟩:=ez.mp ht
   have hq:=hB q (I0 hq);obtain⟨⟨u,m2⟩,e,hu,r1,r2⟩:=u1 n (f:=f) (b:=b) hI.1 hq (by omega) h hl
   exact⟨_,rfl,⟨(u,⟨[none,sv (.own q),sv (.obj 6 [.int (j:Nat),c9 f its b])],m2⟩),mE rfl (hI.1.o q hq) rfl rfl e,hu,r1,hI.2.trans r2⟩⟩
  ·show CK (.lst p.1)=_
   rw[hp.1];have e:((B.take j).map T.own).map (Tq tx f its b)=(((B.map tx).take j).map λr=>rN r f its b).map T.bl:=by
    rw[<- qr,du,du,du];rfl
   rw[e];show(boolsOf _).map _=_;rw[u0];show some (T.bl _)=_;rw[xf];rfl
def TR(A:B1)(tx:Nat->B1)(nu:Nat->Int)(b:Bool)(c:Nat)(m:FV)(p:T×FV):Prop:=p.1=.bl b/\RA A tx nu c p.2/\Fr (RX A) m p.2
def nN(cv:CV)(ok:cv.ok)(R:RA A tx nu c m)(hk:k∈A)(hB:∀k∈B,k∈A)(hc:c+10<900000):W (cN (n+8) 65 [tl,pl,cv.val,.own k,.lst (B.map T.own)] m) (TR A tx nu (cv.lO (tx k) (nu k) (B.map tx)) (c+10) m):=by
 cases cv with
 |so j f its b=>exact EF (n+1) R hB hc ok.1 ok.2.1 ok.2.2
 |rw i=>
  rw[SH];exact kH rfl (bN rfl (bN rfl (bN rfl (bN rfl (bR (cE (ts:=[CV.val (.rw i),.own k]) rfl (ED (n+6) R hk)) ⟨rfl,R.mono (by omega),Fr.refl⟩)))))
 |la=>
  rw[SH];refine kH rfl (bN rfl (bN rfl (bY rfl (bR (t:=.bl (decide (((B.map T.own).length:Int)=0))) rfl ⟨congrArg T.bl ?_,R.mono (by omega),Fr.refl⟩))))
  rw[bK];show _=decide ((B.map tx).length=0);rw[bK];exact decide_eq_decide.mpr (by omega)
 |li f its b=>
  rw[SH];refine kH rfl (bN rfl (bN rfl (bN rfl (bN rfl (NP (So (W.of rfl ((EE n R hk (by omega) ok.1 ok.2).mono λp hp=>⟨hp.1,hp.2.1.mono (by omega),hp.2.2⟩))))))))
def EG(cv:CV)(ok:cv.ok)(R:RA A tx nu c m)(hk:k∈A)(hB:∀k∈B,k∈A)(hc:c+10<900000)(ho:m[tk]?=some ob)(Ab:ob.c=23):W (cN (n+9) 65 [.own tk,pl,.obj 8 [cv.val],.own k,.lst (B.map T.own)] m) (TR A tx nu (!cv.lO (tx k) (nu k) (B.map tx)) (c+10) m):=by
 rw[SH];obtain⟨⟨u,m'⟩,e,hu,q⟩:=nN n cv ok (tl:=.own tk) (pl:=pl) R hk hB hc;have hu:u=.bl (cv.lO (tx k) (nu k) (B.map tx)):=hu;subst hu;exact kH rfl (bY rfl (vf (Xf (mE rfl ho (by rw[Ab];rfl) rfl e)) ⟨rfl,q⟩))
end
structure CN where
 ng:Bool
 cv:CV
noncomputable def CN.val(x:CN):T:=if x.ng then .obj 8 [x.cv.val]else x.cv.val
def CN.lO(x:B1)(i:Int)(R:Ap)(y:CN):Bool:=y.ng != y.cv.lO x i R
def kL(aQ:List CN)(ub:Nat):Ob:=⟨23,[.val (.lst (aQ.map CN.val)),.val (.own ub)]⟩
section
variable{A B:B1}{tx:Nat->B1}{nu:Nat->Int}{c k j tk ub:Nat}{m m':FV}{i:Int}{tl pl rr:T}{ob:Ob}{aQ:List CN}
def EH(x:CN)(ok:x.cv.ok)(R:RA A tx nu c m)(hk:k∈A)(hB:∀k∈B,k∈A)(hc:c+10<900000)(ho:m[tk]?=some ob)(Ab:ob.c=23):W (cN (n+9) 65 [.own tk,pl,x.val,.own k,.lst (B.map T.own)] m) (TR A tx nu (x.lO (tx k) (nu k) (B.map tx)) (c+10) m):=by
 obtain⟨g,cv⟩:=x;cases g with
 |true=>
  have e:=EG n cv ok R hk hB hc ho Ab (pl:=pl);rw[show(!cv.lO (tx k) (nu k) (B.map tx))=(CN.lO (tx k) (nu k) (B.map tx) ⟨true,cv⟩) by show _=(true != _);cases cv.lO (tx k) (nu k) (B.map tx)<;>rfl]at e
  exact e
 |false=>
  have e:=nN (n+1) cv ok (tl:=.own tk) (pl:=pl) R hk hB hc;rw[show cv.lO (tx k) (nu k) (B.map tx)=(CN.lO (tx k) (nu k) (B.map tx) ⟨false,cv⟩) by show _=(false != _);cases cv.lO (tx k) (nu k) (B.map tx)<;>rfl]at e
  exact e
theorem zj(n:Nat)(hk:k∈A)(hB:∀k∈B,k∈A)(Lv:¬ RX A tk){all:List CN}:∀(aQ:List CN)(i:Int)(bs:Fh)(c:Nat)(m:FV)(u v:Option C),(∀x∈aQ,x.cv.ok)->RA A tx nu c m->c+10*aQ.length<900000->bs.length+aQ.length<1000->m[tk]?=some (kL all ub) ->
  W (bo (fS [4,5]) (iE 3 (au (ak [(23,65)] (cN (n+9))) zA (cO (vF 4) (k3 (vF 5) zB zC)))) (fR i (aQ.map CN.val)) ⟨[sv (.own tk),sv (.own k),sv (.lst (B.map T.own)),some (.ol (bs.map T.bl)),u,v],m⟩) λp=>p.1=.nx/\∃u v m',p.2=⟨[sv (.own tk),sv (.own k),sv (.lst (B.map T.own)),some (.ol ((bs++aQ.map λx=>x.lO (tx k) (nu k) (B.map tx)).map T.bl)),u,v],m'⟩/\RA A tx nu (c+10*aQ.length) m'/\Fr (RX A) m m'
 |[],i,bs,c,m,u,v,_,R,_,_,_=>⟨_,rfl,rfl,u,v,m,by rw[wY,cJ],R,Fr.refl⟩
 |x::aQ,i,bs,c,m,u,v,ho,R,hc,hb,ht=>by
  rw[cU]at hc hb;obtain⟨⟨t,m1⟩,e,h1,h2,h3⟩:=EH n x (ho x (ee ..)) (pl:=.int i) R hk hB (by omega) ht rfl
  have h1:t=.bl (x.lO (tx k) (nu k) (B.map tx)):=h1;subst h1;have Tr:m1[tk]?=some (kL all ub):=h3.get ht Lv;have g:=zj n hk hB Lv aQ (i+1) (bs++[x.lO (tx k) (nu k) (B.map tx)]) (c+10) m1 (sv (.int i)) (sv x.val) (λy hy=>ho y (dX _ hy)) h2 (by omega) (by simp;omega) Tr
  rw[d_]at g;refine iK rfl (W.of (rB (Dy:=bs.map T.bl) (ts:=bs.map T.bl) rfl (mE rfl ht rfl rfl e) rfl (by rw[bK];omega)) ⟨rfl,g.mono λp hp=>⟨hp.1,?_⟩⟩)
  obtain⟨_,u',v',m',q2,q3,q4⟩:=hp;exact⟨u',v',m',by rw[q2,fK];rfl,by rw[cU,show c+10*(aQ.length+1)=c+10+10*aQ.length by omega];exact q3,h3.trans q4⟩
def Ia(hk:k∈A)(hB:∀k∈B,k∈A)(Lv:¬ RX A tk)(ho:∀x∈aQ,x.cv.ok)(R:RA A tx nu c m)(hc:c+10*aQ.length<900000)(hb:aQ.length<1000)(ht:m[tk]?=some (kL aQ ub)) :
  W (cN (n+10) 64 [.own tk,.own k,.lst (B.map T.own)] m) λp=>p.1=.lst ((aQ.map λx=>x.lO (tx k) (nu k) (B.map tx)).map T.bl)/\RA A tx nu (c+10*aQ.length) p.2/\Fr (RX A) m p.2:=by
 rw[ũ];refine kH rfl (bJ (W.of rfl ⟨rfl,bJ (eg (W.of (a:=(fR 0 (aQ.map CN.val),(⟨[sv (.own tk),sv (.own k),sv (.lst (B.map T.own)),some (.ol []),none,none],m⟩:S))) ?_ ((zj n hk hB Lv (all:=aQ) (ub:=ub) aQ 0 [] c m none none ho R hc (by simpa using hb) ht).mono λp hp=>⟨hp.1,?_⟩)))⟩))
 ·unfold i0
  rw[jX (k:=tk) (s1:=⟨[sv (.own tk),sv (.own k),sv (.lst (B.map T.own)),some (.ol []),none,none],m⟩) (j:=0) rfl ht rfl rfl];rfl
 ·obtain⟨_,u,v,m',e,h1,h2⟩:=hp
  rw[e];exact vf rfl ⟨rfl,h1,h2⟩
end
section
variable{A B:B1}{tx:Nat->B1}{nu:Nat->Int}{c k tk ub w lc:Nat}{m m':FV}{aQ:List CN}{L:List LN}{v:WV}{gv:Ap}
def Oe(L:List LN)(aQ:List CN)(x:B1)(i:Int)(R:Ap):Ap:=dG x (L.zip (aQ.map λy=>y.lO x i R))
def EI(H:WG m w v gv lc)(hv:v.lines=L.map LN.val)(hh:v.hand=.non)(hr:v.hr=0)(rR:v.ps=0)(htl:v.tl=tk)(ht:m[tk]?=some (kL aQ ub))(hc:aQ.length=L.length)(hL:L.length<=30)(ho:∀x∈aQ,x.cv.ok)(R:RA A tx nu c m)(hk:k∈A)(hB:∀k∈B,k∈A)
  (s1:∀k∈A,k≠w/\k+1≠w/\k≠v.lg/\k+1≠v.lg/\k+1≠tk) (xE:c+400<900000) (hl:lc+140<800000) :
  W (cN (n+11) 68 [.own w,.own k,.lst (B.map T.own)] m) λp=>p.1=.non/\∃mt bs,WG p.2 w {v.rest with tk:=v.tk+1,tr:=.lst bs,mt:=mt} (gv++Oe L aQ (tx k) (nu k) (B.map tx)) (lc+130)/\RA A tx nu (c+300) p.2/\Fr (λj=>RX A j\/WX w v j) m p.2:=by
 rw[ů];have nX:∀j,WX w v j->¬ RX A j:=λj hj zz=>by
  obtain⟨q,hq,e⟩:=zz;obtain⟨_,a,_,b,_⟩:=s1 q hq;rcases hj with hj|hj
  ·exact a (e.symm.trans hj)
  ·exact b (e.symm.trans hj)
 obtain⟨⟨t1,m1⟩,e1,Tr,R1,F1⟩:=Ia n (ub:=ub) (aQ:=aQ) hk hB (λ⟨q,hq,e⟩=>(s1 q hq).2.2.2.2 e.symm) ho R (by omega) (by omega) ht
 have Tr:t1=.lst ((aQ.map λx=>x.lO (tx k) (nu k) (B.map tx)).map T.bl):=Tr;subst Tr;obtain⟨log,S',G,hg⟩:=H;have S1:WS m1 w v log:=⟨F1.get S'.o (nX _ (.inl rfl)),F1.get S'.l (nX _ (.inr rfl)),S'.ne,S'.pY⟩;obtain⟨⟨t2,m2⟩,e2,Xr,mt,H2,F2⟩:=H_ (n+3) (x:=tx k) (bs:=aQ.map λx=>x.lO (tx k) (nu k) (B.map tx)) (L:=L) ⟨log,S1,G,hg⟩ (by rw[bK];exact hc) hL hv hh hr rR hl
 have Xr:t2=.non:=Xr;subst Xr;have R2:RA A tx nu (c+300) m2:=(R1.mono (by omega)).fr F2 λj hj=>by
  obtain⟨a,b,d,e,_⟩:=s1 j hj;exact⟨λz=>z.elim a d,λz=>z.elim b e⟩
 have F3:Fr (λj=>RX A j\/WX w v j) m m2:=(F1.mono λ_=>.inl).trans (F2.mono λ_=>.inr);exact dW rfl (dE (uE (k:=w) (s1:=⟨[sv (.own w),sv (.own k),sv (.lst (B.map T.own))],m⟩) (s2:=⟨[sv (.own w),sv (.own k),sv (.lst (B.map T.own))],m1⟩) rfl S'.o rfl (aw (jX (k:=k) (j:=0) rfl (R.o k hk) rfl rfl) (aw (uE (k:=tk) (s1:=⟨[sv (.own w),sv (.own k),sv (.lst (B.map T.own))],m⟩) (s2:=⟨[sv (.own w),sv (.own k),sv (.lst (B.map T.own))],m⟩) (by rw[<- htl];exact w_fld S' (j:=2) rfl rfl) ht rfl rfl e1) rfl)) e2) ⟨rfl,rfl,mt,_,H2,R2,F3⟩)
end
abbrev kZ(sn c:Int)(rs:B1)(fn:Bool):Ob:=⟨25,[.val (.own 1),.val (.int sn),.val (.int c),.val (.own 9),.val (.str rs),.val (.bl fn)]⟩
def aO:Ob:=⟨M.bc,[.od [] []]⟩
abbrev e7(ts:FK):Ob:=⟨M.bc,[.ol ts]⟩
abbrev j3(x:B1)(i:Int)(b:Nat):Ob:=⟨22,[.val (.str x),.val (.int i),.val (.own b)]⟩
section
variable{m m':FV}{sn c c':Int}{rs rs':B1}{fn E5:Bool}{r:Fs}{f j:Nat}{t:T}{a:FE}
def dI(hb:m[0]?=some (kZ sn c rs fn))(hj:iC M.P.tab 25 f=some j)(hf:(kZ sn c rs fn).fs[j]?=sv t):az M.P.tab f zA ⟨sv (.own 0)::r,m⟩=.ok (t,⟨sv (.own 0)::r,m⟩):=jX (k:=0) rfl hb hj hf
def KD(hb:m[0]?=some (kZ sn c rs fn))(ha:a ⟨sv (.own 0)::r,m⟩=.ok (t,⟨sv (.own 0)::r,m⟩))(hp:cY M.P.tab f (.val t) (kZ sn c rs fn)=some (kZ sn c' rs' E5)):aH M.P.tab f zA a ⟨sv (.own 0)::r,m⟩=.ok (.nx,⟨sv (.own 0)::r,m.set 0 (kZ sn c' rs' E5)⟩):=by
 unfold aH;rw[ha];refine Eq.trans (bI _ _) ?_;show Res.bind (aX ((m[0]?).bind _)) _=_;rw[hb];show Res.bind (aX (cY M.P.tab f (.val t) (kZ sn c rs fn))) _=_;rw[hp];rfl
def Tt(hb:m[0]?=some (kZ sn c rs fn)):nk M.P.tab 33 f6 zA zI ⟨sv (.own 0)::r,m⟩=.ok (.nx,⟨sv (.own 0)::r,m.set 0 (kZ sn (c+1) rs fn)⟩):=by
 have e:f9 M.P.tab 33 m (.own 0)=some (0,kZ sn c rs fn,2,.val (.int c)):=by
  show(m[0]?).bind _=_;rw[hb];rfl
 unfold nk;show Res.bind (aX (f9 M.P.tab 33 m (.own 0))) _=_;rw[e];refine Eq.trans (bI _ _) ?_;show Res.bind (aX (f9 M.P.tab 33 m (.own 0))) _=_;rw[e];rfl
end
def Tu{o a:FE}{s s1 s2:S}{kb:Nat}{ts ts':FK}{t:T}(ho:o s=.ok (.own kb,s1))(h1:s1.m[kb]?=some (e7 ts))(ha:a s1=.ok (t,s2))(h2:s2.m[kb]?=some (e7 ts'))(hl:ts'.length<1000000):eZ M.bc o a s=.ok (.nx,⟨s2.r,s2.m.set kb (e7 (ts'++[t]))⟩):=by
 unfold eZ;rw[ho];refine Eq.trans (bI _ _) ?_;dsimp only;rw[nC h1];refine Eq.trans (bI _ _) ?_;rw[ha];refine Eq.trans (bI _ _) ?_;dsimp only;rw[nC h2];refine Eq.trans (bI _ _) ?_;show Res.bind (aX (gd (ts'.length<1000000) ())) _=_;rw[gQ hl];rfl
section
variable{m:FV}{ob m_:Ob}{x:B1}{i:Int}{f:Nat}{t:T}{r:Fs}{a:FE}
def nO{α:Type}{m:List α}{x:α}:(m++[x])[m.length]?=some x:=by
 rw[eT (c_ _),lV];rfl
def u2{α:Type}{m:List α}{x y:α}:(m++[x]).set m.length y=m++[y]:=by
 rw[I_ _ _ (c_ _),lV];rfl
def KG(ha:a ⟨sv (.own m.length)::r,m++[ob]⟩=.ok (t,⟨sv (.own m.length)::r,m++[ob]⟩))(hp:cY M.P.tab f (.val t) ob=some m_):aH M.P.tab f zA a ⟨sv (.own m.length)::r,m++[ob]⟩=.ok (.nx,⟨sv (.own m.length)::r,m++[m_]⟩):=by
 unfold aH;rw[ha];refine Eq.trans (bI _ _) ?_;show Res.bind (aX (((m++[ob])[m.length]?).bind _)) _=_;rw[nO];show Res.bind (aX (cY M.P.tab f (.val t) ob)) _=_;rw[hp];show Res.ok (Out.nx,(⟨_,(m++[ob]).set m.length m_⟩:S))=_;rw[u2]
def EJ:cN (n+1) 61 [.own m.length,.str x,.int i] (m++[⟨22,[]⟩])=.ok (.non,m++[j3 x i (m.length+1),aO]):=by
 rw[ţ];refine wu (s':=⟨[sv (.own m.length),sv (.str x),sv (.int i)],m++[j3 x i (m.length+1),aO]⟩) rfl (seq1 (KG (r:=[sv (.str x),sv (.int i)]) (t:=.str x) (m_:=⟨22,[.val (.str x)]⟩) rfl rfl) (seq1 (KG (r:=[sv (.str x),sv (.int i)]) (t:=.int i) (m_:=⟨22,[.val (.str x),.val (.int i)]⟩) rfl rfl) ?_)) rfl;obtain⟨oA,hA⟩:∃oA:Ob,oA=⟨22,[.val (.str x),.val (.int i)]⟩:=⟨_,rfl⟩;rw[<- hA];unfold aH lA;refine Eq.trans (bI _ _) ?_;show Res.bind (aX (((m++[oA]++[aO])[m.length]?).bind _)) _=_;rw[j0 nO];have hp:cY M.P.tab 15 (.val (.own (m++[oA]).length)) oA=some (j3 x i (m.length+1)):=by
  rw[hA,b9];rfl
 show Res.bind (aX (cY M.P.tab 15 (.val (.own (m++[oA]).length)) oA)) _=_;rw[hp];have e:(m++[oA]++[aO]).set m.length (j3 x i (m.length+1))=m++[j3 x i (m.length+1),aO]:=by
  rw[List.set_append_left _ _ (by simp),u2,fK];rfl
 exact congrArg (λz=>Res.ok (Out.nx,(⟨[sv (.own m.length),sv (.str x),sv (.int i)],z⟩:S))) e
end
def Fr.app{X:Nat->Prop}{m Z:FV}:Fr X m (m++Z):=⟨by rw[b9];omega,λk h _=>gp h⟩
structure BJ(m:FV)(L:List LN)(aQ:List CN)(sn cm:Int)(A:B1)(tx:Nat->B1)(nu:Nat->Int)(rs:B1)(fn:Bool)(v:WV)(gv:Ap)(lc c:Nat):Prop where
 H:WG m 1 v gv lc
 ln:v.lines=L.map LN.val
 tl:v.tl=2
 ps:v.ps=0
 hd:v.hand=.non
 hr:v.hr=0
 sh:v.sh=5
 lg:v.lg=8\/10<=v.lg
 b:m[0]?=some (kZ sn cm rs fn)
 q:m[9]?=some (e7 (A.map T.own))
 t:m[2]?=some (kL aQ 3)
 s:m[5]?=some aO
 R:RA A tx nu c m
 n:∀k∈A,10<=k/\k≠v.lg/\k+1≠v.lg
section
variable{m m':FV}{L:List LN}{aQ:List CN}{sn cm Tv:Int}{A A' rs rs' x:B1}{tx zk:Nat->B1}{nu zl:Nat->Int}{fn E5:Bool}{v:WV}{gv:Ap}{lc c:Nat}{X:Nat->Prop}
def BJ.chg(I:BJ m L aQ sn cm A tx nu rs fn v gv lc c)(F:Fr X m m')(h:∀j,j=1\/j=2\/j=5\/j=v.lg->¬ X j)(b:m'[0]?=some (kZ sn Tv rs' E5))(q:m'[9]?=some (e7 (A'.map T.own)))(R:RA A' zk zl c m')(n:∀k∈A',10<=k/\k≠v.lg/\k+1≠v.lg):BJ m' L aQ sn Tv A' zk zl rs' E5 v gv lc c:=by
 obtain⟨log,S',G,hg⟩:=I.H;exact⟨⟨log,⟨F.get S'.o (h _ (.inl rfl)),F.get S'.l (h _ (.inr (.inr (.inr rfl)))),S'.ne,S'.pY⟩,G,hg⟩,I.ln,I.tl,I.ps,I.hd,I.hr,I.sh,I.lg,b,q,F.get I.t (h _ (.inr (.inl rfl))),F.get I.s (h _ (.inr (.inr (.inl rfl)))),R,n⟩
def BJ.n9(I:BJ m L aQ sn cm A tx nu rs fn v gv lc c):∀j,j=1\/j=2\/j=5\/j=v.lg->j≠0/\j≠9:=λj hj=>by
 have:=I.lg
 rcases hj with h|h|h|h<;>omega
def BJ.Xs(I:BJ m L aQ sn cm A tx nu rs fn v gv lc c):BJ (m.set 0 (kZ sn Tv rs' E5)) L aQ sn Tv A tx nu rs' E5 v gv lc c:=by
 have F:Fr (λj=>j=0) m (m.set 0 (kZ sn Tv rs' E5)):=Fr.set rfl;exact I.chg F (λj hj=>(I.n9 j hj).1) (eu (bD.mp I.b).1) (F.get I.q (by show ¬ 9=0;decide)) (I.R.fr F λk hk=>by have:=(I.n k hk).1;constructor<;>(show ¬ _=_;omega)) I.n
def BJ.Y6(I:BJ m L aQ sn cm A tx nu rs fn v gv lc c)(R:RA A' zk zl c m)(n:∀k∈A',10<=k/\k≠v.lg/\k+1≠v.lg):BJ (m.set 9 (e7 (A'.map T.own))) L aQ sn cm A' zk zl rs fn v gv lc c:=by
 have F:Fr (λj=>j=9) m (m.set 9 (e7 (A'.map T.own))):=Fr.set rfl;exact I.chg F (λj hj=>(I.n9 j hj).2) (F.get I.b (by show ¬ 0=9;decide)) (eu (bD.mp I.q).1) (R.fr F λk hk=>by have:=(n k hk).1;constructor<;>(show ¬ _=_;omega)) n
def k6{α:Type}(f:Nat->α)(k:Nat)(x:α):Nat->α:=λj=>if j=k then x else f j
def zm(I:BJ m L aQ sn cm A tx nu rs fn v gv lc c)(hw:A.length<900000)(hx:x.length<=1000):W (cN (n+2) 85 [.own 0,.str x] m) λp=>p.1=.non/\∃k,k∉A/\BJ p.2 L aQ sn (cm+1) (A++[k]) (k6 tx k x) (k6 nu k (cm+1)) rs fn v gv lc c/\m.length<=k:=by
 rw[w85];refine dW rfl (dD (W.of (Tt (r:=[sv (.str x)]) I.b) ⟨rfl,?_⟩));have I1:BJ (m.set 0 (kZ sn (cm+1) rs fn)) L aQ sn (cm+1) A tx nu rs fn v gv lc c:=I.Xs;obtain⟨m1,h1⟩:∃m1,m1=m.set 0 (kZ sn (cm+1) rs fn):=⟨_,rfl⟩;have bZ:m1.length=m.length:=by rw[h1,e_]
 rw[<- h1]at I1;show W (eZ _ _ _ ⟨[sv (.own 0),sv (.str x)],m.set 0 (kZ sn (cm+1) rs fn)⟩) _;rw[<- h1];have F2:Fr (λ_=>False) m1 (m1++[j3 x (cm+1) (m1.length+1),aO]):=Fr.app;have I2:BJ (m1++[j3 x (cm+1) (m1.length+1),aO]) L aQ sn (cm+1) A tx nu rs fn v gv lc c:=I1.chg F2 (λ_ _ z=>z) (F2.get I1.b λz=>z) (F2.get I1.q λz=>z) (I1.R.fr F2 λ_ _=>⟨λz=>z,λz=>z⟩) I1.n;obtain⟨log,S',G,hg⟩:=I1.H;have Y5:v.lg<m1.length:=(bD.mp S'.l).1;have h9:9<m1.length:=(bD.mp I1.q).1;have hA:∀k∈A,k+1<m1.length:=λk hk=>by
  obtain⟨ks,ts,hb,_⟩:=I1.R.b k hk;exact(bD.mp hb).1
 have hn:m1.length∉A:=λz=>by have:=hA _ z;omega
 refine W.of (Tu (s1:=⟨[sv (.own 0),sv (.str x)],m1⟩) (s2:=⟨[sv (.own 0),sv (.str x)],m1++[j3 x (cm+1) (m1.length+1),aO]⟩) (t:=.own m1.length) (dI I1.b (j:=3) rfl rfl) I1.q (HC (ts:=[.str x,.int (cm+1)]) (s':=⟨[sv (.own 0),sv (.str x)],m1⟩) (aw rfl (aw (dI I1.b (j:=2) rfl rfl) rfl)) (EJ n)) I2.q (by rw[bK];omega)) ⟨rfl,rfl,m1.length,hn,?_,by omega⟩
 have e:A.map T.own++[T.own m1.length]=(A++[m1.length]).map T.own:=by rw[d_];rfl
 show BJ ((m1++[j3 x (cm+1) (m1.length+1),aO]).set 9 (e7 (A.map T.own++[T.own m1.length]))) L aQ sn (cm+1) (A++[m1.length]) _ _ rs fn v gv lc c;rw[e];have old:∀k∈A,k6 tx m1.length x k=tx k/\k6 nu m1.length (cm+1) k=nu k:=λk hk=>by
  have:k≠m1.length:=λz=>hn (z▸hk)
  exact⟨if_neg this,if_neg this⟩
 have new:k6 tx m1.length x m1.length=x/\k6 nu m1.length (cm+1) m1.length=cm+1:=⟨if_pos rfl,if_pos rfl⟩;have mem:∀{k},k∈A++[m1.length]->k∈A\/k=m1.length:=λh=>(k7.mp h).imp id λz=>kc.mp z;refine I2.Y6 ⟨λk hk=>?_,λk hk=>?_,λk hk j hj=>?_,λk hk=>?_⟩ λk hk=>?_
 ·rcases mem hk with hk|rfl
  ·rw[(old k hk).1,(old k hk).2];exact I2.R.o k hk
  ·rw[new.1,new.2,eT (c_ _),lV];rfl
 ·rcases mem hk with hk|rfl
  ·rw[(old k hk).1];exact I2.R.b k hk
  ·rw[new.1]
   exact⟨[],[],by rw[eT (BL _),show m1.length.succ-m1.length=1 by omega];rfl,OV.nil,jz _⟩
 ·rcases mem hk with hk|rfl<;>rcases mem hj with hj|rfl
  ·exact I2.R.sp k hk j hj
  ·have:=hA k hk;omega
  ·have:=hA j hj;omega
  ·omega
 ·rcases mem hk with hk|rfl
  ·rw[(old k hk).1];exact I2.R.sh k hk
  ·rw[new.1];exact hx
 ·rcases mem hk with hk|rfl
  ·exact I2.n k hk
  ·omega
end
def zo{o:FE}{s s1:S}{kb:Nat}{ts:FK}(h:o s=.ok (.own kb,s1))(hm:s1.m[kb]?=some (e7 ts)):kU M.bc o s=.ok (.int ts.length,s1):=by
 unfold kU;rw[h];refine Eq.trans (bI _ _) ?_;dsimp only;rw[nC hm];rfl
def Tw{o:FE}{s s1:S}{kb:Nat}{t:T}{ts:FK}(h:o s=.ok (.own kb,s1))(hm:s1.m[kb]?=some (e7 (t::ts))):nq M.bc o s=.ok (t,⟨s1.r,s1.m.set kb (e7 ts)⟩):=by
 unfold nq;rw[h];refine Eq.trans (bI _ _) ?_;dsimp only;rw[nC hm];rfl
def Xu{o:FE}{lo hi:FO}{s:S}{kb:Nat}{ts:FK}{i j:D2}(h:o s=.ok (.own kb,s))(h1:lo s=.ok (i,s))(h2:hi s=.ok (j,s))(hm:s.m[kb]?=some (e7 ts)):Dz M.bc o lo hi s=.ok (.lst (bu ts i j),s):=by
 unfold Dz;rw[h];refine Eq.trans (bI _ _) ?_;dsimp only;rw[h1];refine Eq.trans (bI _ _) ?_;dsimp only;rw[h2];refine Eq.trans (bI _ _) ?_;dsimp only;rw[nC hm];rfl
def Y7{a:FE}{s s1:S}{i:Int}(h:a s=.ok (.int i,s1)):gW a s=.ok (some i,s1):=by
 unfold gW;rw[h];rfl
def o_(L:List LN)(aQ:List CN)(sn:Nat)(tx:Nat->B1)(nu:Nat->Int):Nat->B1->Ap
 |d+1,k::A=>Oe L aQ (tx k) (nu k) ((A.take sn).map tx)++o_ L aQ sn tx nu d A
 |_,_=>[]
section
variable{m m':FV}{L:List LN}{aQ:List CN}{sn mn lc c KC c' k:Nat}{cm:Int}{A A' rs:B1}{tx:Nat->B1}{nu:Nat->Int}{fn:Bool}{v:WV}{gv:Ap}{u:Option C}
theorem BJ.up(I:BJ m L aQ sn cm A tx nu rs fn v gv lc c)(h:lc<=KC)(h2:c<=c'):BJ m L aQ sn cm A tx nu rs fn v gv KC c':=⟨I.H.up h,I.ln,I.tl,I.ps,I.hd,I.hr,I.sh,I.lg,I.b,I.q,I.t,I.s,I.R.mono h2,I.n⟩
def RA.sub(R:RA A tx nu c m)(h:∀k∈A',k∈A):RA A' tx nu c m:=⟨λk hk=>R.o k (h k hk),λk hk=>R.b k (h k hk),λk hk j hj=>R.sp k (h k hk) j (h j hj),λk hk=>R.sh k (h k hk)⟩
def Of(I:BJ m L aQ sn cm A tx nu rs fn v gv lc c)(R:RA (k::A) tx nu c m)(hk:10<=k/\k≠v.lg/\k+1≠v.lg)(hc:aQ.length=L.length)(hL:L.length<=30)(ho:∀x∈aQ,x.cv.ok)(hl:lc+140<800000)(xE:c+400<900000) :
  W (cN (n+11) 68 [.own 1,.own k,.lst ((A.take sn).map T.own)] m) λp=>p.1=.non/\∃v',BJ p.2 L aQ sn cm A tx nu rs fn v' (gv++Oe L aQ (tx k) (nu k) ((A.take sn).map tx)) (lc+130) (c+300)/\v'.lg=v.lg:=by
 have hn:∀j∈k::A,10<=j/\j≠v.lg/\j+1≠v.lg:=λj hj=>(cA.mp hj).elim (λz=>z▸hk) (I.n j);refine(EI n (A:=k::A) (B:=A.take sn) (tk:=2) (ub:=3) I.H I.ln I.hd I.hr I.ps I.tl I.t hc hL ho R (ee ..) (λj hj=>dX _ (I0 hj)) (λj hj=>?_) xE hl).mono λp hp=>?_
 ·obtain⟨a,b,d⟩:=hn j hj
  exact⟨by omega,by omega,b,d,by omega⟩
 ·obtain⟨h1,mt,bs,H,R2,F⟩:=hp
  have nx:∀j,j=0\/j=2\/j=5\/j=9->¬ (RX (k::A) j\/WX 1 v j):=λj hj z=>by
   rcases z with⟨q,hq,e⟩|z|z
   ·have:=(hn q hq).1;omega
   ·have z:j=1:=z
    omega
   ·have z:j=v.lg:=z
    have:=I.lg
    omega
  exact⟨h1,_,⟨H,I.ln,I.tl,rfl,rfl,rfl,I.sh,I.lg,F.get I.b (nx _ (by omega)),F.get I.q (nx _ (by omega)),F.get I.t (nx _ (by omega)),F.get I.s (nx _ (by omega)),R2.sub λj hj=>dX _ hj,I.n⟩,rfl⟩
def Og(hc:aQ.length=L.length)(hL:L.length<=30)(ho:∀x∈aQ,x.cv.ok):∀(A:B1){m:FV}{v:WV}{gv:Ap}{lc c e:Nat}{u:Option C},BJ m L aQ sn cm A tx nu rs fn v gv lc c->lc+140*A.length<700000->c+400*A.length<700000 ->
  W (bB (bW (bw (aL .Gt) (kU M.bc (az M.P.tab 34 zA)) zB)) (SI (cN (n+11))) (e+A.length+1) ⟨[sv (.own 0),sv (.int (mn:Nat)),u],m⟩) λq=>q.1=.nx/\∃v',BJ q.2.m L aQ sn cm (A.drop (A.length-mn)) tx nu rs fn v' (gv++o_ L aQ sn tx nu (A.length-mn) A) (lc+140*(A.length-mn)) (c+400*(A.length-mn))/\v'.lg=v.lg:=by
 intro A
 induction A with
 |nil=>
  intro m v gv lc c e u I hl xE;refine AD (s1:=⟨[sv (.own 0),sv (.int (mn:Nat)),u],m⟩) (gE (aB (t:=.int 0) (u:=.int (mn:Nat)) (zo (dI I.b (j:=3) rfl rfl) I.q) rfl (by rw[uH,decide_eq_false (by omega)]))) ⟨rfl,v,?_,rfl⟩
  show BJ m L aQ sn cm ([].drop _) tx nu rs fn v (gv++o_ L aQ sn tx nu _ []) _ _;rw[List.drop_nil,show o_ L aQ sn tx nu _ []=[]from by unfold o_;split<;>first|rfl|contradiction,cJ]
  exact I.up (vn ..) (vn ..)
 |cons k A ih=>
  intro m v gv lc c e u I hl xE;rw[cU]at hl xE;by_cases hm:mn<A.length+1
  ·have c1:bW (bw (aL .Gt) (kU M.bc (az M.P.tab 34 zA)) zB) ⟨[sv (.own 0),sv (.int (mn:Nat)),u],m⟩=.ok (true,⟨[sv (.own 0),sv (.int (mn:Nat)),u],m⟩):=gE (aB (t:=.int (((k::A).map T.own).length:Nat)) (u:=.int (mn:Nat)) (zo (dI I.b (j:=3) rfl rfl) I.q) rfl (by rw[uH,decide_eq_true (by rw[bK,cU];omega)]))
   have I1:BJ (m.set 9 (e7 (A.map T.own))) L aQ sn cm A tx nu rs fn v gv lc c:=I.Y6 (I.R.sub λj hj=>dX _ hj) λj hj=>I.n j (dX _ hj);have R1:RA (k::A) tx nu c (m.set 9 (e7 (A.map T.own))):=I.R.fr (Fr.set (X:=λj=>j=9) rfl) λj hj=>by have:=(I.n j hj).1;constructor<;>(show ¬ _=_;omega)
   obtain⟨m1,e1⟩:∃m1,m1=m.set 9 (e7 (A.map T.own)):=⟨_,rfl⟩;rw[<- e1]at I1 R1;have hpp:aE 2 (nq M.bc (az M.P.tab 34 zA)) ⟨[sv (.own 0),sv (.int (mn:Nat)),u],m⟩=.ok (.nx,⟨[sv (.own 0),sv (.int (mn:Nat)),sv (.own k)],m1⟩):=by
    rw[e1];exact dz (Tw (dI I.b (j:=3) rfl rfl) I.q)
   obtain⟨⟨t2,m2⟩,e2,ht,v2,I2,hg2⟩:=Of n I1 R1 (I.n k (ee ..)) hc hL ho (by omega) (by omega)
   have ht:t2=.non:=ht;subst ht;obtain⟨log,S1,_,_⟩:=I1.H;refine rC (k:=e+A.length+1) c1 (dD (W.of hpp ⟨rfl,dE (mE (k:=1) (dI I1.b (j:=0) rfl rfl) S1.o rfl (aw rfl (aw ((Xu (dI I1.b (j:=3) rfl rfl) rfl (Y7 (dI I1.b (j:=1) rfl rfl)) I1.q).trans (by rw[uZ,<- qr])) rfl)) e2) ⟨rfl,(ih (e:=e) I2 (by omega) (by omega)).mono λq hq=>?_⟩⟩))
   obtain⟨k1,v',k2,k3⟩:=hq;refine⟨k1,v',?_,k3.trans hg2⟩;rw[cU,show A.length+1-mn=(A.length-mn)+1 by omega,List.drop_succ_cons]
   show BJ _ L aQ sn cm _ tx nu rs fn v' (gv++(Oe L aQ (tx k) (nu k) ((A.take sn).map tx)++o_ L aQ sn tx nu (A.length-mn) A)) _ _;rw[<- fK];exact k2.up (by omega) (by omega)
  ·refine AD (s1:=⟨[sv (.own 0),sv (.int (mn:Nat)),u],m⟩) (gE (aB (t:=.int (((k::A).map T.own).length:Nat)) (u:=.int (mn:Nat)) (zo (dI I.b (j:=3) rfl rfl) I.q) rfl (by rw[uH,decide_eq_false (by rw[bK,cU];omega)]))) ⟨rfl,v,?_,rfl⟩
   rw[cU,show A.length+1-mn=0 by omega,Bl,show o_ L aQ sn tx nu 0 (k::A)=[]from rfl,cJ]
   exact I.up (by omega) (by omega)
end
section
variable{m m':FV}{L:List LN}{aQ:List CN}{sn mn lc c KC c' k:Nat}{cm:Int}{A A' rs:B1}{tx:Nat->B1}{nu:Nat->Int}{fn:Bool}{v:WV}{gv:Ap}{u:Option C}
def all_eq(I:BJ m L aQ sn cm A tx nu rs fn v gv lc c)(hc:aQ.length=L.length)(hL:L.length<=30)(ho:∀x∈aQ,x.cv.ok)(hl:lc+140*A.length<700000)(xE:c+400*A.length<700000):W (cN (n+12) 86 [.own 0,.int (mn:Nat)] m) λp=>p.1=.non/\∃v',BJ p.2 L aQ sn cm (A.drop (A.length-mn)) tx nu rs fn v' (gv++o_ L aQ sn tx nu (A.length-mn) A) (lc+140*(A.length-mn)) (c+400*(A.length-mn))/\v'.lg=v.lg:=by
 rw[w86];obtain⟨e,he⟩:∃e,many=e+A.length+1:=⟨many-(A.length+1),by unfold many;omega⟩
 refine dW rfl ?_;unfold iF;rw[he];exact(Og n hc hL ho A I hl xE).mono λq hq=>⟨hq.1,rfl,hq.2⟩
def wJ{α:Type}{A:B1}(hk:k∉A)(f:Nat->α)(y:α):(A++[k]).map (k6 f k y)=A.map f++[y]:=by
 rw[d_]
 congr 1
 ·exact oz λj hj=>if_neg (show ¬ j=k from λz=>hk (z▸hj))
 ·show[k6 f k y k]=[y]
  exact congrArg (λz=>[z]) (if_pos rfl)
theorem zp(n:Nat){y1 y2:Option C}:∀(l:Ap){m:FV}{cm:Int}{A:B1}{tx:Nat->B1}{nu:Nat->Int}{u:Option C},BJ m L aQ sn cm A tx nu rs fn v gv lc c->A.length+l.length<900000->(∀x∈l,x.length<=1000) ->
  W (bo (setG 3) (aJ (au (ak [(25,85)] (cN (n+2))) zA (k1 zD))) (l.map T.str) ⟨[sv (.own 0),y1,y2,u],m⟩) λq=>q.1=.nx/\∃u A' zk zl m',q.2=⟨[sv (.own 0),y1,y2,u],m'⟩/\BJ m' L aQ sn (cm+l.length) (A++A') zk zl rs fn v gv lc c/\(A++A').map zk=A.map tx++l/\(A++A').map zl=A.map nu++(bM l.length).map λ(j:Nat)=>cm+1+j
 |[],m,cm,A,tx,nu,u,I,hl,_=>⟨_,rfl,rfl,u,[],tx,nu,m,rfl,by rw[cJ,show cm+(([]:Ap).length:Int)=cm from xx _];exact I,by rw[cJ,cJ],by rw[cJ];exact(cJ _).symm⟩
 |x::l,m,cm,A,tx,nu,u,I,hl,hx=>by
  rw[cU]at hl;obtain⟨⟨t,m1⟩,e,ht,k,hk,I1,_⟩:=zm n I (by omega) (hx x (ee ..))
  have ht:t=.non:=ht;subst ht;refine iK (r:=[sv (.own 0),y1,y2,sv (.str x)]) rfl (dE (mE (k:=0) rfl I.b rfl rfl e) ⟨rfl,(zp n l (u:=sv (.str x)) I1 (by rw[b9];show A.length+1+_<_;omega) λy hy=>hx y (dX _ hy)).mono λp hp=>⟨hp.1,?_⟩⟩)
  obtain⟨_,u',A',zk,zl,m',q1,q2,q3,q4⟩:=hp;rw[wJ hk]at q3 q4;refine⟨u',k::A',zk,zl,m',q1,?_,?_,?_⟩
  ·rw[fK]at q2
   rw[cU,show cm+((l.length+1:Nat):Int)=cm+1+l.length by omega]
   exact q2
  ·rw[fK,fK]at q3
   exact q3
  ·rw[fK,fK]at q4
   rw[cU,w_,dO,du];refine q4.trans (congrArg (A.map nu++·) ?_)
   show(cm+1)::_=(cm+1+((0:Nat):Int))::_
   congr 1
   ·omega
   ·exact oz λj _=>by show cm+1+1+(j:Int)=cm+1+((j+1:Nat):Int);omega
end
def fx1{a:FE}{s:S}{w kb f j:Nat}{ob:Ob}{c:C}{u:T}(h:a s=.ok (.own w,s))(hm:s.m[w]?=some ob)(hj:iC M.P.tab ob.c f=some j)(hf:ob.fs[j]?=sv (.own kb))(hb:s.m[kb]?=some ⟨M.bc,[c]⟩)(hz:MZ c=some u):As M.bc M.P.tab f a s=.ok (u,⟨s.r,(s.m.set kb ⟨M.bc,[]⟩).set w ⟨ob.c,ob.fs.set j (.val u)⟩⟩):=by
 have e:uq M.bc s.m (.own kb)=some (kb,c):=by
  show(s.m[kb]?).bind _=_;rw[hb];show(if M.bc=M.bc then some (kb,c)else none)=_
  rw[if_pos rfl]
 have e2:f9 M.P.tab f s.m (.own w)=some (w,ob,j,.val (.own kb)):=by
  show(s.m[w]?).bind _=_;rw[hm];show(iC M.P.tab ob.c f).bind _=_;rw[hj];show(ob.fs[j]?).map _=_;rw[hf];rfl
 unfold As;rw[h];refine Eq.trans (bI _ _) ?_;show Res.bind (aX (f9 M.P.tab f s.m (.own w))) _=_;rw[e2];refine Eq.trans (bI _ _) ?_;dsimp only;rw[e];dsimp only;rw[hz];rfl
def Tz:GV [] []:=⟨λ_ he=>(nomatch he),rfl⟩
def EK{log:FK}{rows:Ap}(G:GV log rows)(hl:log.length<=1000000):cN (n+1) 19 [.lst log] m=.ok (.lst (rows.map T.str),m):=by
 rw[ĝ];have e:=yO (src:=j9 zA) (n:=2) (js:=[]) (s:=⟨[sv (.lst log)],m⟩) (ts:=log) (s1:=⟨[sv (.lst log)],m⟩) rfl hl (uY log m G.ok);rw[G.gv]at e;exact eB (s':=⟨[sv (.lst log)],m⟩) rfl (fD (uI e)) rfl
section
variable{m m':FV}{L:List LN}{aQ:List CN}{sn cm:Int}{A A' rs:B1}{tx:Nat->B1}{nu:Nat->Int}{fn:Bool}{v:WV}{gv:Ap}{lc c:Nat}
def KI(I:BJ m L aQ sn cm A tx nu rs fn v gv lc c):W (cN (n+2) 72 [.own 1] m) λp=>p.1=.lst (gv.map T.str)/\∃v',BJ p.2 L aQ sn cm A tx nu rs fn v' [] 0 c:=by
 rw[Ŷ];obtain⟨log,S',G,hl⟩:=I.H;have pY:=S'.pY;have Y8:=I.lg;have h9:9<m.length:=(bD.mp I.q).1;obtain⟨ob,Y9⟩:∃ob:Ob,ob=⟨24,v.ob.fs.set 12 (.val (.lst log))⟩:=⟨_,rfl⟩;obtain⟨m1,h1⟩:∃m1,m1=(m.set v.lg ⟨M.bc,[]⟩).set 1 ob:=⟨_,rfl⟩;have L1:m1.length=m.length:=by rw[h1,e_,e_]
 have e1:As M.bc M.P.tab 29 zA ⟨[sv (.own 1),none],m⟩=.ok (.lst log,⟨[sv (.own 1),none],m1⟩):=by
  rw[h1,Y9];exact fx1 (s:=⟨[sv (.own 1),none],m⟩) (j:=12) rfl S'.o rfl rfl S'.l rfl
 have e2:=EK n (m:=m1) G (by omega)
 have o2:(m1++[e7 []])[1]?=some ob:=by
  refine j0 ?_;rw[h1];exact eu (by rw[e_];omega)
 obtain⟨v',hv⟩:∃v':WV,v'={v with lg:=m1.length}:=⟨_,rfl⟩
 have hp:cY M.P.tab 29 (.val (.own m1.length)) ob=some v'.ob:=by rw[Y9,hv];rfl
 have e3:aH M.P.tab 29 zA (jI M.bc (iG bg)) ⟨[sv (.own 1),sv (.lst (gv.map T.str))],m1⟩=.ok (.nx,⟨[sv (.own 1),sv (.lst (gv.map T.str))],(m1++[e7 []]).set 1 v'.ob⟩):=by
  unfold aH;show Res.bind (aX (((m1++[e7 []])[1]?).bind (cY M.P.tab 29 (.val (.own m1.length))))) _=_;rw[o2];show Res.bind (aX (cY M.P.tab 29 (.val (.own m1.length)) ob)) _=_;rw[hp];rfl
 obtain⟨m3,h3⟩:∃m3,m3=(m1++[e7 []]).set 1 v'.ob:=⟨_,rfl⟩;have L3:m3.length=m.length+1:=by rw[h3,e_,b9,L1];rfl
 have Xv:v'.lg=m1.length:=by rw[hv]
 have F:Fr (λj=>j=1\/j=v.lg) m m3:=⟨by omega,λk hk x=>by
  rw[h3,dB (λ(z:1=k)=>x (.inl z.symm)),gp (by omega),h1,dB (λ(z:1=k)=>x (.inl z.symm)),dB (λ(z:v.lg=k)=>x (.inr z.symm))]⟩
 have hA:∀k∈A,k+1<m.length:=λk hk=>by
  obtain⟨ks,ts,hb,_⟩:=I.R.b k hk;exact(bD.mp hb).1
 rw[<- h3]at e3;refine kH rfl (W8 (s':=⟨[sv (.own 1),none],m1⟩) (gX (ts:=[.lst log]) (s':=⟨[sv (.own 1),none],m1⟩) (aw e1 rfl) e2) (bJ (W.of e3 ⟨rfl,bR (t:=.lst (gv.map T.str)) rfl ⟨rfl,v',?_⟩⟩)));show BJ m3 L aQ sn cm A tx nu rs fn v' [] 0 c;refine⟨⟨[],⟨?_,?_,by omega,by show 0<_;omega⟩,Tz,c_ _⟩,by rw[hv];exact I.ln,by rw[hv];exact I.tl,by rw[hv];exact I.ps,by rw[hv];exact I.hd,by rw[hv];exact I.hr,by rw[hv];exact I.sh,.inr (by omega),F.get I.b (by omega),F.get I.q (by omega),F.get I.t (by omega),F.get I.s (by omega),I.R.fr F λk hk=>?_,λk hk=>?_⟩
 ·rw[h3];exact eu (by rw[b9];omega)
 ·rw[Xv,h3,dB (by omega),nO]
 ·obtain⟨a,b,d⟩:=I.n k hk
  exact⟨by show ¬ (k=1\/k=v.lg);omega,by show ¬ (k+1=1\/k+1=v.lg);omega⟩
 ·have:=hA k hk
  have:=(I.n k hk).1
  omega
end
def bH:B1->B1->Ap×B1
 |l,[]=>([],l)
 |l,c::p=>if c=10 then(l::(bH [] p).1,(bH [] p).2)else bH (l++[c]) p
def rT(l p:B1):bH l (10::p)=(l::(bH [] p).1,(bH [] p).2):=by rw[bH,if_pos rfl]
def rV{c:Nat}(h:c≠10)(l p:B1):bH l (c::p)=bH (l++[c]) p:=by rw[bH,if_neg h]
structure Xw(p l:B1):Prop where
 e:aP 10 (l++p)=(bH l p).1++[(bH l p).2]
 no:10∉(bH l p).2
 l2:(bH l p).1.length+(bH l p).2.length<=l.length+p.length
 l1:(bH l p).1.length<=p.length
 ls:∀x∈(bH l p).1,x.length<=l.length+p.length
theorem iQ:∀(p l:B1),10∉l->Xw p l
 |[],l,h=>⟨by rw[cJ];exact jh h,h,by show 0+l.length<=l.length+0;omega,c_ _,λx hx=>(by cases hx)⟩
 |c::p,l,h=>by
  by_cases e:c=10
  ·subst e
   obtain⟨h1,h2,h3,h4,h5⟩:=iQ p [] (λz=>by cases z)
   rw[jw]at h1;have h3:_<=0+p.length:=h3;refine⟨?_,?_,?_,?_,?_⟩<;>rw[rT]
   ·rw[jm h,h1];rfl
   ·exact h2
   ·simp only[cU];omega
   ·simp only[cU];omega
   ·intro x hx
    rw[cU];rcases cA.mp hx with z|z
    ·rw[z];omega
    ·have h5:_<=0+p.length:=h5 x z
     omega
  ·obtain⟨h1,h2,h3,h4,h5⟩:=iQ p (l++[c]) (λz=>by
    rcases k7.mp z with z|z
    ·exact h z
    ·exact e (kc.mp z).symm)
   rw[b9,zG]at h3 h5;refine⟨?_,?_,?_,?_,?_⟩<;>rw[rV e]
   ·rw[List.append_cons];exact h1
   ·exact h2
   ·rw[cU];omega
   ·rw[cU];omega
   ·intro x hx
    rw[cU]
    have:=h5 x hx
    omega
def KJ{a b:B1}(h:a.length+b.length<=1000000):c6 .Add (.str a) (.str b)=some (.str (a++b)):=gQ h
theorem rW:∀(p l q:B1),bH l (p++q)=((bH l p).1++(bH (bH l p).2 q).1,(bH (bH l p).2 q).2)
 |[],_,_=>rfl
 |c::p,l,q=>by
  by_cases e:c=10
  ·subst e
   rw[vm,rT,rT,rW p [] q];rfl
  ·rw[vm,rV e,rV e,rW p _ q]
def i7(z:B1):Ap:=if z=[]then[]else[z]
def AJ(L:List LN)(aQ:List CN)(sn:Nat)(R:Ap)(i:Nat):Ap:=Oe L aQ (R.getD i []) ((i:Int)+1) ((R.drop (i+1)).take sn)
structure SG(R:Ap)(t:Nat)(A:B1)(tx:Nat->B1)(nu:Nat->Int):Prop where
 x:A.map tx=(R.drop t).take A.length
 i:A.map nu=(gu t A.length).map λ(j:Nat)=>(j:Int)+1
section
variable{R:Ap}{t k w sn:Nat}{A A2:B1}{tx zk:Nat->B1}{nu zl:Nat->Int}{L:List LN}{aQ:List CN}
def SG.tl(S':SG R t (k::A) tx nu):tx k=R.getD t []/\nu k=(t:Int)+1/\SG R (t+1) A tx nu:=by
 have hx:=S'.x;have hi:=S'.i;rw[cU]at hx hi;have jr:t<R.length:=by
  have:=congrArg vh hx
  rw[bK,cU,lT,iR]at this;omega
 rw[qt jr,sy,dO]at hx;rw[BD,dO,dO]at hi;obtain⟨h1,h2⟩:=List.cons.inj hx;obtain⟨h3,h4⟩:=List.cons.inj hi;refine⟨?_,h3,h2,h4⟩;rw[h1,gq,cX jr];rfl
theorem SG.dr:∀(d:Nat){A:B1}{t:Nat},SG R t A tx nu->d<=A.length->SG R (t+d) (A.drop d) tx nu
 |0,_,_,S',_=>S'
 |d+1,[],_,_,h=>absurd h (Jo _)
 |d+1,k::A,t,S',h=>by
  have:=SG.dr d S'.tl.2.2 (Nat.le_of_succ_le_succ h)
  rw[show t+(d+1)=t+1+d by omega];exact this
def SG.app{l q:Ap}(S':SG R t A tx nu)(hw:t+A.length=w)(hR:R.drop w=l++q)(hx:A2.map zk=A.map tx++l)(hn:A2.map zl=A.map nu++(bM l.length).map λ(j:Nat)=>(w:Int)+1+j):SG R t A2 zk zl/\A2.length=A.length+l.length:=by
 have hl:A2.length=A.length+l.length:=by
  have:=congrArg vh hx
  rw[bK,b9,bK]at this;exact this
 refine⟨⟨?_,?_⟩,hl⟩
 ·rw[hx,hl,S'.x,List.take_add,Ja,hw,hR,Jb rfl]
 ·rw[hn,hl,S'.i,<- Jc,d_,hw,List.range'_eq_map_range (s:=w),du]
  refine congrArg (_++·) (oz λj _=>?_)
  show(w:Int)+1+j=((w+j:Nat):Int)+1;omega
theorem nP:∀(d:Nat){A:B1}{t:Nat},SG R t A tx nu->(d<=A.length-sn\/t+A.length=R.length)->d<=A.length->o_ L aQ sn tx nu d A=(gu t d).flatMap (AJ L aQ sn R)
 |0,A,_,_,_,_=>by cases A<;>rfl
 |d+1,[],_,_,_,h=>absurd h (Jo _)
 |d+1,k::A,t,S',h,hd=>by
  obtain⟨h1,h3,S2⟩:=S'.tl;rw[cU]at h hd;have hb:(A.take sn).map tx=(R.drop (t+1)).take sn:=by
   rw[qr,S2.x,Jd];rcases h with h|h
   ·rw[qw (by omega)]
   ·by_cases z:sn<=A.length
    ·rw[qw z]
    ·rw[Jp (by omega),Bm (by rw[iR];omega),Bm (by rw[iR];omega)]
  show Oe L aQ (tx k) (nu k) ((A.take sn).map tx)++o_ L aQ sn tx nu d A=_;rw[nP d S2 (by omega) (by omega),hb,h1,h3,BD,IX]
  rfl
end
def BK(m:FV)(L:List LN)(aQ:List CN)(sn:Nat)(R:Ap)(w:Nat)(rs:B1)(fn:Bool):Prop:=∃A tx nu v,BJ m L aQ sn w A tx nu rs fn v [] 10 (400*(w-sn))/\SG R (w-sn) A tx nu/\A.length=w-(w-sn)
section
variable{m:FV}{L:List LN}{aQ:List CN}{sn w lc c:Nat}{cm:Int}{A rs x:B1}{tx:Nat->B1}{nu:Nat->Int}{fn:Bool}{v:WV}{gv R q:Ap}
def qg(I:BJ m L aQ sn cm A tx nu rs false v gv lc c):cN (n+1) 84 [.own 0] m=.ok (.non,m):=by
 rw[w84];exact wu (s':=⟨[sv (.own 0)],m⟩) rfl (o8 (Ku (dI I.b (j:=5) rfl rfl)) rfl) rfl
def Ib(hc:aQ.length=L.length)(hL:L.length<=30)(ho:∀x∈aQ,x.cv.ok)(I:BK m L aQ sn R w rs false)(Oh:10∉rs)(hr:rs.length+x.length<=500)(hs:sn<=3)(hw:w<=300)(hR:R.drop w=(bH rs x).1++q):W (cN (n+13) 82 [.own 0,.str x] m) λp=>p.1=.lst (((gu (w-sn) (w+(bH rs x).1.length-sn-(w-sn))).flatMap (AJ L aQ sn R)).map T.str)/\BK p.2 L aQ sn R (w+(bH rs x).1.length) (bH rs x).2 false:=by
 obtain⟨A,tx,nu,v,I,G,hA⟩:=I;obtain⟨k1,k2,k3,k4,k5⟩:=iQ x rs Oh;obtain⟨rws,hrw⟩:∃rws,rws=(bH rs x).1:=⟨_,rfl⟩;obtain⟨lf,hlf⟩:∃lf,lf=(bH rs x).2:=⟨_,rfl⟩;rw[<- hrw]at k1 k3 k4 k5 hR ⊢;rw[<- hlf]at k1 k2 k3 ⊢;rw[w82];obtain⟨ps,rR⟩:∃ps:T,ps=.lst ((rws++[lf]).map T.str):=⟨_,rfl⟩;have e1:splitM (rs++x) [.str [10]]=some ps:=by
  show gd _ _=_;rw[gQ (by rw[b9];omega),k1,rR]
 have e2:gi ps (.int (-1))=some (.str lf):=by
  rw[rR];show atT _ (-1)=_;rw[d_];exact rF _ _
 have e3:EZ none (some (-1)) ps=some (.lst (rws.map T.str)):=by
  rw[rR];show some (T.lst (bu _ none (some (-1))))=_;rw[d_];exact congrArg (λz=>some (T.lst z)) (nJ _ _)
 refine kH rfl (bJ (dE (mE (k:=0) (t:=.non) rfl I.b rfl rfl (qg (n+11) I)) ⟨rfl,bS (t:=ps) (Kv (l:=rs++x) (ts:=[.str [10]]) (aB (t:=.str rs) (u:=.str x) (dI I.b (j:=4) rfl rfl) rfl (KJ (by omega))) rfl e1) ?_⟩))
 have I1:BJ (m.set 0 (kZ sn w lf false)) L aQ sn w A tx nu lf false v [] 10 (400*(w-sn)):=I.Xs;refine bJ (W.of (KD (r:=[sv (.str x),sv ps,none]) (c':=w) (rs':=lf) (E5:=false) (t:=.str lf) I.b (aB (t:=ps) (u:=.int (-1)) rfl rfl e2) rfl) ⟨rfl,?_⟩);obtain⟨m1,TH⟩:∃m1,m1=m.set 0 (kZ sn w lf false):=⟨_,rfl⟩;rw[<- TH]at I1;show WB _ ⟨[sv (.own 0),sv (.str x),sv ps,none],m.set 0 (kZ sn w lf false)⟩ _;rw[<- TH];refine bJ (eg (W.of (A5 (t:=.lst (rws.map T.str)) (NR (t:=ps) (x:=none) (y:=some (-1)) rfl rfl rfl e3) rfl) ((zp (n+10) rws I1 (by omega) λy hy=>by have:=k5 y hy;omega).mono λq hq=>?_)))
 obtain⟨h1,u,A',zk,zl,m2,h2,I2,hx,hn⟩:=hq;refine⟨h1,?_⟩;rw[h2];obtain⟨G2,lw⟩:=G.app (w:=w) (by omega) hR hx hn
 generalize A++A'=A2 at I2 G2 lw
 obtain⟨⟨t3,m3⟩,e4,ht3,v3,I3,g3⟩:=all_eq n (mn:=sn) I2 hc hL ho (by omega) (by omega)
 refine bJ (dE (mE (k:=0) (t:=t3) rfl I2.b rfl (aw (dI I2.b (j:=1) rfl rfl) rfl) e4) ⟨rfl,?_⟩);obtain⟨log,S3,_,_⟩:=I3.H;obtain⟨⟨t5,m5⟩,e5,h5,v5,I5⟩:=KI (n+10) I3;have h5:t5=_:=h5;rw[jw,nP _ G2 (by omega) (by omega)]at h5
 refine vf (mE (k:=1) (dI I3.b (j:=0) rfl rfl) S3.o rfl rfl e5) ⟨h5.trans ?_,_,_,_,v5,I5.up (jz _) (by omega),?_,?_⟩
 ·rw[show A2.length-sn=w+rws.length-sn-(w-sn) by omega]
 ·have:=G2.dr (A2.length-sn) (by omega)
  rw[show w-sn+(A2.length-sn)=w+rws.length-sn by omega]at this
  exact this
 ·rw[iR];omega
abbrev TJ:T:=.tup [.str [101,110,100]]
def Ic{b:Nat}{log:FK}(S':WS m b v log)(hv:v.lines=L.map LN.val)(hh:v.hand=.non)(hl:log.length+2<900000):W (cN (n+2) 73 [.own b] m) (WR b v v (log++[.tup [.str [110,111,110,101],.int (v.tk+1)]]++[TJ]) m):=by
 rw[Ÿ];refine dW rfl (dD (jZ (r:=[none]) S' rfl (HZ n S' (by omega)) λ_ m1 h=>⟨rfl,?_⟩))
 refine dD (c8 (s':=⟨sv (.own b)::[none],m1⟩) (gE (aB (t:=.non) (u:=.non) (by rw[<- hh];exact w_fld h.2.1 (j:=7) rfl rfl) rfl rfl)) ⟨_,rfl,rfl,?_⟩)
 refine HW (r:=[none]) (t:=TJ) h.2.1 (by simp;omega) (dm (aw (t:=.str [101,110,100]) rfl rfl) rfl) λm2 S2 F2=>eg (W.of (A5 (t:=.lst (L.map LN.val)) (by rw[<- hv];exact w_fld S2 (j:=0) rfl rfl) rfl) ?_)
 refine(Hz (I:=λs=>∃u,s=⟨sv (.own b)::[u],m2⟩) (λt ht s hI=>?_) ⟨none,rfl⟩).mono λp hp=>?_
 ·obtain⟨u,rfl⟩:=hI
  obtain⟨k,_,rfl⟩:=ez.mp ht;exact⟨_,rfl,c8 (s':=⟨sv (.own b)::[sv k.val],m2⟩) (jl (t:=k.cond) rfl (EC k)) ⟨_,rfl,rfl,_,rfl⟩⟩
 ·obtain⟨h1,u,h2⟩:=hp
  rw[h2];exact⟨h1,rfl,S2,h.2.2.trans F2⟩
def AK(hc:aQ.length=L.length)(hL:L.length<=30)(ho:∀x∈aQ,x.cv.ok)(I:BK m L aQ sn R w rs false)(hr:rs.length<=500)(hs:sn<=3)(hw:w<=300)(hR:R.drop w=i7 rs)(hwR:w<=R.length):W (cN (n+13) 83 [.own 0] m) λp=>p.1=.lst (((gu (w-sn) (R.length-(w-sn))).flatMap (AJ L aQ sn R)).map T.str):=by
 obtain⟨A,tx,nu,v,I,G,hA⟩:=I;rw[w83];have I1:BJ (m.set 0 (kZ sn w rs true)) L aQ sn w A tx nu rs true v [] 10 (400*(w-sn)):=I.Xs;refine kH rfl (bJ (dE (mE (k:=0) (t:=.non) rfl I.b rfl rfl (qg (n+11) I)) ⟨rfl,bJ (W.of (KD (r:=[]) (c':=w) (rs':=rs) (E5:=true) (t:=.bl true) I.b rfl rfl) ⟨rfl,?_⟩)⟩));obtain⟨m1,TH⟩:∃m1,m1=m.set 0 (kZ sn w rs true):=⟨_,rfl⟩;rw[<- TH]at I1;show WB _ ⟨[sv (.own 0)],m.set 0 (kZ sn w rs true)⟩ _;rw[<- TH];have lR:=congrArg vh hR;rw[iR]at lR;have step:W (aY (bW (bw (aL .NotEq) (az M.P.tab 35 zA) (cS []))) (aJ (au (ak [(25,85)] (cN (n+12))) zA (k1 (az M.P.tab 35 zA)))) aG ⟨[sv (.own 0)],m1⟩) λp=>p.1=.nx/\∃m2 cm A2 tx nu,p.2=⟨[sv (.own 0)],m2⟩/\BJ m2 L aQ sn cm A2 tx nu rs true v [] 10 (400*(w-sn))/\SG R (w-sn) A2 tx nu/\A2.length=A.length+(i7 rs).length:=by
  have c1:bW (bw (aL .NotEq) (az M.P.tab 35 zA) (cS [])) ⟨[sv (.own 0)],m1⟩=.ok (!decide (rs=[]),⟨[sv (.own 0)],m1⟩):=gE (aB (t:=.str rs) (u:=.str []) (dI I1.b (j:=4) rfl rfl) rfl rfl);unfold i7 at hR ⊢;by_cases hr:rs=[]
  ·rw[decide_eq_true hr]at c1
   rw[if_pos hr];exact c8 c1 ⟨_,rfl,rfl,m1,w,A,tx,nu,rfl,I1,G,rfl⟩
  ·rw[decide_eq_false hr]at c1
   rw[if_neg hr]at hR ⊢;obtain⟨⟨t,m2⟩,e,_,k,hk,I2,_⟩:=zm (n+10) (x:=rs) I1 (by omega) (by omega)
   obtain⟨G2,lw⟩:=G.app (l:=[rs]) (q:=[]) (w:=w) (by omega) hR (wJ hk tx rs) ((wJ hk nu ((w:Int)+1)).trans (congrArg (A.map nu++·) (by show[(w:Int)+1]=[(w:Int)+1+((0:Nat):Int)];rw[Int.natCast_zero,xx])))
   exact iI c1 (dE (mE (k:=0) rfl I1.b rfl (aw (dI I1.b (j:=4) rfl rfl) rfl) e) ⟨rfl,m2,_,_,_,_,rfl,I2,G2,lw⟩)
 refine bJ (step.mono λp hp=>?_);obtain⟨h1,m2,cm,A2,tx2,nu2,h2,I2,G2,lw⟩:=hp;refine⟨h1,?_⟩;rw[h2];have lt1:(i7 rs).length<=1:=by
  unfold i7;split<;>simp
 obtain⟨⟨t3,m3⟩,e4,ht3,v3,I3,g3⟩:=all_eq n (mn:=0) I2 hc hL ho (by omega) (by omega)
 refine bJ (dE (mE (k:=0) (t:=t3) rfl I2.b rfl rfl e4) ⟨rfl,?_⟩);obtain⟨log,S3,G3,L3⟩:=I3.H;obtain⟨⟨t4,m4⟩,e5,_,S4,F4⟩:=Ic (n+10) S3 I3.ln I3.hd (by omega)
 have Y5:=I3.lg;have no:∀j,j=0\/j=2\/j=5\/j=9->¬ WX 1 v3 j:=λj hj z=>by
  rcases z with z|z<;>omega
 have e9:A2.drop (A2.length-0)=[]:=by rw[Jm];exact Bv
 rw[e9]at I3;have I4:BJ m4 L aQ sn cm [] tx2 nu2 rs true v3 _ (10+140*(A2.length-0)+2) _:=⟨⟨_,S4,EB (by decide) (EB (by decide) G3),by simp;omega⟩,I3.ln,I3.tl,I3.ps,I3.hd,I3.hr,I3.sh,I3.lg,F4.get I3.b (no _ (by omega)),F4.get I3.q (no _ (by omega)),F4.get I3.t (no _ (by omega)),F4.get I3.s (no _ (by omega)),I3.R.fr F4 (λk hk=>nomatch hk),λk hk=>nomatch hk⟩
 refine bJ (dE (mE (k:=1) (t:=t4) (dI I3.b (j:=0) rfl rfl) S3.o rfl rfl e5) ⟨rfl,?_⟩);obtain⟨⟨t5,m5⟩,e6,h5,_⟩:=KI (n+10) I4;have h5:t5=_:=h5;rw[jw,nP _ G2 (by omega) (by omega)]at h5
 obtain⟨aab,S4',_,_⟩:=I4.H;refine vf (mE (k:=1) (dI I4.b (j:=0) rfl rfl) S4'.o rfl rfl e6) (h5.trans ?_);rw[show A2.length-0=R.length-(w-sn) by omega]
end
def Xx{o:FE}{s:S}{kb:Nat}(ho:o s=.ok (.own kb,s))(hm:s.m[kb]?=some aO):DA M.bc o s=.ok (.nx,s):=by
 unfold DA;rw[ho];refine Eq.trans (bI _ _) ?_;dsimp only;rw[yQ hm];rfl
section
variable{m:FV}{L:List LN}{aQ:List CN}{sn w b:Nat}{rs:B1}{fn:Bool}{v:WV}{log:FK}{R:Ap}
def wK(S':WS m b v log)(h:m[v.sh]?=some aO):cN (n+1) 80 [.own b] m=.ok (.int 0,m):=by
 rw[w80];exact eB (s':=⟨[sv (.own b),sv (.int 0),none],m⟩) rfl (seq1 (s':=⟨[sv (.own b),sv (.int 0),none],m⟩) rfl (seq1 (s':=⟨[sv (.own b),sv (.int 0),none],m⟩) (Xx (w_fld S' (j:=9) rfl rfl) h) rfl)) rfl
def Ie(I:BK m L aQ sn R w rs fn):cN (n+2) 87 [.own 0] m=.ok (.int ((w-(w-sn):Nat):Int),m):=by
 rw[w87];obtain⟨A,tx,nu,v,I,G,hA⟩:=I;obtain⟨log,S',_,_⟩:=I.H;exact eB (s':=⟨[sv (.own 0)],m⟩) rfl (fD (aB (t:=.int (w-(w-sn):Nat)) (u:=.int 0) (aB (t:=.int (A.map T.own).length) (u:=.int 0) (zo (dI I.b (j:=3) rfl rfl) I.q) (jX (k:=1) (dI I.b (j:=0) rfl rfl) S'.o rfl (by rw[<- I.hr];rfl)) (by rw[bK,hA];exact congrArg (λz=>some (T.int z)) (xx _))) (mE (k:=1) (dI I.b (j:=0) rfl rfl) S'.o rfl rfl (wK n S' (by rw[I.sh];exact I.s))) (congrArg (λz=>some (T.int z)) (xx _)))) rfl
end
abbrev oi(L:List LN):T:=.obj 0 [.lst (aU L)]
def PC.sn:PC->Int
 |.last=>1
 |.soon _ v _ _=>v
 |.rp _=>0
def CD.sn:CD->Int
 |.no x=>x.sn
 |.pc x=>x.sn
def LN.sn:LN->Int
 |.full c _=>c.sn
def zq(l:Dx):Int:=l.foldl max 0
theorem rX:∀(l:Dx)(a:Int),mx a l=l.foldl max a
 |[],_=>rfl
 |b::l,a=>by
  rw[mx,rX l,ou]
  congr 1
  split<;>omega
section
variable{m:FV}{L:List LN}
def zr(x:PC)(h:noOwn x.val=true):cN (n+1) 22 [x.val] m=.ok (.int x.sn,m):=by
 rw[YN];refine sEq ?_ rfl rfl ?_
 ·show(noOwn x.val&&true)=true
  rw[h];rfl
 ·cases x with
  |last=>exact bN rfl (bY rfl (bR rfl rfl))
  |soon d v w t=>exact bN rfl (bN rfl (bY rfl (bR rfl rfl)))
  |rp x=>cases x<;>exact bN rfl (bN rfl (bN rfl (bR rfl rfl)))
def Ig(x:LN)(h:noOwn x.cond=true):cN (n+2) 22 [x.cond] m=.ok (.int x.sn,m):=by
 obtain⟨c,d⟩:=x;cases c with
 |pc x=>exact zr (n+1) x h
 |no x=>
  have h1:noOwn x.val=true:=by
   have h:(noOwn x.val&&true)=true:=h;rw[BS]at h;exact h
  rw[YN];refine sEq ?_ rfl rfl (bY rfl (bR (cE (ts:=[x.val]) rfl (zr n x h1)) rfl));show(noOwn (LN.full (.no x) d).cond&&true)=true;rw[h];rfl
def EL{x:LN}(h:Lk x):noOwn x.cond=true:=by
 have h:(noOwn x.cond&&(noOwn x.lC&&true))=true:=h.no;rw[dq]at h;exact h.1
theorem zt:∀L:List LN,uw (L.map λx=>T.int x.sn)=some (L.map LN.sn)
 |[]=>rfl
 |x::L=>by
  show(uw (L.map λx=>T.int x.sn)).map _=_;rw[zt L];rfl
def u3(hv:∀x∈L,Lk x)(hl:L.length<=30)(h0:∀x∈L,0<=x.sn):cN (n+3) 21 [oi L] m=.ok (.int (zq (L.map LN.sn)),m):=by
 rw[ġ];have go:∀(L:List LN),(∀x∈L,Lk x)->cP (setG 1) fQ (av (cN (n+2) 22) [] (k1 (az M.P.tab 1 zB))) [none,none] (aU L) []=.ok (L.map λ(x:LN)=>T.int x.sn,[]):=by
  intro L
  induction L with
  |nil=>intro _;rfl
  |cons x L ih=>
   intro hv;have ih:=ih λy hy=>hv y (dX _ hy);have e:av (cN (n+2) 22) [] (k1 (az M.P.tab 1 zB)) ⟨[none,sv x.val],[]⟩=.ok (.int x.sn,⟨[none,sv x.val],[]⟩):=cE (ts:=[x.cond]) rfl (Ig n x (EL (hv x (ee ..))));show cP _ _ _ _ (x.val::aU L) []=_;rw[cP];refine Eq.trans (bI _ _) ?_;refine Eq.trans (bI _ _) ?_;dsimp only;rw[if_pos rfl];refine Eq.trans (congrArg (λz=>Res.bind z _) e) ?_;refine Eq.trans (bI _ _) ?_;dsimp only;rw[ih];rfl
 have e:=NS (c:=fQ) (src:=j9 (az M.P.tab 0 zA)) (n:=2) (js:=[]) (g:=setG 1) (e:=av (cN (n+2) 22) [] (k1 (az M.P.tab 1 zB))) (s:=⟨[sv (oi L)],[]⟩) (ts:=aU L) (us:=L.map λ(x:LN)=>T.int x.sn) rfl (by rw[bK];omega) rfl (go L hv)
 refine sEq ?_ rfl rfl (bR (t:=.int (zq (L.map LN.sn))) ?_ rfl)
 ·show((aI (aU L)&&true)&&true)=true
  rw[dF L hv];rfl
 ·unfold G6
  refine Eq.trans (congrArg (λz=>Res.bind z _) e) ?_;refine Eq.trans (bI _ _) ?_;dsimp only;rw[zt];cases L with
  |nil=>rfl
  |cons x L=>
   have:=h0 x (ee ..)
   show Res.ok (T.int (mx x.sn (L.map LN.sn)),_)=Res.ok (T.int ((L.map LN.sn).foldl max (max 0 x.sn)),_);rw[rX,Int.max_eq_right this];rfl
def Ih(hv:∀x∈L,Lk x):cN (n+1) 20 [.lst (aU L)] m=.ok (.hU [] [],m):=by
 rw[ğ];refine W.eq (yN ?_ (kH rfl (bJ (W.of (a:=(Out.nx,(⟨[sv (.lst (aU L)),some (.od [] []),none,none],[]⟩:S))) rfl ⟨rfl,bJ (eg (W.of (a:=(fR 1 (aU L),(⟨[sv (.lst (aU L)),some (.od [] []),none,none],[]⟩:S))) rfl ((Ep λx u=>c8 (jl (t:=x.lC) rfl (Eo x)) ⟨_,rfl,rfl,rfl⟩).mono λp hp=>⟨hp.1,?_⟩)))⟩))))
 ·show(aI (aU L)&&true)=true
  rw[dF L hv];rfl
 ·obtain⟨_,u,v,e⟩:=hp
  rw[e];exact vf (t:=.hU [] []) (s':=⟨[sv (.lst (aU L)),sv (.hU [] []),u,v],[]⟩) rfl ⟨rfl,rfl⟩
end
section
variable{m Z Z':FV}{r:Fs}{j k f:Nat}{t:T}{ob m_ x:Ob}{a:FE}{L:List LN}{aQ:List CN}
def gA:(m++Z)[m.length+j]?=Z[j]?:=by rw[eT (vn ..),xn]
def sA:(m++Z).set (m.length+j) x=m++Z.set j x:=by rw[I_ _ _ (vn ..),xn]
def TL(ha:a ⟨sv (.own (m.length+j))::r,m++Z⟩=.ok (t,⟨sv (.own (m.length+j))::r,m++Z'⟩))(hz:Z'[j]?=some ob)(hp:cY M.P.tab f (.val t) ob=some m_):aH M.P.tab f zA a ⟨sv (.own (m.length+j))::r,m++Z⟩=.ok (.nx,⟨sv (.own (m.length+j))::r,m++Z'.set j m_⟩):=by
 unfold aH;rw[ha];refine Eq.trans (bI _ _) ?_;show Res.bind (aX (((m++Z')[m.length+j]?).bind _)) _=_;rw[gA,hz];show Res.bind (aX (cY M.P.tab f (.val t) ob)) _=_;rw[hp];show Res.ok (Out.nx,(⟨_,(m++Z').set (m.length+j) m_⟩:S))=_;rw[sA]
def Ii:lA M.bc ⟨r,m++Z⟩=.ok (.own (m.length+Z.length),⟨r,m++(Z++[aO])⟩):=by
 unfold lA;rw[b9,<- fK];rfl
def Xy:jI M.bc (iG bg) ⟨r,m++Z⟩=.ok (.own (m.length+Z.length),⟨r,m++(Z++[e7 []])⟩):=by
 show Res.ok (T.own (m++Z).length,(⟨r,(m++Z)++[e7 []]⟩:S))=_;rw[b9,fK]
def TM{c:Nat}{g:Fn}{fl:FL}{ts:FK}{m':FV}(h:fl ⟨r,m++Z⟩=.ok (ts,⟨r,m++Z⟩))(k:g (.own (m.length+Z.length)::ts) (m++(Z++[⟨c,[]⟩]))=.ok (.non,m')):mK c g fl ⟨r,m++Z⟩=.ok (.own (m.length+Z.length),⟨r,m'⟩):=by
 rw[<- b9]at k ⊢;rw[<- fK]at k;exact HC (s':=⟨r,m++Z⟩) h k
def u4{a b:Ob}(hl:L.length<=30)(hc:L.map LN.cond=aQ.map CN.val):cN (n+1) 63 [.own (m.length+2),.lst (aU L)] (m++[a,b,⟨23,[]⟩])=.ok (.non,m++[a,b,kL aQ (m.length+3),aO]):=by
 rw[ŧ];have hc:(aU L).map (λt=>match t with|.obj _ (c::_)=>c|t=>t)=aQ.map CN.val:=by
  rw[<- hc,du];rfl
 have e:=NS (c:=fQ) (src:=j9 zB) (n:=2) (js:=[]) (g:=setG 1) (e:=az M.P.tab 1 zB) (s:=⟨sv (.own (m.length+2))::[sv (.lst (aU L))],m++[a,b,⟨23,[]⟩]⟩) (ts:=aU L) (us:=aQ.map CN.val) rfl (by rw[bK];omega) rfl (by
  rw[<- hc];refine cH λt ht=>?_;obtain⟨k,_,rfl⟩:=ez.mp ht;exact⟨[none,sv k.val],[none,sv k.val],rfl,rfl⟩)
 exact wu (s':=⟨sv (.own (m.length+2))::[sv (.lst (aU L))],m++[a,b,kL aQ (m.length+3),aO]⟩) rfl (seq1 (TL (j:=2) (Z':=[a,b,⟨23,[]⟩]) e rfl rfl) (TL (j:=2) (Z:=[a,b,⟨23,[.val (.lst (aQ.map CN.val))]⟩]) (Z':=[a,b,⟨23,[.val (.lst (aQ.map CN.val))]⟩,aO]) (t:=.own (m.length+3)) Ii rfl rfl)) rfl
def wL(B:Nat)(L:List LN):WV:=⟨aU L,.hU [] [],B+2,.lst [],0,B+4,0,.non,0,B+5,B+6,B+7,B+8,false⟩
abbrev wO(B:Nat)(L:List LN)(k:Nat):Ob:=⟨24,(wL B L).ob.fs.take k⟩
def zu{e:FE}{F:FS}{Q:Res (Out×S)}(ha:e ⟨sv (.own (m.length+1))::r,m++ob::wO m.length L k::Z⟩=.ok (t,⟨sv (.own (m.length+1))::r,m++ob::wO m.length L k::Z'⟩))(hp:cY M.P.tab f (.val t) (wO m.length L k)=some (wO m.length L (k+1)))(h:F ⟨sv (.own (m.length+1))::r,m++ob::wO m.length L (k+1)::Z'⟩=Q):af (aH M.P.tab f zA e) F ⟨sv (.own (m.length+1))::r,m++ob::wO m.length L k::Z⟩=Q:=seq1 (TL (j:=1) ha rfl hp) h
def Oi{w:Nat}{v:WV}{log:FK}(S':WS m w v log)(hl:log.length+1<900000):cN (n+1) 67 [.own w] m=.ok (.non,(m.set v.lg (e7 (log++[eS v.tk]))).set w {v with wt:=true}.ob):=by
 rw[YQ];have S1:=S'.app (t:=eS v.tk) (by simpa using hl)
 refine wu (s':=⟨sv (.own w)::[],(m.set v.lg (e7 (log++[eS v.tk]))).set w {v with wt:=true}.ob⟩) rfl (seq1 (uX S' (t:=eS v.tk) (r:=[]) ?_) (EA S1 (t:=.bl true) (v':={v with wt:=true}) rfl rfl)) rfl
 exact dm (aw (t:=.str [119,97,110,116]) rfl (aw (aB (w_fld S' (j:=6) (t:=.int v.tk) rfl rfl) rfl rfl) rfl)) rfl
def u5(hv:∀x∈L,Lk x)(hl:L.length<=30)(hc:L.map LN.cond=aQ.map CN.val):cN (n+2) 66 [.own (m.length+1),oi L] (m++[ob,⟨24,[]⟩])=.ok (.non,m++[ob,{wL m.length L with wt:=true}.ob,kL aQ (m.length+3),aO,aO,aO,aO,e7 [],e7 [eS 0]]):=by
 rw[Ŭ];refine wu (s':=⟨sv (.own (m.length+1))::[sv (oi L)],m++[ob,{wL m.length L with wt:=true}.ob,kL aQ (m.length+3),aO,aO,aO,aO,e7 [],e7 [eS 0]]⟩) rfl ?_ rfl
 show af _ _ ⟨sv (.own (m.length+1))::[sv (oi L)],m++ob::wO m.length L 0::[]⟩=_;refine zu (t:=.lst (aU L)) (Z':=[]) rfl rfl (zu (t:=.hU [] []) (Z':=[]) (cE (ts:=[.lst (aU L)]) (aw (jX (k:=m.length+1) (ob:=wO m.length L 1) (j:=0) rfl (gA (j:=1)) rfl rfl) rfl) (Ih n hv)) rfl ?_);refine zu (t:=.own (m.length+2)) (Z':=[kL aQ (m.length+3),aO]) (TM (ts:=[.lst (aU L)]) (aw (jX (k:=m.length+1) (ob:=wO m.length L 2) (j:=0) rfl (gA (j:=1)) rfl rfl) rfl) (u4 n hl hc)) rfl ?_;refine zu (t:=.lst []) (Z':=[kL aQ (m.length+3),aO]) rfl rfl (zu (t:=.int 0) (Z':=[kL aQ (m.length+3),aO]) rfl rfl ?_);refine zu (t:=.own (m.length+4)) (Z':=[kL aQ (m.length+3),aO,aO]) Ii rfl ?_;refine zu (t:=.int 0) (Z':=[kL aQ (m.length+3),aO,aO]) rfl rfl (zu (t:=.non) (Z':=[kL aQ (m.length+3),aO,aO]) rfl rfl (zu (t:=.int 0) (Z':=[kL aQ (m.length+3),aO,aO]) rfl rfl ?_));refine zu (t:=.own (m.length+5)) (Z':=[kL aQ (m.length+3),aO,aO,aO]) Ii rfl ?_;refine zu (t:=.own (m.length+6)) (Z':=[kL aQ (m.length+3),aO,aO,aO,aO]) Ii rfl ?_;refine zu (t:=.own (m.length+7)) (Z':=[kL aQ (m.length+3),aO,aO,aO,aO,e7 []]) Xy rfl ?_;refine zu (t:=.own (m.length+8)) (Z':=[kL aQ (m.length+3),aO,aO,aO,aO,e7 [],e7 []]) Xy rfl ?_;refine zu (t:=.bl false) (Z':=[kL aQ (m.length+3),aO,aO,aO,aO,e7 [],e7 []]) rfl rfl ?_;have S0:WS (m++[ob,(wL m.length L).ob,kL aQ (m.length+3),aO,aO,aO,aO,e7 [],e7 []]) (m.length+1) (wL m.length L) []:=⟨gA (j:=1),gA (j:=8),by show m.length+8≠m.length+1;omega,by decide⟩
 have e:=Oi n S0 (by decide)
 have e1:(m++[ob,(wL m.length L).ob,kL aQ (m.length+3),aO,aO,aO,aO,e7 [],e7 []]).set (wL m.length L).lg (e7 ([]++[eS (wL m.length L).tk]))=m++[ob,(wL m.length L).ob,kL aQ (m.length+3),aO,aO,aO,aO,e7 [],e7 [eS 0]]:=sA (j:=8);rw[e1,sA (j:=1)]at e;show aJ _ ⟨sv (.own (m.length+1))::[sv (oi L)],m++[ob,(wL m.length L).ob,kL aQ (m.length+3),aO,aO,aO,aO,e7 [],e7 []]⟩=_;unfold aJ;rw[mE (k:=m.length+1) (ob:=(wL m.length L).ob) rfl (gA (j:=1)) rfl rfl e];rfl
abbrev bO(sn:Int)(k:Nat):Ob:=⟨25,(kZ sn 0 [] false).fs.take k⟩
def TN{sn:Int}{e:FE}{F:FS}{Q:Res (Out×S)}(ha:e ⟨sv (.own 0)::r,bO sn k::Z⟩=.ok (t,⟨sv (.own 0)::r,bO sn k::Z'⟩))(hp:cY M.P.tab f (.val t) (bO sn k)=some (bO sn (k+1)))(h:F ⟨sv (.own 0)::r,bO sn (k+1)::Z'⟩=Q):af (aH M.P.tab f zA e) F ⟨sv (.own 0)::r,bO sn k::Z⟩=Q:=seq1 (TL (m:=[]) (j:=0) ha rfl hp) h
abbrev AL(sn:Int)(L:List LN)(aQ:List CN):FV:=[kZ sn 0 [] false,{wL 0 L with wt:=true}.ob,kL aQ 3,aO,aO,aO,aO,e7 [],e7 [eS 0],e7 []]
def EM{sn:Int}(hv:∀x∈L,Lk x)(hl:L.length<=30)(hc:L.map LN.cond=aQ.map CN.val)(h0:∀x∈L,0<=x.sn)(hs:zq (L.map LN.sn)=sn):cN (n+4) 81 [.own 0,oi L] [⟨25,[]⟩]=.ok (.non,AL sn L aQ):=by
 rw[w81];obtain⟨Z,hZ⟩:∃Z:FV,Z=[{wL 0 L with wt:=true}.ob,kL aQ 3,aO,aO,aO,aO,e7 [],e7 [eS 0]]:=⟨_,rfl⟩
 have Wn:Z.length=8:=by rw[hZ];rfl
 have ew:=u5 (n+1) hv hl hc (m:=[]) (ob:=bO sn 0);refine wu (s':=⟨sv (.own 0)::[sv (oi L)],AL sn L aQ⟩) rfl ?_ rfl;show af _ _ ⟨sv (.own 0)::[sv (oi L)],bO sn 0::[]⟩=_;refine TN (t:=.own 1) (Z':=Z) ((TM (m:=[]) (Z:=[bO sn 0]) (ts:=[oi L]) rfl ew).trans (by rw[hZ];rfl)) rfl ?_
 refine TN (t:=.int sn) (Z':=Z) (cE (ts:=[oi L]) rfl (by rw[<- hs];exact u3 n hv hl h0)) rfl (TN (t:=.int 0) (Z':=Z) rfl rfl ?_)
 have ln:jI M.bc (iG bg) ⟨sv (.own 0)::[sv (oi L)],bO sn 3::Z⟩=.ok (.own 9,⟨sv (.own 0)::[sv (oi L)],bO sn 3::(Z++[e7 []])⟩):=by
  have:=Xy (m:=[]) (Z:=bO sn 3::Z) (r:=sv (.own 0)::[sv (oi L)])
  rw[cU,Wn]at this;exact this
 refine TN (t:=.own 9) (Z':=Z++[e7 []]) ln rfl (TN (t:=.str []) (Z':=Z++[e7 []]) rfl rfl ?_);refine(TL (m:=[]) (j:=0) (t:=.bl false) (m_:=kZ sn 0 [] false) (Z':=bO sn 5::(Z++[e7 []])) rfl rfl rfl).trans ?_;rw[hZ];rfl
def q_{sn:Nat}(L:List LN)(aQ:List CN)(R:Ap):BK (AL sn L aQ) L aQ sn R 0 [] false:=by
 have S':WS (AL sn L aQ) 1 {wL 0 L with wt:=true} [eS 0]:=⟨rfl,rfl,by show(8:Nat)≠1;decide,by decide⟩
 have e:0-sn=0:=Jq _;refine⟨[],λ_=>[],λ_=>0,{wL 0 L with wt:=true},⟨⟨_,S',EB (ys:=[.int 1]) (by decide) Tz,by decide⟩,rfl,rfl,rfl,rfl,rfl,rfl,.inl rfl,rfl,rfl,rfl,rfl,⟨λ_ h=>(nomatch h),λ_ h=>(nomatch h),λ_ h=>(nomatch h),λ_ h=>(nomatch h)⟩,λ_ h=>(nomatch h)⟩,⟨?_,rfl⟩,?_⟩
 ·rfl
 ·rw[e];rfl
end
def mod_eq{i j:Int}(h:0<j):c6 .Mod (.int i) (.int j)=some (.int (i % j)):=gQ h
def div_eq{i j:Int}(h:0<j/\j<1073741824):c6 .FloorDiv (.int i) (.int j)=some (.int (i/j)):=gQ h
def AM{i j:Int}(h:(-(2^64)<i/\i<2^64)\/(-(2^64)<j/\j<2^64)):c6 .Mult (.int i) (.int j)=some (.int (i*j)):=gQ (.inl h)
def cellAt(ns:Dx)(k:Nat):Int:=ns.getD k 0
def Ij{ns:Dx}{k:Nat}:cN (n+1) 38 [.scr ns,.int k] m=.ok (.int (cellAt ns k),m):=by
 rw[Ń];refine sEq rfl rfl rfl ?_;by_cases h:k<ns.length
 ·refine bY (gE (pE (t:=.int k) (u:=.int ns.length) rfl rfl (by rw[iY,decide_eq_true (by omega)]))) (bR (pE (t:=.scr ns) (u:=.int k) rfl rfl ?_) rfl)
  show(atT ns (k:Int)).map T.int=_;rw[iJ h];unfold cellAt;rw[gq,cX h];rfl
 ·refine bN (gE (pE (t:=.int k) (u:=.int ns.length) rfl rfl (by rw[iY,decide_eq_false (by omega)]))) (bR rfl ?_)
  unfold cellAt;rw[gq,By (by omega)];rfl
def md{s:S}{i j:Int}{a:FE}(h:a s=.ok (.int i,s))(h2:0<j):oM a (cI j) s=.ok (.int (i % j),s):=aB h rfl (mod_eq h2)
def fd{s:S}{i j:Int}{a:FE}(h:a s=.ok (.int i,s))(h2:0<j/\j<1073741824):oD a (cI j) s=.ok (.int (i/j),s):=aB h rfl (div_eq h2)
def AN{s:S}{x y:B1}{a b:FE}(h:a s=.ok (.str x,s))(h2:b s=.ok (.str y,s))(hl:x.length+y.length<=1000000):oA a b s=.ok (.str (x++y),s):=aB h h2 (gQ hl)
def Oj{l:B1}{i:Int}(h1:0<=i)(h2:i<l.length):∃c∈l,gi (.str l) (.int i)=some (.str [c]):=by
 have je:i.toNat<l.length:=by omega
 refine⟨l[i.toNat],IV je,?_⟩;show(atT l i).map _=_;unfold atT;rw[if_pos h1,if_pos h2,cX je];rfl
def UY:B1:=Su
def TQ:UY.all kY=true:=by decide +kernel
def wM(i:Int)(m:FV):∃c,kY c=true/\cN (n+1) 40 [.int i] m=.ok (.str [c],m):=by
 have h:0<=i % 85/\i % 85<85:=⟨BX _ (by decide),BY _ (by decide)⟩
 obtain⟨c,hc,e⟩:=Oj (l:=UY) h.1 h.2;refine⟨c,g_.mp TQ c hc,?_⟩;rw[Ň];exact sEq rfl rfl rfl (bS (t:=.str UY) rfl (bR (pE (t:=.str UY) (u:=.int (i % 85)) rfl (aB (t:=.int i) (u:=.int 85) rfl rfl (mod_eq (by decide))) e) rfl))
def Ol(L:Nat)(h:L<=1000):mL [.int L]=some ((gu 0 L).map λq=>T.int (q:Nat)):=by
 have:mL [.int L]=some (lE 0 ((L:Int)).toNat):=gQ ⟨by omega,by omega⟩
 rw[this,zK];unfold lE;rw[List.range_eq_range'];exact congrArg some (oz λq _=>by rw[xw])
theorem zw(n:Nat){i:Int}:∀(l:B1)(x:B1)(a2 a3:Option C),(∀q∈l,q<10)->(∀c∈x,kY c=true)->x.length+l.length<=10 ->
  W (bo (setG 2) (Sy (cN (n+1))) (l.map λq=>T.int (q:Nat)) ⟨[sv (.int i),sv (.str x),a2,a3],[]⟩) λp=>p.1=.nx/\∃z a2 a3,p.2=⟨[sv (.int i),sv (.str z),a2,a3],[]⟩/\(∀c∈z,kY c=true)/\z.length=x.length+l.length
 |[],x,a2,a3,_,hx,_=>⟨_,rfl,rfl,x,a2,a3,rfl,hx,rfl⟩
 |q::l,x,a2,a3,hq,hx,hl=>by
  rw[cU]at hl;have h:=hq q (ee ..);obtain⟨j,hj⟩:∃j:Int,j=i/(3+7*(q:Nat)) % 10:=⟨_,rfl⟩;have bj:0<=j/\j<10:=by rw[hj];exact⟨BX _ (by decide),BY _ (by decide)⟩
  have e3:oM (oD zA (oA (cI 3) (bw (c6 .Mult) (cI 7) zC))) (cI 10) ⟨[sv (.int i),sv (.str x),sv (.int (q:Nat)),a3],[]⟩=.ok (.int j,⟨[sv (.int i),sv (.str x),sv (.int (q:Nat)),a3],[]⟩):=by
   rw[hj];exact md (aB (t:=.int i) (u:=.int (3+7*(q:Nat))) rfl (aB (u:=.int (7*(q:Nat))) rfl (aB rfl rfl (AM (.inl ⟨by decide,by decide⟩))) rfl) (div_eq ⟨by omega,by omega⟩)) (by decide)
  have next:∀c,kY c=true->W (bo (setG 2) _ (l.map λq=>T.int (q:Nat)) ⟨[sv (.int i),sv (.str (x++[c])),sv (.int (q:Nat)),sv (.int j)],[]⟩) λp=>p.1=.nx/\∃z a2 a3,p.2=⟨[sv (.int i),sv (.str z),a2,a3],[]⟩/\(∀c∈z,kY c=true)/\z.length=x.length+(l.length+1):=λc hc=>(zw n l (x++[c]) _ _ (λq Cn=>hq q (dX _ Cn)) (λd hd=>(k7.mp hd).elim (hx d) λz=>by rw[kc.mp z];exact hc) (by rw[b9];show _+1+_<=_;omega)).mono λp hp=>by
   obtain⟨h1,z,a,b,h2,h3,h4⟩:=hp;refine⟨h1,z,a,b,h2,h3,?_⟩;simp only[b9,cU,jy]at h4;omega
  refine iK (r:=[sv (.int i),sv (.str x),sv (.int (q:Nat)),a3]) rfl (wS (t:=.int j) e3 ?_);by_cases h8:j<8
  ·obtain⟨c,hc,ec⟩:=Oj (l:=[97,97,97,97,97,98,98,98]) bj.1 h8
   have pc:kY c=true:=by
    have:([97,97,97,97,97,98,98,98]:B1).all kY=true:=by decide +kernel
    exact g_.mp this c hc
   exact iI (gE (aB rfl rfl (by rw[iY,decide_eq_true h8]))) (W.of (dz (aB (t:=.str x) (u:=.str [c]) rfl (aB rfl rfl ec) (gQ (by show _+1<=_;omega)))) ⟨rfl,next c pc⟩)
  ·obtain⟨c,pc,ec⟩:=wM n (i/5) []
   exact c8 (gE (aB rfl rfl (by rw[iY,decide_eq_false h8]))) (W.of (dz (aB (t:=.str x) (u:=.str [c]) rfl (cE (ts:=[.int (i/5)]) (aw (fd rfl (by decide)) rfl) ec) (gQ (by show _+1<=_;omega)))) ⟨rfl,next c pc⟩)
def AO(i:Int)(m:FV):∃w,((∀c∈w,kY c=true)/\w≠[]/\w.length<=3)/\cN (n+2) 41 [.int i] m=.ok (.str w,m):=by
 obtain⟨k,hk,k1,k3⟩:∃k:Nat,1+i % 3=(k:Int)/\1<=k/\k<=3:=⟨(1+i % 3).toNat,by omega,by omega,by omega⟩
 obtain⟨⟨o,s⟩,e,h1,z,a2,a3,h2,h3,h4⟩:=zw n (i:=i) (gu 0 k) [] none none (λq hq=>by have:=xl.mp hq;obtain⟨j,hj,rfl⟩:=this;omega) (λc hc=>nomatch hc) (by rw[qu];show 0+k<=_;omega)
 rw[qu]at h4;have h4:z.length=0+k:=h4;cases h1;have h2:s=_:=h2;subst h2;refine⟨z,⟨h3,λhz=>?_,by omega⟩,?_⟩
 ·rw[hz]at h4
  have h4:0=0+k:=h4;omega
 rw[Ŋ];refine sEq rfl rfl rfl (bS (t:=.str []) rfl (bJ (eg (W.of (a:=((gu 0 k).map λq=>T.int (q:Nat),(⟨[sv (.int i),sv (.str []),none,none],[]⟩:S))) ?_ ⟨_,e,rfl,bR rfl rfl⟩))));exact HD (ts:=[.int (k:Nat)]) (aw (by rw[<- hk];exact aB rfl (md rfl (by decide)) rfl) rfl) (Ol k (by omega))
def nQ(w:B1):B1:=dQ [] (aP 34 w)
theorem nR(c:Nat):∀w:B1,(aP c w).flatten=w.filter λd=>!decide (d=c)
 |[]=>rfl
 |d::w=>by
  have ih:=nR c w;rw[aP];by_cases h:d=c
  ·rw[if_pos h,jv,jw,ih,List.filter_cons_of_neg (by rw[decide_eq_true h];decide)]
  ·rw[if_neg h,List.filter_cons_of_pos (by rw[decide_eq_false h];decide),<- ih]
   cases aP c w<;>rfl
def nS(w:B1):nQ w=w.filter λd=>!decide (d=34):=(join_nil _).trans (nR 34 w)
def j4(w:B1):(nQ w).length<=w.length:=by rw[nS];exact List.length_filter_le ..
def qh{w:B1}(h:w.length<=1000):cN (n+1) 43 [.str w] m=.ok (.str (nQ w),m):=by
 rw[Ŏ];refine qc (m':=[]) rfl ?_ rfl;show Res.bind (aX (gd ((nQ w).length<=1000000) ())) _=_;rw[gQ (by have:=j4 w;omega)]
 rfl
structure LD where
 kd:Int
 de:Int
 w:B1
 v:Int
 u:Int
structure LD.ok(x:LD):Prop where
 k:0<=x.kd/\x.kd<8
 d:0<=x.de/\x.de<4
 w:∀c∈x.w,kY c=true
 n:x.w≠[]/\x.w.length<=3
 v:1<=x.v/\x.v<=3
 u:1<=x.u/\x.u<=20
noncomputable def LD.val(x:LD):T:=.tup [.int x.kd,.int x.de,.str x.w,.int x.v,.int x.u]
abbrev Om(w:B1):T:=c9 false (iZ w) false
def LD.pc(x:LD):PC:=if x.kd<2 then .last else if x.kd<4 then .soon (ic x.v) x.v x.w (Om x.w)else if x.kd<6 then .rp (.row (ic x.u) x.u)else .rp (.like x.w (Om x.w))
def LD.cv(x:LD):CV:=if x.kd<2 then .la else if x.kd<4 then .so x.v.toNat false (iZ x.w) false else if x.kd<6 then .rw x.u else .li false (iZ x.w) false
def LD.dd(x:LD):DD:=if x.de=0 then .drop else if x.de=1 then .done else if x.de=2 then .print else .say (nQ x.w)
def LD.cd(x:LD):CD:=if x.kd % 2=1 then .no x.pc else .pc x.pc
def LD.ln(x:LD):LN:=.full x.cd x.dd
def LD.cn(x:LD):CN:=⟨decide (x.kd % 2=1),x.cv⟩
def Y_(k:Nat):Bool:=(ic (k+1:Nat)).all (λc=>decide (c∈AF))&&decide (ic (k+1:Nat)≠[])&&!pre [48] (ic (k+1:Nat))&&decide ((ic (k+1:Nat)).length<=3)&&decide (PySem.intText? ⟨(ic (k+1:Nat)).toArray⟩=some ((k+1:Nat):Int))&&decide (((k+1:Nat):Int).natAbs.log2<1920)
def Ik:(bM 20).all Y_=true:=by decide +kernel
def OX{v:Int}(h:1<=v/\v<=20):Nm (ic v) v/\strN [.int v]=some (.str (ic v)):=by
 obtain⟨k,rfl,hk⟩:∃k:Nat,v=((k+1:Nat):Int)/\k<20:=⟨(v-1).toNat,by omega,by omega⟩
 have:=g_.mp Ik k (ig.mpr hk)
 unfold Y_ at this;simp only[dq,decide_eq_true_iff,g_,Js]at this;obtain⟨⟨⟨⟨⟨h1,h2⟩,h3⟩,h4⟩,h5⟩,h6⟩:=this;refine⟨⟨h1,h2,h3,h4,?_⟩,gQ ⟨h6,by omega⟩⟩
 show(PySem.intText? ⟨(ic (k+1:Nat)).toArray⟩).bind _=_;rw[h5];exact gQ (by omega)
section
variable{x:LD}{m:FV}
def Xz{w:B1}(h:∀c∈w,kY c=true)(hl:w.length<=3):(∀i∈iZ w,i.ok)/\Pt w (Om w):=by
 have hi:∀i∈iZ w,i.ok:=λi hi=>by
  obtain⟨c,hc,rfl⟩:=ez.mp hi;exact⟨h c hc,rfl⟩
 have:=SW (f:=false) (b:=false) hi (by rw[bK];omega)
 rw[lM]at this;have e:fT false++(w++bT false)=w:=cJ w;rw[e]at this;exact⟨hi,this⟩
theorem LD.ok.pc(o:x.ok):x.pc.ok:=by
 unfold LD.pc;split
 ·trivial
 ·split
  ·exact⟨(OX ⟨o.v.1,by have:=o.v.2;omega⟩).1,o.v.1,o.v.2,(Xz o.w o.n.2).2⟩
  ·split
   ·exact⟨(OX o.u).1,o.u.1,by have:=o.u.2;omega⟩
   ·exact(Xz o.w o.n.2).2
theorem LD.ok.dd(o:x.ok):x.dd.ok/\noOwn x.dd.val=true:=by
 unfold LD.dd;split
 ·exact⟨trivial,rfl⟩
 ·split
  ·exact⟨trivial,rfl⟩
  ·split
   ·exact⟨trivial,rfl⟩
   ·refine⟨⟨λc hc=>?_,?_⟩,rfl⟩
    ·rw[nS]at hc
     obtain⟨h1,h2⟩:=wX.mp hc;refine⟨(gR (o.w c h1)).1,λz=>?_⟩;rw[decide_eq_true z]at h2;cases h2
    ·have:=j4 x.w
     have:=o.n.2
     omega
def LD.lL(o:x.ok):x.ln.cond=x.cn.val:=by
 have e:x.pc.val=x.cv.val:=by
  unfold LD.pc LD.cv;split
  ·rfl
  ·split
   ·show T.obj 6 [.int x.v,_]=T.obj 6 [.int (x.v.toNat:Nat),_]
    rw[Int.toNat_of_nonneg (by have:=o.v.1;omega)]
   ·split<;>rfl
 show x.cd.val=x.cn.val;unfold LD.cd LD.cn CN.val;by_cases h:x.kd % 2=1
 ·rw[if_pos h,if_pos (decide_eq_true h),<- e];rfl
 ·rw[if_neg h,if_neg (by rw[decide_eq_false h];exact dP),<- e];rfl
theorem LD.ok.cv(o:x.ok):x.cn.cv.ok:=by
 show x.cv.ok;have h:=(Xz o.w o.n.2).1;have hl:(iZ x.w).length<=8:=by rw[bK];have:=o.n.2;omega
 unfold LD.cv;split
 ·trivial
 ·split
  ·exact⟨h,hl,by have:=o.v.2;omega⟩
  ·split
   ·trivial
   ·exact⟨h,hl⟩
def EN(c:CV):noOwn c.val=true:=by
 cases c with
 |rw i=>rfl
 |la=>rfl
 |li f its b=>show(noOwn (c9 f its b)&&true)=true;rw[fH];rfl
 |so j f its b=>show(true&&(noOwn (c9 f its b)&&true))=true;rw[fH];rfl
def Oo(x:CN):noOwn x.val=true:=by
 unfold CN.val;split
 ·show(noOwn x.cv.val&&true)=true
  rw[EN];rfl
 ·exact EN _
def LD.ok.lk(o:x.ok):Lk x.ln:=Kw ⟨by
 unfold LD.cd;split<;>exact o.pc,o.dd.1⟩ (by rw[LD.lL o];exact Oo _) o.dd.2
def LD.EO:x.ln.sn=if x.kd<2 then 1 else if x.kd<4 then x.v else 0:=by
 show x.cd.sn=_;have e:x.cd.sn=x.pc.sn:=by unfold LD.cd;split<;>rfl
 rw[e];unfold LD.pc;split
 ·rfl
 ·split
  ·rfl
  ·split<;>rfl
end
def PC.app(x:PC)(b:B1):x.txt b=x.txt []++b:=by
 cases x with
 |last=>rfl
 |soon d v w t=>simp[PC.txt]
 |rp x=>cases x<;>simp[PC.txt,RP.txt]
section
variable{x:LD}{m:FV}
def AQ(cell:Int)(m:FV):∃x:LD,x.ok/\cN (n+3) 42 [.int cell] m=.ok (x.val,m):=by
 obtain⟨a,ha⟩:∃a:Int,a=cell*48271 % 1000003:=⟨_,rfl⟩;have ba:0<=a/\a<1000003:=by rw[ha];exact⟨BX _ (by decide),BY _ (by decide)⟩
 obtain⟨w,⟨h1,h2,h3⟩,ew⟩:=AO n (a*a % 999983) [];obtain⟨b,hb⟩:∃b:Int,b=(a+7)*(a+7) % 1000033:=⟨_,rfl⟩;refine⟨⟨cell % 8,cell/8 % 4,w,1+b % 3,1+b/3 % 20⟩,⟨by dsimp only;omega,by dsimp only;omega,h1,⟨h2,h3⟩,by dsimp only;omega,by dsimp only;omega⟩,?_⟩
 rw[Ō];have sq:∀i:Int,0<=i->i<2000000->c6 .Mult (.int i) (.int i)=some (.int (i*i)):=λi h0 h1=>AM (.inl ⟨by omega,by omega⟩)
 refine sEq rfl rfl rfl (bS (t:=.int a) (by rw[ha];exact md (aB rfl rfl (AM (.inr ⟨by decide,by decide⟩))) (by decide)) (bS (t:=.str w) (cE (ts:=[.int (a*a % 999983)]) (aw (md (aB rfl rfl (sq a ba.1 (by omega))) (by decide)) rfl) ew) (bS (t:=.int b) (by rw[hb];exact md (aB (t:=.int (a+7)) (u:=.int (a+7)) rfl rfl (sq (a+7) (by omega) (by omega))) (by decide)) (bR (dm (ts:=[.int (cell % 8),.int (cell/8 % 4),.str w,.int (1+b % 3),.int (1+b/3 % 20)]) (aw (md rfl (by decide)) (aw (md (fd rfl (by decide)) (by decide)) (aw rfl (aw (aB rfl (md rfl (by decide)) rfl) (aw (aB rfl (md (fd rfl (by decide)) (by decide)) rfl) rfl))))) (gQ (by show 5<=1000;decide))) rfl))))
def Za{a b c d t:T}{i:Int}(h:(i=0/\t=a)\/(i=1/\t=b)\/(i=2/\t=c)\/(i=3/\t=d)):gi (.lst [a,b,c,d]) (.int i)=some t:=by
 rcases h with⟨rfl,rfl⟩|⟨rfl,rfl⟩|⟨rfl,rfl⟩|⟨rfl,rfl⟩<;>rfl
def rY(o:x.ok):cN (n+2) 44 [x.val] m=.ok (.str (x.ln.txt++[10]),m):=by
 rw[Ő];obtain⟨nv,sv'⟩:=OX (v:=x.v) ⟨o.v.1,by have:=o.v.2;omega⟩
 obtain⟨nu,su⟩:=OX o.u;have lv:=nv.hl;have lu:=nu.hl;have lw:=o.n.2;have ls:=j4 x.w;have ok:=o.k;have od:=o.d;obtain⟨r,hr⟩:∃r:Fs,r=[sv (.int x.kd),sv (.int x.de),sv (.str x.w),sv (.int x.v),sv (.int x.u)]:=⟨_,rfl⟩;have hc:gi (.lst [.str [108,97,115,116],.str ([115,111,111,110,32]++ic x.v++[32,47]++x.w++[47]),.str ([114,111,119,32]++ic x.u),.str ([47]++x.w++[47])]) (.int (x.kd/2))=some (.str (x.pc.txt [])):=by
  refine Za ?_;unfold LD.pc;by_cases h1:x.kd<2
  ·exact .inl ⟨by omega,by rw[if_pos h1];rfl⟩
  ·by_cases h2:x.kd<4
   ·exact .inr (.inl ⟨by omega,by rw[if_neg h1,if_pos h2];simp[PC.txt]⟩)
   ·by_cases h3:x.kd<6
    ·exact .inr (.inr (.inl ⟨by omega,by rw[if_neg h1,if_neg h2,if_pos h3];simp[PC.txt,RP.txt]⟩))
    ·exact .inr (.inr (.inr ⟨by omega,by rw[if_neg h1,if_neg h2,if_neg h3];simp[PC.txt,RP.txt]⟩))
 have hd:gi (.lst [.str [100,114,111,112],.str [100,111,110,101],.str [112,114,105,110,116],.str ([115,97,121,32,34]++nQ x.w++[34])]) (.int x.de)=some (.str x.dd.txt):=by
  refine Za ?_;unfold LD.dd;by_cases h1:x.de=0
  ·exact .inl ⟨h1,by rw[if_pos h1];rfl⟩
  ·by_cases h2:x.de=1
   ·exact .inr (.inl ⟨h2,by rw[if_neg h1,if_pos h2];rfl⟩)
   ·by_cases h3:x.de=2
    ·exact .inr (.inr (.inl ⟨h3,by rw[if_neg h1,if_neg h2,if_pos h3];rfl⟩))
    ·exact .inr (.inr (.inr ⟨by omega,by rw[if_neg h1,if_neg h2,if_neg h3];simp[DD.txt]⟩))
 have lp:(x.pc.txt []).length<=20:=by
  unfold LD.pc;split
  ·show 4<=20;decide
  ·split
   ·simp only[PC.txt,cU,b9,jy];omega
   ·split<;>simp only[PC.txt,RP.txt,cU,b9,jy]<;>omega
 have ld:x.dd.txt.length<=20:=by
  unfold LD.dd;split
  ·show 4<=20;decide
  ·split
   ·show 4<=20;decide
   ·split
    ·show 5<=20;decide
    ·simp only[DD.txt,cU,b9,jy];omega
 obtain⟨ng,hn,ln,et⟩:∃ng:B1,gi (.lst [.str [],.str [110,111,116,32]]) (.int (x.kd % 2))=some (.str ng)/\ng.length<=4/\ng++x.pc.txt []++[58,32]++x.dd.txt++[10]=x.ln.txt++[10]:=by
  show ∃ng:B1,_/\_/\_=x.cd.txt (58::32::x.dd.txt)++[10];unfold LD.cd;by_cases h:x.kd % 2=1
  ·refine⟨[110,111,116,32],by rw[h];rfl,c_ _,?_⟩
   rw[if_pos h];show _=110::111::116::32::x.pc.txt _++[10];rw[PC.app x.pc (58::32::x.dd.txt)];simp
  ·refine⟨[],by rw[show x.kd % 2=0 by omega];rfl,by decide,?_⟩
   rw[if_neg h];show _=x.pc.txt _++[10];rw[PC.app x.pc (58::32::x.dd.txt)];simp
 refine sEq rfl rfl rfl (bJ (W.of (a:=(Out.nx,(⟨[sv x.val,none,none]++r,[]⟩:S))) (by rw[hr];rfl) ⟨rfl,?_⟩))
 rw[hr];refine bS (t:=.str (x.pc.txt [])) (aB (u:=.int (x.kd/2)) (dm (ts:=[.str [108,97,115,116],.str ([115,111,111,110,32]++ic x.v++[32,47]++x.w++[47]),.str ([114,111,119,32]++ic x.u),.str ([47]++x.w++[47])]) (aw rfl (aw (AN (AN (AN (AN rfl (dm (ts:=[.int x.v]) rfl sv') (by show 5+_<=_;omega)) rfl (by rw[b9];show 5+_+2<=_;omega)) rfl (by simp only[b9,cU,jy];omega)) rfl (by simp only[b9,cU,jy];omega)) (aw (AN rfl (dm (ts:=[.int x.u]) rfl su) (by show 4+_<=_;omega)) (aw (AN (AN rfl rfl (by show 1+_<=_;omega)) rfl (by rw[b9];show 1+_+1<=_;omega)) rfl)))) (gQ (by show 4<=1000;decide))) (fd rfl (by decide)) hc) ?_
 refine bS (t:=.str x.dd.txt) (aB (u:=.int x.de) (dm (ts:=[.str [100,114,111,112],.str [100,111,110,101],.str [112,114,105,110,116],.str ([115,97,121,32,34]++nQ x.w++[34])]) (aw rfl (aw rfl (aw rfl (aw (AN (AN rfl (cE (ts:=[.str x.w]) rfl (qh n (by omega))) (by show 5+_<=_;omega)) rfl (by rw[b9];show 5+_+1<=_;omega)) rfl)))) (gQ (by show 4<=1000;decide))) rfl hd) ?_
 refine bR (AN (y:=[10]) (AN (y:=x.dd.txt) (AN (y:=[58,32]) (AN (x:=ng) (y:=x.pc.txt []) (aB (t:=.lst [.str [],.str [110,111,116,32]]) (u:=.int (x.kd % 2)) rfl (md rfl (by decide)) hn) rfl (by omega)) rfl (by rw[b9];show _+2<=_;omega)) rfl (by simp only[b9,cU,jy];omega)) rfl (by simp only[b9,cU,jy];omega)) (congrArg T.str et)
end
def jW{α:Type}(l:List α)(i j:Nat):bu l (some ((i:Nat):Int)) (some ((j:Nat):Int))=(l.drop i).take (j-i):=by
 unfold bu;rw[fF,fF];by_cases h:i<=l.length
 ·rw[qw h,IZ,iR]
  omega
 ·rw[show min i l.length=l.length by omega,xm (c_ _),xm (by omega),Je,Je]
def u6{α:Type}(l:List α)(i:Nat):bu l (some ((i:Nat):Int)) none=l.drop i:=by
 unfold bu;rw[fF];show(l.drop (min i l.length)).take (l.length-min i l.length)=_;rw[Bm (by rw[iR];omega)]
 by_cases h:i<=l.length
 ·rw[qw h]
 ·rw[Jp (by omega),xm (c_ _),xm (by omega)]
def Zb(w:B1):T->T
 |.str l=>.bl (Gg w l)
 |_=>.non
def XA{R:Ap}{a:Nat}(h:a<R.length):gi (.lst (R.map T.str)) (.int (a:Nat))=some (.str (R.getD a [])):=by
 show atT (R.map T.str) ((a:Nat):Int)=_;rw[iJ (by rw[bK];exact h),fJ,gq,cX h];rfl
section
variable{x:LD}{m:FV}{R:Ap}{a sn:Nat}
def wN(o:x.ok)(ha:a<R.length)(hs:x.ln.sn<=(sn:Nat)):cN (n+1) 45 [x.val,.lst (R.map T.str),.int (a:Nat)] m=.ok (.bl (x.cn.lO (R.getD a []) ((a:Int)+1) ((R.drop (a+1)).take sn)),m):=by
 rw[Œ];rw[LD.EO]at hs;have h0:=o.n.1;obtain⟨b,hb⟩:∃b,b=x.cv.lO (R.getD a []) ((a:Int)+1) ((R.drop (a+1)).take sn):=⟨_,rfl⟩;obtain⟨sl,jt⟩:∃sl:Option C->S,sl=λz=>⟨[sv x.val,sv (.lst (R.map T.str)),sv (.int (a:Nat)),z,sv (.int x.kd),sv (.int x.de),sv (.str x.w),sv (.int x.v),sv (.int x.u)],[]⟩:=⟨_,rfl⟩;have key:W (aY (bW (bw (aL .Lt) (vF 4) (cI 2)))
  (aE 3 (oE (oA zC zI) (bV cz (k1 zB))))
  (aY (bW (bw (aL .Lt) (vF 4) (cI 4)))
  (aE 3 (bV oU (k1 (eK (cT (j9 (j8 zB (gW (oA zC zI)) (gW (oA (oA zC zI) (vF 7))))) 2 [6] (setG 1) fQ (bw (aL .In) zC zB))))))
  (aY (bW (bw (aL .Lt) (vF 4) (cI 6)))
  (aE 3 (oE (oA zC zI) (vF 8)))
  (aE 3 (bw (aL .In) (vF 6) (oI zB zC)))))
  (sl (sv (.bl false)))) λp=>p.1=.nx/\p.2=sl (sv (.bl b)):=by
  have fin:∀{e:FE},e (sl (sv (.bl false)))=.ok (.bl b,sl (sv (.bl false)))->W (aE 3 e (sl (sv (.bl false)))) λp=>p.1=.nx/\p.2=sl (sv (.bl b)):=λh=>W.of (dz h) ⟨rfl,by rw[jt];rfl⟩
  have c:∀j:Int,bW (bw (aL .Lt) (vF 4) (cI j)) (sl (sv (.bl false)))=.ok (decide (x.kd<j),sl (sv (.bl false))):=λj=>gE (aB (t:=.int x.kd) (by rw[jt];rfl) rfl (iY _ _))
  unfold LD.cv at hb;by_cases h1:x.kd<2
  ·rw[if_pos h1]at hb hs
   refine iI ((c 2).trans (by rw[decide_eq_true h1])) (fin (aB (t:=.int ((a:Nat)+1)) (u:=.int (R.map T.str).length) (by rw[jt];rfl) (by rw[jt];rfl) ?_))
   rw[rG,hb];show _=some (T.bl (decide (((R.drop (a+1)).take sn).length=0)));rw[bK,lT,iR];refine congrArg (λz=>some (T.bl z)) (decide_eq_decide.mpr ⟨λh=>?_,λh=>?_⟩)<;>omega
  ·rw[if_neg h1]at hb hs
   refine c8 ((c 2).trans (by rw[decide_eq_false h1])) ?_
   by_cases h2:x.kd<4
   ·rw[if_pos h2]at hb hs
    have hv:=o.v;obtain⟨v,Vp⟩:∃v:Nat,x.v=(v:Nat):=⟨x.v.toNat,by omega⟩
    have e1:j8 zB (gW (oA zC zI)) (gW (oA (oA zC zI) (vF 7))) (sl (sv (.bl false)))=.ok (.lst (((R.drop (a+1)).take v).map T.str),sl (sv (.bl false))):=by
     refine NR (t:=.lst (R.map T.str)) (x:=some ((a+1:Nat):Int)) (y:=some ((a+1+v:Nat):Int)) (by rw[jt];rfl) (by rw[jt];rfl) (by rw[jt,Vp];rfl) ?_
     show some (T.lst (bu _ _ _))=_;rw[jW,xn,qr,zJ]
    refine iI ((c 4).trans (by rw[decide_eq_true h2])) (fin (dm (ts:=[.lst ((((R.drop (a+1)).take v).map T.str).map (Zb x.w))]) (aw (NS (A5 e1 rfl) (by rw[bK,lT];omega) (by rw[jt];rfl) ?_) rfl) ?_))
    ·rw[jt]
     refine cH λt ht=>?_;obtain⟨l,_,rfl⟩:=ez.mp ht;exact⟨[none,sv (.str l),sv (.str x.w)],[none,sv (.str l),sv (.str x.w)],rfl,aB (t:=.str x.w) (u:=.str l) rfl rfl rfl⟩
    ·have e:(((R.drop (a+1)).take v).map T.str).map (Zb x.w)=((R.drop (a+1)).take v).map λl=>T.bl (Gg x.w l):=by rw[du];rfl
     rw[e];simp only[oU,CK,kI];rw[Jx,xf,hb];show _=some (T.bl ((((R.drop (a+1)).take sn).take x.v.toNat).any λr=>rN r false (iZ x.w) false));rw[Jd,qw (by omega),show x.v.toNat=v by omega]
     exact congrArg (λf=>some (T.bl (List.any _ f))) (funext λl=>Tf l x.w h0)
   ·rw[if_neg h2]at hb
    refine c8 ((c 4).trans (by rw[decide_eq_false h2])) ?_
    by_cases h3:x.kd<6
    ·rw[if_pos h3]at hb
     refine iI ((c 6).trans (by rw[decide_eq_true h3])) (fin (aB (t:=.int ((a:Nat)+1)) (u:=.int x.u) (by rw[jt];rfl) (by rw[jt];rfl) ?_))
     rw[rG,hb];exact congrArg (λz=>some (T.bl z)) (decide_eq_decide.mpr ⟨Eq.symm,Eq.symm⟩)
    ·rw[if_neg h3]at hb
     have e9:oI zB zC (sl (sv (.bl false)))=.ok (.str (R.getD a []),sl (sv (.bl false))):=by
      rw[jt];exact aB (t:=.lst (R.map T.str)) (u:=.int (a:Nat)) rfl rfl (XA ha)
     refine c8 ((c 6).trans (by rw[decide_eq_false h3])) (fin (aB (t:=.str x.w) (u:=.str (R.getD a [])) (by rw[jt];rfl) e9 ?_))
     show some (T.bl (Gg x.w (R.getD a [])))=_;rw[Tf _ _ h0,hb];rfl
 refine sEq ?_ rfl rfl (bJ (W.of (a:=(Out.nx,sl none)) (by rw[jt];rfl) ⟨rfl,bS (t:=.bl false) rfl ?_⟩))
 ·show(true&&(aI (R.map T.str)&&true))=true
  rw[bC];rfl
 rw[jt]at key;rw[jt];refine bJ (key.mono λp hp=>⟨hp.1,?_⟩);rw[hp.2];refine bR (t:=.bl (!(b == decide (x.kd % 2=1)))) (aB (t:=.bl b) (u:=.bl (decide (x.kd % 2=1))) rfl (aB (t:=.int (x.kd % 2)) (u:=.int 1) (md rfl (by decide)) rfl (rG _ _)) ?_) ?_
 ·cases b<;>cases decide (x.kd % 2=1)<;>rfl
 ·show T.bl _=T.bl (decide (x.kd % 2=1) != x.cv.lO _ _ _)
  rw[<- hb];cases b<;>cases decide (x.kd % 2=1)<;>rfl
end
def Oq{gg:FG}{B:FS}{t:T}{ts:FK}{s:S}{r:Fs}{QS:Out×S->Prop}(h:gg t s.r=some r)(k:W (B ⟨r,s.m⟩) λp=>(∃u,p.1=.rt u/\QS (.rt u,p.2))\/(p.1=.nx/\W (bo gg B ts p.2) QS)):W (bo gg B (t::ts) s) QS:=by
 obtain⟨⟨o,s1⟩,e,h2⟩:=k;rw[bo,h];show W (Res.bind (B ⟨r,s.m⟩) _) QS;rw[e];rcases h2 with⟨u,h1,q⟩|⟨h1,q⟩
 ·cases h1
  exact⟨_,rfl,q⟩
 ·cases h1
  exact q
def KL{a b:FK}(h:a.length+b.length<=1000000):c6 .Add (.lst a) (.lst b)=some (.lst (a++b)):=gQ h
theorem rZ:∀xs:List LD,aI (xs.map LD.val)=true
 |[]=>rfl
 |x::xs=>by
  show(true&&aI (xs.map LD.val))=true;rw[rZ xs];rfl
section
variable{x:LD}{m:FV}{R:Ap}{a sn:Nat}{X:B1}
def LD.tr(R:Ap)(a sn:Nat)(x:LD):LN×Bool:=(x.ln,x.cn.lO (R.getD a []) ((a:Int)+1) ((R.drop (a+1)).take sn))
theorem qi(n:Nat){L0:T}(ha:a<R.length):∀(xs:List LD)(bx:Ap)(z:Option C),(∀x∈xs,x.ok/\x.ln.sn<=(sn:Nat))->bx.length+xs.length<=1000 ->
  W (bo (setG 4) (Sz (cN (n+1))) (xs.map LD.val) ⟨[sv L0,sv (.lst (R.map T.str)),sv (.int (a:Nat)),some (.ol (bx.map T.str)),z],[]⟩) λp=>(∃s,p=(.rt (.lst ((bx++dG (R.getD a []) (xs.map (LD.tr R a sn))).map T.str)),s))\/∃acc' z,p=(.nx,⟨[sv L0,sv (.lst (R.map T.str)),sv (.int (a:Nat)),some (.ol (acc'.map T.str)),z],[]⟩)/\acc'++[R.getD a []]=bx++dG (R.getD a []) (xs.map (LD.tr R a sn))/\acc'.length<=1000
 |[],bx,z,_,hl=>⟨_,rfl,.inr ⟨bx,z,rfl,rfl,by have:bx.length+0<=1000:=hl;omega⟩⟩
 |x::xs,bx,z,ho,hl=>by
  rw[cU]at hl;obtain⟨o,hs⟩:=ho x (ee ..);have ih:=λbx hl z=>qi n (L0:=L0) ha xs bx z (λy hy=>ho y (dX _ hy)) hl;obtain⟨s,hS⟩:∃s:S,s=⟨[sv L0,sv (.lst (R.map T.str)),sv (.int (a:Nat)),some (.ol (bx.map T.str)),sv x.val],[]⟩:=⟨_,rfl⟩;have e0:tB (av (cN (n+1) 45) [] (k3 (vF 4) zB zC)) s=.ok ((x.tr R a sn).2,s):=Ku (cE (ts:=[x.val,.lst (R.map T.str),.int (a:Nat)]) (by rw[hS];rfl) (wN n o ha hs))
  have TU:∀j:Int,bW (oE (oI (vF 4) zI) (cI j)) s=.ok (decide (x.de=j),s):=λj=>gE (aB (t:=.int x.de) (by rw[hS];rfl) rfl (rG _ _))
  have ex:∀r3:Option C,oI zB zC ⟨[sv L0,sv (.lst (R.map T.str)),sv (.int (a:Nat)),r3,sv x.val],[]⟩=.ok (.str (R.getD a []),⟨[sv L0,sv (.lst (R.map T.str)),sv (.int (a:Nat)),r3,sv x.val],[]⟩):=λr3=>aB (t:=.lst (R.map T.str)) (u:=.int (a:Nat)) rfl rfl (XA ha);refine Oq (r:=[sv L0,sv (.lst (R.map T.str)),sv (.int (a:Nat)),some (.ol (bx.map T.str)),sv x.val]) rfl ?_;show W (aY _ _ _ ⟨[sv L0,sv (.lst (R.map T.str)),sv (.int (a:Nat)),some (.ol (bx.map T.str)),sv x.val],[]⟩) _;rw[<- hS];cases hb:(x.tr R a sn).2 with
  |false=>
   rw[hb]at e0;have er:dG (R.getD a []) ((x::xs).map (LD.tr R a sn))=dG (R.getD a []) (xs.map (LD.tr R a sn)):=by
    rw[dO,show x.tr R a sn=(x.ln,false)from Prod.ext rfl hb];rfl
   rw[er];refine W.of (o8 e0 rfl) (.inr ⟨rfl,?_⟩);rw[hS];exact ih bx (by omega) _
  |true=>
   rw[hb]at e0;have er:dG (R.getD a []) ((x::xs).map (LD.tr R a sn))=match x.dd with
    |.drop=>[]
    |.done=>[R.getD a []]
    |.print=>R.getD a []::dG (R.getD a []) (xs.map (LD.tr R a sn))
    |.say w=>w::dG (R.getD a []) (xs.map (LD.tr R a sn)):=by
    rw[dO,show x.tr R a sn=(x.ln,true)from Prod.ext rfl hb];rfl
   rw[er];unfold LD.dd;have Zc:∀{e:FE}{y:B1},e s=.ok (.str y,s)->iE 3 e s=.ok (.nx,⟨[sv L0,sv (.lst (R.map T.str)),sv (.int (a:Nat)),some (.ol ((bx++[y]).map T.str)),sv x.val],[]⟩):=λ{e} {y} h=>by
    have:=rB (i:=3) (Dy:=bx.map T.str) (ts:=bx.map T.str) (by rw[hS];rfl) h (by rw[hS];rfl) (by rw[bK];omega)
    rw[this,hS,d_];rfl
   by_cases h1:x.de=0
   ·rw[if_pos h1]
    have c:=TU 0;rw[decide_eq_true h1]at c;refine W.of (A4 e0 (Ed (A4 c (fD (s':=⟨[sv L0,sv (.lst (R.map T.str)),sv (.int (a:Nat)),sv (.lst (bx.map T.str)),sv x.val],[]⟩) (t:=.lst (bx.map T.str)) (by rw[hS];rfl))))) (.inl ⟨_,rfl,.inl ⟨⟨[sv L0,sv (.lst (R.map T.str)),sv (.int (a:Nat)),sv (.lst (bx.map T.str)),sv x.val],[]⟩,?_⟩⟩)
    rw[cJ]
   ·have c:=TU 0
    rw[decide_eq_false h1]at c;rw[if_neg h1];by_cases h2:x.de=1
    ·rw[if_pos h2]
     have c':=TU 1;rw[decide_eq_true h2]at c';refine W.of (A4 e0 (seq1 (o8 c rfl) (Ed (A4 c' (fD (t:=.lst (bx.map T.str++[.str (R.getD a [])])) (by rw[hS];exact aB (t:=.lst (bx.map T.str)) (u:=.lst [.str (R.getD a [])]) rfl (dm (ts:=[.str (R.getD a [])]) (aw (ex _) rfl) rfl) (KL (by rw[bK];show _+1<=_;omega)))))))) (.inl ⟨_,rfl,.inl ⟨⟨[sv L0,sv (.lst (R.map T.str)),sv (.int (a:Nat)),sv (.lst (bx.map T.str)),sv x.val],[]⟩,?_⟩⟩)
     rw[d_];rfl
    ·have c':=TU 1
     rw[decide_eq_false h2]at c';rw[if_neg h2];have c2:=TU 2;by_cases h3:x.de=2
     ·rw[if_pos h3]
      rw[decide_eq_true h3]at c2;refine W.of (A4 e0 (seq1 (o8 c rfl) (seq1 (o8 c' rfl) (A4 c2 (Zc (y:=R.getD a []) (by rw[hS];exact ex _)))))) (.inr ⟨rfl,?_⟩)
      have:=ih (bx++[R.getD a []]) (by rw[b9];show _+1+_<=_;omega) (sv x.val)
      rw[fK]at this;exact this
     ·rw[if_neg h3]
      rw[decide_eq_false h3]at c2;refine W.of (A4 e0 (seq1 (o8 c rfl) (seq1 (o8 c' rfl) (o8 c2 (Zc (y:=nQ x.w) (cE (ts:=[.str x.w]) (by rw[hS];rfl) (qh n (by have:=o.n.2;omega)))))))) (.inr ⟨rfl,?_⟩)
      have:=ih (bx++[nQ x.w]) (by rw[b9];show _+1+_<=_;omega) (sv x.val)
      rw[fK]at this;exact this
def wQ{xs:List LD}(ha:a<R.length)(ho:∀x∈xs,x.ok/\x.ln.sn<=(sn:Nat))(hl:xs.length<=100):cN (n+2) 46 [.lst (xs.map LD.val),.lst (R.map T.str),.int (a:Nat)] m=.ok (.lst ((dG (R.getD a []) (xs.map (LD.tr R a sn))).map T.str),m):=by
 rw[Ŕ];refine sEq ?_ rfl (bC _) (bJ (W.of (a:=(Out.nx,(⟨[sv (.lst (xs.map LD.val)),sv (.lst (R.map T.str)),sv (.int (a:Nat)),some (.ol []),none],[]⟩:S))) rfl ⟨rfl,S9 (eg (W.of (A5 (t:=.lst (xs.map LD.val)) rfl rfl) ((qi n (sn:=sn) ha xs [] none ho (by show 0+_<=_;omega)).mono λp hp=>?_)))⟩))
 ·show(aI (xs.map LD.val)&&(aI (R.map T.str)&&true))=true
  rw[rZ,bC];rfl
 ·rcases hp with⟨s,rfl⟩|⟨bx,z,rfl,h,xC⟩
  ·exact .inl ⟨_,rfl,rfl⟩
  ·refine .inr ⟨rfl,vf (t:=.lst ((bx++[R.getD a []]).map T.str)) (s':=⟨[sv (.lst (xs.map LD.val)),sv (.lst (R.map T.str)),sv (.int (a:Nat)),sv (.lst (bx.map T.str)),z],[]⟩) ?_ ?_⟩
   ·rw[d_]
    exact aB (t:=.lst (bx.map T.str)) (u:=.lst [.str (R.getD a [])]) rfl (dm (ts:=[.str (R.getD a [])]) (aw (aB (t:=.lst (R.map T.str)) (u:=.int (a:Nat)) rfl rfl (XA ha)) rfl) rfl) (KL (by rw[bK];show _+1<=_;omega))
   ·rw[h];rfl
theorem u7{L0:T}:∀(xs:List LD)(a:Int)(z:Option C),0<=a->(∀x∈xs,x.ok) ->
  W (bo (setG 2) SA (xs.map LD.val) ⟨[sv L0,sv (.int a),z],[]⟩) λp=>p.1=.nx/\∃z,p.2=⟨[sv L0,sv (.int ((xs.map λx=>x.ln.sn).foldl max a)),z],[]⟩
 |[],a,z,_,_=>⟨_,rfl,rfl,z,rfl⟩
 |x::xs,a,z,h0,ho=>by
  have o:=ho x (ee ..);have hv:=o.v;have ih:=λb hb=>u7 (L0:=L0) xs b (sv x.val) hb λy hy=>ho y (dX _ hy);have c:∀j:Int,bW (bw (aL .Lt) (oI zC zO) (cI j)) ⟨[sv L0,sv (.int a),sv x.val],[]⟩=.ok (decide (x.kd<j),⟨[sv L0,sv (.int a),sv x.val],[]⟩):=λj=>gE (aB (t:=.int x.kd) rfl rfl (iY _ _));have Zd:∀b:Int,(if b > a then b else a)=max a b:=λb=>by split<;>omega
  rw[dO,dO,ou];have Ot:=LD.EO (x:=x);refine iK (r:=[sv L0,sv (.int a),sv x.val]) rfl ?_;by_cases h1:x.kd<2
  ·rw[if_pos h1]at Ot
   rw[Ot];refine iI ((c 2).trans (by rw[decide_eq_true h1])) (W.of (dz (s':=⟨[sv L0,sv (.int a),sv x.val],[]⟩) (t:=.int (max a 1)) (dm (ts:=[.int a,.int 1]) rfl (by show some (T.int _)=_;rw[Zd]))) ⟨rfl,ih (max a 1) (by omega)⟩)
  ·rw[if_neg h1]at Ot
   refine c8 ((c 2).trans (by rw[decide_eq_false h1])) ?_
   by_cases h2:x.kd<4
   ·rw[if_pos h2]at Ot
    rw[Ot];refine iI ((c 4).trans (by rw[decide_eq_true h2])) (W.of (dz (s':=⟨[sv L0,sv (.int a),sv x.val],[]⟩) (t:=.int (max a x.v)) (dm (ts:=[.int a,.int x.v]) rfl (by show some (T.int _)=_;rw[Zd]))) ⟨rfl,ih (max a x.v) (by omega)⟩)
   ·rw[if_neg h2]at Ot
    rw[Ot,Int.max_eq_left h0];exact c8 ((c 4).trans (by rw[decide_eq_false h2])) (W.of (a:=(Out.nx,_)) rfl ⟨rfl,ih _ h0⟩)
def nT{xs:List LD}(ho:∀x∈xs,x.ok):cN (n+1) 47 [.lst (xs.map LD.val)] m=.ok (.int (zq (xs.map λx=>x.ln.sn)),m):=by
 rw[Ŗ];refine sEq ?_ rfl rfl (bS (t:=.int 0) rfl (bJ (eg (W.of (A5 (t:=.lst (xs.map LD.val)) rfl rfl) ((u7 xs 0 none (BW _) ho).mono λp hp=>⟨hp.1,?_⟩)))))
 ·show(aI (xs.map LD.val)&&true)=true
  rw[rZ];rfl
 ·obtain⟨_,z,h⟩:=hp
  rw[h];exact bR rfl rfl
end
section
variable{m:FV}
def AR(i:Int)(m:FV):∃c,cN (n+1) 48 [.int i] m=.ok (.str [c],m):=by
 rw[ŗ];unfold YO
 generalize hl:(Sv:B1)=l
 clear hl;have e1:bV cz (k1 zB) ⟨[sv (.int i),sv (.str l),sv (.int (i % 250))],[]⟩=.ok (.int l.length,⟨[sv (.int i),sv (.str l),sv (.int (i % 250))],[]⟩):=dm (ts:=[.str l]) rfl rfl;by_cases h1:i % 250<110
 ·obtain⟨d,e⟩:∃d,gi (.str [97,98]) (.int (if decide (i % 250<50)=true then 1 else 0))=some (.str [d]):=by
   by_cases h:i % 250<50
   ·rw[decide_eq_true h];exact⟨98,rfl⟩
   ·rw[decide_eq_false h];exact⟨97,rfl⟩
  exact⟨d,sEq rfl rfl rfl (bS (t:=.str l) rfl (bS (md rfl (by decide)) (bY (gE (aB rfl rfl (by rw[iY,decide_eq_true h1]))) (bR (aB (t:=.str [97,98]) rfl (dm (ts:=[.bl (decide (i % 250<50))]) (aw (aB rfl rfl (iY _ _)) rfl) rfl) e) rfl))))⟩
 ·have b1:∀{A B:FS}{G:T×FV->Prop},WB B ⟨[sv (.int i),sv (.str l),sv (.int (i % 250))],[]⟩ G->WB (af (aY (bW (bw (aL .Lt) zC (cI 110))) A aG) B) ⟨[sv (.int i),sv (.str l),sv (.int (i % 250))],[]⟩ G:=λh=>bN (gE (aB rfl rfl (by rw[iY,decide_eq_false h1]))) h
  by_cases h2:i % 250<110+(l.length:Nat)
  ·obtain⟨c,_,e⟩:=Oj (l:=l) (i:=i % 250-110) (by omega) (by omega)
   exact⟨c,sEq rfl rfl rfl (bS (t:=.str l) rfl (bS (md rfl (by decide)) (b1 (bY (gE (aB (u:=.int (110+(l.length:Nat))) rfl (aB rfl e1 rfl) (by rw[iY,decide_eq_true h2]))) (bR (aB (t:=.str l) (u:=.int (i % 250-110)) rfl rfl e) rfl)))))⟩
  ·exact⟨10,sEq rfl rfl rfl (bS (t:=.str l) rfl (bS (md rfl (by decide)) (b1 (bN (gE (aB (u:=.int (110+(l.length:Nat))) rfl (aB rfl e1 rfl) (by rw[iY,decide_eq_false h2]))) (bR rfl rfl)))))⟩
theorem u9(n:Nat){a0 a1 a2 a3 a4:Option C}:∀(l:B1)(x:B1)(num:Int)(a7:Option C),(∀q∈l,q<100)->x.length+l.length<=1000 ->
  W (bo (setG 7) (SD (cN (n+1))) (l.map λq=>T.int (q:Nat)) ⟨[a0,a1,a2,a3,a4,sv (.int num),sv (.str x),a7],[]⟩) λp=>p.1=.nx/\∃z num a7,p.2=⟨[a0,a1,a2,a3,a4,sv (.int num),sv (.str z),a7],[]⟩/\z.length=x.length+l.length
 |[],x,num,a7,_,_=>⟨_,rfl,rfl,x,num,a7,rfl,rfl⟩
 |q::l,x,num,a7,hq,hl=>by
  rw[cU]at hl;have h:=hq q (ee ..);obtain⟨c,ec⟩:=AR n (num+(q:Nat)*(q:Nat)*31) [];refine iK (r:=[a0,a1,a2,a3,a4,sv (.int num),sv (.str x),sv (.int (q:Nat))]) rfl (dD (W.of (dz (s':=⟨[a0,a1,a2,a3,a4,sv (.int num),sv (.str x),sv (.int (q:Nat))],[]⟩) (t:=.str (x++[c])) (aB (t:=.str x) (u:=.str [c]) rfl (cE (ts:=[.int (num+(q:Nat)*(q:Nat)*31)]) (aw (aB (u:=.int ((q:Nat)*(q:Nat)*31)) rfl (aB (t:=.int ((q:Nat)*(q:Nat))) (u:=.int 31) (aB (t:=.int (q:Nat)) (u:=.int (q:Nat)) rfl rfl (AM (.inr ⟨by omega,by omega⟩))) rfl (AM (.inr ⟨by decide,by decide⟩))) rfl) rfl) ec) (gQ (by show _+1<=_;omega)))) ⟨rfl,W.of (dz (s':=⟨[a0,a1,a2,a3,a4,sv (.int num),sv (.str (x++[c])),sv (.int (q:Nat))],[]⟩) (t:=.int (num/250)) (fd rfl (by decide))) ⟨rfl,(u9 n l (x++[c]) (num/250) (sv (.int (q:Nat))) (λq Cn=>hq q (dX _ Cn)) (by rw[b9];show _+1+_<=_;omega)).mono λp hp=>?_⟩⟩))
  obtain⟨h1,z,XC,TV,h2,h3⟩:=hp;refine⟨h1,z,XC,TV,h2,?_⟩;simp only[b9,cU,jy]at h3 ⊢;omega
theorem qj(n:Nat){a0:Option C}:∀(cs:Dx)(ps:Ap)(room:Int)(a3 a4 a5 a6 a7:Option C),0<=room->(ps.flatten.length:Int)+room<=190->ps.length+cs.length<=1000 ->
  W (bo (setG 3) (SE (cN (n+1))) (cs.map T.int) ⟨[a0,sv (.int room),some (.ol (ps.map T.str)),a3,a4,a5,a6,a7],[]⟩) λp=>p.1=.nx/\∃(qs:Ap)(room:Int)(a3 a4 a5 a6 a7:Option C),p.2=⟨[a0,sv (.int room),some (.ol (qs.map T.str)),a3,a4,a5,a6,a7],[]⟩/\qs.flatten.length<=190/\qs.length=ps.length+cs.length
 |[],ps,room,a3,a4,a5,a6,a7,h0,hr,_=>⟨_,rfl,rfl,ps,room,a3,a4,a5,a6,a7,rfl,by omega,rfl⟩
 |c::cs,ps,room,a3,a4,a5,a6,a7,h0,hr,hl=>by
  rw[cU]at hl;obtain⟨o,ho⟩:∃o:Option C,o=some (.ol (ps.map T.str)):=⟨_,rfl⟩;have Uu:∀{B:FS}{Q:Out×S->Prop},(∀k:Int,0<=k->k<=20->W (B ⟨[a0,sv (.int room),o,sv (.int c),sv (.int k),a5,a6,a7],[]⟩) Q)->W (af (aE 4 (oM zD (cI 4))) (af (aY (bW (oE (oM (oD zD (cI 4)) (cI 9)) zI))
  (aE 4 (oM (oD zD (cI 36)) (cI 21)))
  aG) B) ⟨[a0,sv (.int room),o,sv (.int c),a4,a5,a6,a7],[]⟩) Q:=λ{B Q} h=>by
   refine dD (W.of (dz (s':=⟨[a0,sv (.int room),o,sv (.int c),a4,a5,a6,a7],[]⟩) (t:=.int (c % 4)) (md rfl (by decide))) ⟨rfl,?_⟩)
   have ct:bW (oE (oM (oD zD (cI 4)) (cI 9)) zI) ⟨[a0,sv (.int room),o,sv (.int c),sv (.int (c % 4)),a5,a6,a7],[]⟩=.ok (decide (c/4 % 9=1),⟨[a0,sv (.int room),o,sv (.int c),sv (.int (c % 4)),a5,a6,a7],[]⟩):=gE (aB (md (fd rfl (by decide)) (by decide)) rfl (rG _ _))
   by_cases hc:c/4 % 9=1
   ·rw[decide_eq_true hc]at ct
    exact dD (iI ct (W.of (dz (s':=⟨[a0,sv (.int room),o,sv (.int c),sv (.int (c % 4)),a5,a6,a7],[]⟩) (t:=.int (c/36 % 21)) (md (fd rfl (by decide)) (by decide))) ⟨rfl,h (c/36 % 21) (by omega) (by omega)⟩))
   ·rw[decide_eq_false hc]at ct
    exact dD (c8 ct (W.of (a:=(Out.nx,_)) rfl ⟨rfl,h (c % 4) (by omega) (by omega)⟩))
  refine iK (r:=[a0,sv (.int room),some (.ol (ps.map T.str)),sv (.int c),a4,a5,a6,a7]) rfl ?_;rw[<- ho];refine Uu λk k0 k1=>?_;obtain⟨j,hj,j1,j2⟩:∃j:Nat,(if room<k then room else k)=(j:Int)/\j<=20/\(j:Int)<=room:=⟨(if room<k then room else k).toNat,by split<;>omega,by split<;>omega,by split<;>omega⟩
  have epw:c6 .Pow (.int 10) (.int 60)=some (.int (10^(60:Int).toNat)):=by
   show gd ((0:Int)<=60/\(60:Int)<=1000000/\(10:Int).natAbs<2^64) (T.int (10^(60:Int).toNat))=_;exact gQ (by decide)
  have ep:(0:Int)<10^(60:Int).toNat:=by decide +kernel
  refine dD (W.of (dz (s':=⟨[a0,sv (.int room),o,sv (.int c),sv (.int k),a5,a6,a7],[]⟩) (t:=.int (c/36 % (10^(60:Int).toNat))) (aB (fd rfl (by decide)) (aB (t:=.int 10) (u:=.int 60) rfl rfl epw) (mod_eq ep))) ⟨rfl,dD (W.of (dz (s':=⟨[a0,sv (.int room),o,sv (.int c),sv (.int k),sv (.int (c/36 % (10^(60:Int).toNat))),a6,a7],[]⟩) (t:=.str []) rfl) ⟨rfl,?_⟩)⟩)
  refine dD (eg (W.of (a:=((gu 0 j).map λq=>T.int (q:Nat),(⟨[a0,sv (.int room),o,sv (.int c),sv (.int k),sv (.int (c/36 % (10^(60:Int).toNat))),sv (.str []),a7],[]⟩:S))) (HD (ts:=[.int (j:Nat)]) (aw (dm (ts:=[.int k,.int room]) rfl (by rw[<- hj];rfl)) rfl) (Ol j (by omega))) ((u9 n (gu 0 j) [] _ a7 (λq hq=>by obtain⟨i,hi,rfl⟩:=xl.mp hq;omega) (by rw[qu];show 0+j<=_;omega)).mono λp hp=>⟨hp.1,?_⟩)))
  obtain⟨_,z,num,TV,h2,h3⟩:=hp;rw[qu]at h3;have h3:z.length=0+j:=h3;rw[h2,ho];refine dD (W.of (dz (s':=⟨[a0,sv (.int room),some (.ol (ps.map T.str)),sv (.int c),sv (.int k),sv (.int num),sv (.str z),TV],[]⟩) (t:=.int (room-(z.length:Nat))) (aB (t:=.int room) (u:=.int (z.length:Nat)) rfl (dm (ts:=[.str z]) rfl rfl) rfl)) ⟨rfl,W.of (rB (s1:=⟨[a0,sv (.int (room-(z.length:Nat))),some (.ol (ps.map T.str)),sv (.int c),sv (.int k),sv (.int num),sv (.str z),TV],[]⟩) (Dy:=ps.map T.str) (ts:=ps.map T.str) (t:=.str z) rfl rfl rfl (by rw[bK];omega)) ⟨rfl,?_⟩⟩)
  have e:ps.map T.str++[T.str z]=(ps++[z]).map T.str:=by rw[d_];rfl
  show W (bo _ _ (cs.map T.int) ⟨[a0,sv (.int (room-(z.length:Nat))),some (.ol (ps.map T.str++[T.str z])),sv (.int c),sv (.int k),sv (.int num),sv (.str z),TV],[]⟩) _;rw[e];refine(qj n cs (ps++[z]) (room-(z.length:Nat)) _ _ _ _ _ (by omega) (by rw[xj,b9];show((_+(z++[]).length:Nat):Int)+_<=_;rw[cJ];omega) (by rw[b9];show _+1+_<=_;omega)).mono λp hp=>⟨hp.1,?_⟩
  obtain⟨_,qs,TX,b3,b4,b5,b6,b7,g1,g2,g3⟩:=hp;refine⟨qs,TX,b3,b4,b5,b6,b7,g1,g2,?_⟩;rw[b9]at g3;have g3:qs.length=ps.length+1+cs.length:=g3;rw[cU];omega
theorem u_:∀l:Dx,aI (l.map T.int)=true
 |[]=>rfl
 |x::l=>by
  show(true&&aI (l.map T.int))=true;rw[u_ l];rfl
def vc(cs:Dx)(m:FV)(hl:cs.length<=1000):∃ps:Ap,(ps.flatten.length<=190/\ps.length<=1000)/\cN (n+2) 49 [.lst (cs.map T.int)] m=.ok (.lst (ps.map T.str),m):=by
 obtain⟨⟨o,s⟩,e,h1,qs,room,a3,a4,a5,a6,a7,h2,h3,h4⟩:=qj n (a0:=sv (.lst (cs.map T.int))) cs [] 190 none none none none none (by decide) (by show(0:Int)+190<=190;decide) (by show 0+_<=_;omega)
 have h4:qs.length=0+cs.length:=h4;cases h1;have h2:s=_:=h2;subst h2;refine⟨qs,⟨h3,by omega⟩,?_⟩
 rw[ř];refine sEq ?_ rfl (bC _) (bS (t:=.int 190) rfl (bJ (W.of (a:=(Out.nx,(⟨[sv (.lst (cs.map T.int)),sv (.int 190),some (.ol []),none,none,none,none,none],[]⟩:S))) rfl ⟨rfl,bJ (eg (W.of (A5 (t:=.lst (cs.map T.int)) rfl rfl) ⟨_,e,rfl,vf (t:=.lst (qs.map T.str)) (s':=⟨[sv (.lst (cs.map T.int)),sv (.int room),sv (.lst (qs.map T.str)),a3,a4,a5,a6,a7],[]⟩) rfl rfl⟩))⟩)));show(aI (cs.map T.int)&&true)=true;rw[u_];rfl
end
def rowsOf(tx:B1):Ap:=(bH [] tx).1++i7 (bH [] tx).2
open PyProof.Rows in
theorem r6:∀(p l:B1),cnt 10 p=((bH l p).1.length:Nat)
 |[],_=>rfl
 |c::p,l=>by
  rw[cnt_cons];by_cases h:c=10
  ·subst h
   rw[rT,if_pos rfl,r6 p [],cU];omega
  ·rw[rV h,if_neg h,r6 p (l++[c])];omega
def XD(p l:B1):GG p [.str [10]]=some (.int ((bH l p).1.length:Nat)):=by
 rw[<- r6 p l];exact congrArg (λz=>some (T.int z)) (PyProof.Rows.count_cnt ⟨p.toArray⟩ 10)
def Ou{s:S}{ts:FK}{t:T}(h:s.r[1]?=some (some (.ol (ts++[t])))):lr 1 (dN iV zI) s=.ok (t,s):=by
 unfold lr;rw[h];show Res.bind (aX (ku s.r[1]?)) _=_;rw[h];show Res.bind (aX (atT (ts++[t]) (-1))) _=_;rw[rF];rfl
section
variable{m:FV}
def AS{tx:B1}(h:tx.length<=1000):cN (n+1) 50 [.str tx] m=.ok (.lst ((rowsOf tx).map T.str),m):=by
 rw[ś];have e:=(iQ tx [] λz=>nomatch z).e;rw[jw]at e;unfold rowsOf
 generalize (bH [] tx).1=rws at e
 generalize (bH [] tx).2=lf at e
 have e0:ia 1 (o1 (Ay [10]) zA) ⟨[sv (.str tx),none],[]⟩=.ok (.nx,⟨[sv (.str tx),some (.ol (rws.map T.str++[.str lf]))],[]⟩):=by
  have:Ay [10] (.str tx)=some (rws.map T.str++[.str lf]):=by
   show gd (tx.length<=100000) ((aP 10 tx).map T.str)=_;rw[gQ (by omega),e,d_];rfl
  unfold ia o1;show Res.bind (Res.bind (aX (Ay [10] (.str tx))) _) _=_;rw[this];rfl
 have c:bW (oE (lr 1 (dN iV zI)) (cS [])) ⟨[sv (.str tx),some (.ol (rws.map T.str++[.str lf]))],[]⟩=.ok (decide (lf=[]),⟨[sv (.str tx),some (.ol (rws.map T.str++[.str lf]))],[]⟩):=gE (aB (t:=.str lf) (u:=.str []) (Ou rfl) rfl (Y0 _ _));refine sEq rfl rfl (bC _) (bJ (W.of e0 ⟨rfl,?_⟩));unfold i7;by_cases hl:lf=[]
 ·rw[decide_eq_true hl]at c
  rw[if_pos hl,cJ];refine bJ (iI c (W.of (a:=(Out.nx,(⟨[sv (.str tx),some (.ol (rws.map T.str))],[]⟩:S))) ?_ ⟨rfl,vf (t:=.lst (rws.map T.str)) (s':=⟨[sv (.str tx),sv (.lst (rws.map T.str))],[]⟩) rfl rfl⟩));unfold G7;show Res.bind (aX (gd (rws.map T.str++[T.str lf]≠[]) ())) _=_;rw[gQ (by simp)]
  show Res.ok (Out.nx,(⟨[sv (.str tx),some (.ol (rws.map T.str++[T.str lf]).dropLast)],[]⟩:S))=_;rw[List.dropLast_concat]
 ·rw[decide_eq_false hl]at c
  rw[if_neg hl];refine bJ (c8 c (W.of (a:=(Out.nx,_)) rfl ⟨rfl,vf (t:=.lst ((rws++[lf]).map T.str)) (s':=⟨[sv (.str tx),sv (.lst (rws.map T.str++[.str lf]))],[]⟩) ?_ rfl⟩));rw[d_];rfl
abbrev nU(LL:List Ap):FK:=LL.map λl=>.lst (l.map T.str)
theorem ER{a0:Option C}:∀(LL:List Ap)(bx:Ap)(z:Option C),bx.length+LL.flatten.length<=100000->W (bo (setG 2) (DB 1 zC) (nU LL) ⟨[a0,some (.ol (bx.map T.str)),z],[]⟩) λp=>p.1=.nx/\∃z,p.2=⟨[a0,some (.ol ((bx++LL.flatten).map T.str)),z],[]⟩
 |[],bx,z,_=>⟨_,rfl,rfl,z,by rw[List.flatten_nil,cJ]⟩
 |l::LL,bx,z,h=>by
  rw[jv,b9]at h;rw[jv,<- fK];refine iK (r:=[a0,some (.ol (bx.map T.str)),sv (.lst (l.map T.str))]) rfl (W.of (a:=(Out.nx,(⟨[a0,some (.ol ((bx++l).map T.str)),sv (.lst (l.map T.str))],[]⟩:S))) ?_ ⟨rfl,ER LL (bx++l) _ (by rw[b9];omega)⟩)
  unfold DB;show Res.bind (aX (gd ((bx.map T.str).length+(l.map T.str).length<=1000000) ())) _=_;rw[gQ (by rw[bK,bK];omega),d_];rfl
theorem zx:∀LL:List Ap,aI (nU LL)=true
 |[]=>rfl
 |l::LL=>by
  show(aI (l.map T.str)&&aI (nU LL))=true;rw[bC,zx LL];rfl
def qk{LL:List Ap}(h:LL.flatten.length<=100000):cN (n+1) 51 [.lst (nU LL)] m=.ok (.lst (LL.flatten.map T.str),m):=by
 rw[ŝ];refine sEq ?_ rfl (bC _) (bJ (W.of (a:=(Out.nx,(⟨[sv (.lst (nU LL)),some (.ol []),none],[]⟩:S))) rfl ⟨rfl,bJ (eg (W.of (A5 (t:=.lst (nU LL)) rfl rfl) ((ER LL [] none (by show 0+_<=_;omega)).mono λp hp=>⟨hp.1,?_⟩)))⟩))
 ·show(aI (nU LL)&&true)=true
  rw[zx];rfl
 ·obtain⟨_,z,e⟩:=hp
  rw[e];exact vf (t:=.lst (LL.flatten.map T.str)) (s':=⟨[sv (.lst (nU LL)),sv (.lst (LL.flatten.map T.str)),z],[]⟩) rfl rfl
theorem ql{p:T->T->Bool}:∀{ts:FK},(∀t∈ts,p t t=true)->all2 p ts ts=true
 |[],_=>rfl
 |t::ts,h=>by
  show(p t t&&all2 p ts ts)=true;rw[h t (ee ..),ql λu hu=>h u (dX _ hu)];rfl
def zy(l:Ap):shape 5 (.lst (l.map T.str)) (.lst (l.map T.str))=true:=ql λt ht=>by
 obtain⟨x,_,rfl⟩:=ez.mp ht;rfl
def Ov(l:Ap):aL .Eq (.lst (l.map T.str)) (.lst (l.map T.str))=some (.bl true):=by
 show gd (shape 5 (.lst (l.map T.str)) (.lst (l.map T.str))=true) (T.bl (eqT (.lst (l.map T.str)) (.lst (l.map T.str))))=_;rw[gQ (zy l),mG]
def Ow(l:Ap):aL .NotEq (.lst (l.map T.str)) (.lst (l.map T.str))=some (.bl false):=by
 show gd (shape 5 (.lst (l.map T.str)) (.lst (l.map T.str))=true) (T.bl (!eqT (.lst (l.map T.str)) (.lst (l.map T.str))))=_;rw[gQ (zy l),mG];rfl
def nV{l:Ap}(h:l.length<=100000):cN (n+1) 52 [.lst (l.map T.str),.lst (l.map T.str)] m=.ok (.bl true,m):=by
 rw[ş];refine sEq ?_ rfl rfl (bR (t:=.bl true) (uQ (x:=true) (y:=true) rfl λ_=>uQ (x:=true) (y:=true) (dm (ts:=[.lst ((l.map T.str).map uK)]) (aw (NS (A5 (t:=.lst (l.map T.str)) rfl rfl) (by rw[bK];omega) rfl (cH λt ht=>?_)) rfl) ?_) λ_=>aB (t:=.lst (l.map T.str)) (u:=.lst (l.map T.str)) rfl rfl (Ov l)) rfl)
 ·show(aI (l.map T.str)&&(aI (l.map T.str)&&true))=true
  rw[bC];rfl
 ·obtain⟨x,_,rfl⟩:=ez.mp ht
  exact⟨[none,sv (.str x)],[none,sv (.str x)],rfl,rfl⟩
 ·simp only[Aj,Gi,all_true]
  simp
def nW(i:Int):cN (n+1) 39 [.int i] m=.ok (.bl true,m):=by
 rw[Ņ];exact sEq rfl rfl rfl (bR rfl rfl)
end
abbrev Il:LN:=.full (.pc (.rp (.row [57,48,48] 900))) .print
abbrev TY:CN:=⟨false,.rw 900⟩
def LL(k:Nat)(xs:List LD):List LN:=dM k Il++xs.map LD.ln
def CC(k:Nat)(xs:List LD):List CN:=dM k TY++xs.map LD.cn
def Ox:Lk Il:=by
 refine Kw ⟨⟨⟨by decide,by decide,rfl,by decide,?_⟩,by decide,by decide⟩,trivial⟩ rfl rfl
 show(PySem.intText? ⟨#[57,48,48]⟩).bind _=_;rw[show PySem.intText? ⟨#[57,48,48]⟩=some 900 by decide +kernel]
 exact gQ (by show 3<=640;decide)
section
variable{k:Nat}{xs:List LD}{m:FV}
def wR{x:LN}(h:x∈LL k xs):x=Il\/∃y∈xs,x=y.ln:=by
 rcases k7.mp h with h|h
 ·exact .inl (Jf h)
 ·obtain⟨y,hy,rfl⟩:=ez.mp h
  exact .inr ⟨y,hy,rfl⟩
def ES(ho:∀x∈xs,x.ok):∀x∈LL k xs,Lk x:=λx hx=>by
 rcases wR hx with rfl|⟨y,hy,rfl⟩
 ·exact Ox
 ·exact(ho y hy).lk
def jo:(LL k xs).length=k+xs.length:=by unfold LL;rw[b9,i9,bK]
def ET:(CC k xs).length=(LL k xs).length:=by rw[jo];unfold CC;rw[b9,i9,bK]
def Im(ho:∀x∈xs,x.ok):(LL k xs).map LN.cond=(CC k xs).map CN.val:=by
 unfold LL CC;rw[d_,d_,qq,qq,du,du];exact congrArg (_++·) (oz λx hx=>LD.lL (ho x hx))
def KN(ho:∀x∈xs,x.ok):∀x∈CC k xs,x.cv.ok:=λx hx=>by
 rcases k7.mp hx with h|h
 ·rw[Jf h];trivial
 ·obtain⟨y,hy,rfl⟩:=ez.mp h
  exact(ho y hy).cv
def TZ{x:LD}(o:x.ok):0<=x.ln.sn/\x.ln.sn<=3:=by
 have:=o.v
 rw[LD.EO];split
 ·decide
 ·split<;>omega
def EU(ho:∀x∈xs,x.ok):∀x∈LL k xs,0<=x.sn:=λx hx=>by
 rcases wR hx with rfl|⟨y,hy,rfl⟩
 ·exact BW _
 ·exact(TZ (ho y hy)).1
def KO:zq ((LL k xs).map LN.sn)=zq (xs.map λx=>x.ln.sn):=by
 unfold LL zq;rw[d_,qq,du,IW]
 have:∀k:Nat,(dM k (LN.sn Il)).foldl max 0=0:=by
  intro k
  induction k with
  |zero=>rfl
  |succ k ih=>rw[ju,ou];exact ih
 rw[this];rfl
def T_(ho:∀x∈xs,x.ok):∃sn:Nat,zq (xs.map λx=>x.ln.sn)=sn/\sn<=3/\∀x∈xs,x.ok/\x.ln.sn<=(sn:Nat):=by
 have h:=wc 0 (xs.map λx=>x.ln.sn);rw[rX]at h;obtain⟨h1,h2,h3⟩:=h;have h1:zq (xs.map λx=>x.ln.sn)=0\/zq (xs.map λx=>x.ln.sn)∈xs.map λx=>x.ln.sn:=h1;have h2:0<=zq (xs.map λx=>x.ln.sn):=h2;refine⟨(zq (xs.map λx=>x.ln.sn)).toNat,by omega,?_,λx hx=>⟨ho x hx,?_⟩⟩
 ·rcases h1 with e|e
  ·rw[e];decide
  ·obtain⟨x,hx,e⟩:=ez.mp e
   have:=(TZ (ho x hx)).2
   omega
 ·have h3:x.ln.sn<=zq (xs.map λx=>x.ln.sn):=h3 _ (ez.mpr ⟨x,hx,rfl⟩)
  omega
def Ua{x:LD}(o:x.ok):10∉x.ln.txt/\x.ln.txt.length<=60:=by
 have hw:10∉x.w:=λz=>absurd (gR (o.w 10 z)).1 (by decide)
 obtain⟨nv,_⟩:=OX (v:=x.v) ⟨o.v.1,by have:=o.v.2;omega⟩
 obtain⟨nu,_⟩:=OX o.u;have hv:10∉ic x.v:=λz=>absurd (nv.hd 10 z) (by decide)
 have hu:10∉ic x.u:=λz=>absurd (nu.hd 10 z) (by decide)
 have hs:10∉nQ x.w:=λz=>by
  rw[nS]at z;exact hw (wX.mp z).1
 have lv:=nv.hl;have lu:=nu.hl;have lw:=o.n.2;have ls:=j4 x.w;have hd:10∉x.dd.txt/\x.dd.txt.length<=20:=by
  unfold LD.dd;split
  ·decide
  ·split
   ·decide
   ·split
    ·decide
    ·refine⟨by simp[DD.txt,hs],?_⟩
     simp only[DD.txt,cU,b9,jy];omega
 have hp:∀b:B1,10∉b->10∉x.pc.txt b/\(x.pc.txt b).length<=b.length+20:=λb hb=>by
  unfold LD.pc;split
  ·exact⟨by simp[PC.txt,hb],by simp only[PC.txt,cU];omega⟩
  ·split
   ·exact⟨by simp[PC.txt,hb,hv,hw],by simp only[PC.txt,cU,b9];omega⟩
   ·split
    ·exact⟨by simp[PC.txt,RP.txt,hb,hu],by simp only[PC.txt,RP.txt,cU,b9];omega⟩
    ·exact⟨by simp[PC.txt,RP.txt,hb,hw],by simp only[PC.txt,RP.txt,cU,b9];omega⟩
 obtain⟨p1,p2⟩:=hp (58::32::x.dd.txt) (by simp[hd.1])
 simp only[cU]at p2;show 10∉x.cd.txt _/\(x.cd.txt _).length<=60;unfold LD.cd;split
 ·exact⟨by simp[CD.txt,p1],by simp only[CD.txt,cU];omega⟩
 ·exact⟨p1,by show(x.pc.txt _).length<=60;omega⟩
theorem r8:∀{ls:Ap},(∀l∈ls,l.length<=60)->(AH ls).length<=61*ls.length
 |[],_=>c_ _
 |l::ls,h=>by
  have:=r8 λx hx=>h x (dX _ hx)
  have:=h l (ee ..)
  show(l++[10]++AH ls).length<=_;simp only[b9,cU,jy];omega
def AU(ho:∀x∈xs,x.ok)(hl:k+xs.length<=24):cN (n+15) 34 [.str (AH ((LL k xs).map LN.txt))] m=.ok (oi (LL k xs),m):=by
 have al:∀l∈(LL k xs).map LN.txt,10∉l/\l.length<=60:=λl hl=>by
  obtain⟨x,hx,rfl⟩:=ez.mp hl;rcases wR hx with rfl|⟨y,hy,rfl⟩
  ·decide
  ·exact Ua (ho y hy)
 have hf:=r8 λl hl=>(al l hl).2;rw[bK,jo]at hf;refine HK n (b:=true) (ES ho) (by rw[jo];omega) λm=>?_
 have:=HJ (n+13) (m:=m) (λl hl=>(al l hl).1) (by omega)
 rw[du]at this;exact this
def Oz:(dM k [114,111,119,32,57,48,48,58,32,112,114,105,110,116,10]).flatten++(xs.map λx=>x.ln.txt++[10]).flatten=AH ((LL k xs).map LN.txt):=by
 unfold LL;rw[d_,AH,d_,xj,qq,qq,du,du];rfl
def OA{R:Ap}{sn i:Nat}(hi:i<800):AJ (LL k xs) (CC k xs) sn R i=dG (R.getD i []) (xs.map (LD.tr R i sn)):=by
 unfold AJ Oe LL CC
 induction k with
 |zero=>
  rw[Jg,Jg,jw,jw,du,List.zip_map'];rfl
 |succ k ih=>
  rw[ju,ju,vm,vm,dO,lU];have e:CN.lO (R.getD i []) ((i:Int)+1) ((R.drop (i+1)).take sn) TY=false:=by
   show(false != decide ((900:Int)=(i:Int)+1))=false;rw[decide_eq_false (by omega)];rfl
  rw[e];exact ih
theorem zE:∀(l:List (LN×Bool))(X:B1),(dG X l).length<=l.length+1
 |[],_=>c_ _
 |(l,b)::r,X=>by
  have:=zE r X
  rw[cU];unfold dG;split
  ·split<;>simp only[cU,jy]<;>omega
  ·omega
end
def Io{a:FE}{s s1:S}{b:Bool}(h:a s=.ok (.bl b,s1)):D.tB a s=.ok (b,s1):=by unfold D.tB;rw[h];rfl
def UZ{c:FT}{s s1:S}{b:Bool}(h:c s=.ok (b,s1)):dC c s=.ok (!b,s1):=by unfold dC;rw[h];rfl
def Ze{a b:FT}{s:S}{x:Bool}(h:a s=.ok (false,s))(h2:b s=.ok (x,s)):qK a b s=.ok (x,s):=by
 unfold qK;rw[h];exact h2
structure LE where
 ns:Dx
 xs:List LD
 f:Int
 F:B1
 k:Nat
 ps:Ap
 sn:Nat
def LE.R(e:LE):Ap:=rowsOf e.ps.flatten
def LE.g(e:LE)(i:Nat):Ap:=dG (e.R.getD i []) (e.xs.map (LD.tr e.R i e.sn))
noncomputable def LE.D(e:LE):List Ap:=(gu 0 e.R.length).map e.g
abbrev LE.L(e:LE):List LN:=LL e.k e.xs
abbrev LE.C(e:LE):List CN:=CC e.k e.xs
structure LE.ok(e:LE):Prop where
 ho:∀x∈e.xs,x.ok/\x.ln.sn<=(e.sn:Nat)
 mx:zq (e.xs.map λx=>x.ln.sn)=(e.sn:Nat)
 s3:e.sn<=3
 kl:e.k+e.xs.length<=24
 fl:e.ps.flatten.length<=190
 pl:e.ps.length<=1000
theorem LE.ok.R{e:LE}(o:e.ok):e.R.length<=191:=by
 have:=(iQ e.ps.flatten [] λz=>nomatch z).l2
 have:=o.fl
 unfold LE.R rowsOf i7;rw[b9];have h:((if(bH [] e.ps.flatten).2=[]then[]else[(bH [] e.ps.flatten).2]):Ap).length<=1:=by split<;>simp
 have:([]:B1).length=0:=rfl
 omega
theorem KP(e:LE):∀l:B1,(l.map e.g).flatten.length<=(e.xs.length+1)*l.length
 |[]=>c_ _
 |i::l=>by
  have h1:=KP e l;have h2:=zE (e.xs.map (LD.tr e.R i e.sn)) (e.R.getD i []);rw[bK]at h2;rw[dO,jv,b9,cU,Nat.mul_succ];have h2:(e.g i).length<=e.xs.length+1:=h2;omega
def LE.ok.len{e:LE}(o:e.ok){l:B1}(h:l.length<=1000):(l.map e.g).flatten.length<=100000:=by
 have h1:=KP e l;have h2:=o.kl
 have:(e.xs.length+1)*l.length<=25*1000:=BO (by omega) h
 omega
def LE.ok.Zf{e:LE}(o:e.ok){t d:Nat}(h:t+d<=e.R.length):(gu t d).flatMap (AJ e.L e.C e.sn e.R)=((gu t d).map e.g).flatten:=by
 have:=o.R
 rw[List.flatMap_def];refine congrArg jx (oz λi hi=>?_);obtain⟨j,hj,rfl⟩:=xl.mp hi;exact OA (by omega)
def LE.sl(e:LE){t d:Nat}(h:t+d<=e.R.length):(e.D.drop t).take d=(gu t d).map e.g:=by
 unfold LE.D;rw[<- zJ,<- qr,List.drop_range',show 0+t*1=t by omega,show e.R.length-t=d+(e.R.length-t-d) by omega,<- Jc,Jb qu]
abbrev j_(l:Ap):T:=.tup [.lst (l.map T.str),.lst (l.map T.str)]
abbrev lS(e:LE)(w t:Int)(hl:FK)(zF pe kM j5 ph:Option C)(m:FV):S:=⟨[sv (.scr e.ns),sv (.lst (e.xs.map LD.val)),sv (.int e.f),sv (.str e.F),sv (oi e.L),sv (.lst (e.ps.map T.str)),sv (.lst (e.R.map T.str)),sv (.lst (nU e.D)),sv (.int (e.sn:Nat)),sv (.own 0),sv (.int w),sv (.int t),some (.ol hl),zF,pe,kM,j5,ph],m⟩
section
variable{e:LE}{m:FV}{x rs:B1}{w:Nat}{held q:List Ap}{pe kM j5 ph:Option C}{z:Ap}
def AV(o:e.ok)(I:BK m e.L e.C e.sn e.R w rs false)(Oh:10∉rs)(hx:rs.length+x.length<=200)(hR:e.R.drop w=(bH rs x).1++z)(hw:w<=e.R.length)(hh:held.length<1000) :
  W (NQ (cN (n+15)) (lS e (w:Nat) ((w-e.sn:Nat)) (held.map j_) (sv (.str x)) pe kM j5 ph m)) λp=>p.1=.nx/\∃m' rows pe kM j5,p.2=lS e ((w+(bH rs x).1.length:Nat)) ((w+(bH rs x).1.length-e.sn:Nat)) ((held++[rows]).map j_) (sv (.str x)) pe kM j5 ph m'/\BK m' e.L e.C e.sn e.R (w+(bH rs x).1.length) (bH rs x).2 false:=by
 have oR:=o.R;have oo:=λy hy=>(o.ho y hy).1;have hc:e.C.length=e.L.length:=ET;have kl:=o.kl;have hL:e.L.length<=30:=by rw[jo];omega
 obtain⟨⟨t5,m5⟩,e5,h5,I5⟩:=Ib (n+2) (x:=x) hc hL (KN oo) I Oh (by omega) o.s3 (by omega) hR
 have LI:w+(bH rs x).1.length<=e.R.length:=by
  have:=congrArg vh hR
  rw[iR,b9]at this;omega
 generalize hr:(bH rs x).1.length=r at h5 I5 LI ⊢
 have h5:t5=_:=h5;rw[o.Zf (by omega)]at h5
 have jt:=e.sl (t:=w-e.sn) (d:=w+r-e.sn-(w-e.sn)) (by omega)
 have bZ:=o.len (l:=gu (w-e.sn) (w+r-e.sn-(w-e.sn))) (by rw[qu];omega)
 generalize hdl:(gu (w-e.sn) (w+r-e.sn-(w-e.sn))).map e.g=DL at h5 jt bZ
 obtain⟨A,tx,nu,v,IJ,_,_⟩:=I;obtain⟨A',zk,zl,v',IJ',_,_⟩:=id I5;refine dD (W.of (dz (s':=lS e (w:Nat) ((w-e.sn:Nat)) (held.map j_) (sv (.str x)) pe kM j5 ph m) (t:=.int ((w+r:Nat))) (aB (t:=.int (w:Nat)) (u:=.int (r:Nat)) rfl (Kv (l:=x) (ts:=[.str [10]]) rfl rfl (by rw[<- hr];exact XD x rs)) rfl)) ⟨rfl,?_⟩)
 refine dD (W.of (dz (s':=lS e ((w+r:Nat)) ((w-e.sn:Nat)) (held.map j_) (sv (.str x)) pe kM j5 ph m) (t:=.int ((w-e.sn:Nat))) rfl) ⟨rfl,?_⟩);have em:Ax [.int 0,.int (((w+r:Nat):Int)-(e.sn:Nat))]=some (.int ((w+r-e.sn:Nat))):=by
  show some (T.int (if((w+r:Nat):Int)-(e.sn:Nat) > 0 then((w+r:Nat):Int)-(e.sn:Nat)else 0))=_
  refine congrArg (λz=>some (T.int z)) ?_;split<;>omega
 have ea:av (cN (n+15) 47) [] (k1 zB) (lS e ((w+r:Nat)) ((w-e.sn:Nat)) (held.map j_) (sv (.str x)) (sv (.int ((w-e.sn:Nat)))) kM j5 ph m)=.ok (.int (e.sn:Nat),lS e ((w+r:Nat)) ((w-e.sn:Nat)) (held.map j_) (sv (.str x)) (sv (.int ((w-e.sn:Nat)))) kM j5 ph m):=by
  rw[<- o.mx];exact cE (ts:=[.lst (e.xs.map LD.val)]) rfl (nT (n+14) oo)
 refine dD (W.of (dz (s':=lS e ((w+r:Nat)) ((w-e.sn:Nat)) (held.map j_) (sv (.str x)) (sv (.int ((w-e.sn:Nat)))) kM j5 ph m) (t:=.int ((w+r-e.sn:Nat))) (dm (ts:=[.int 0,.int (((w+r:Nat):Int)-(e.sn:Nat))]) (aw rfl (aw (aB (t:=.int ((w+r:Nat))) (u:=.int (e.sn:Nat)) rfl ea rfl) rfl)) em)) ⟨rfl,?_⟩);refine dD (W.of (dz (s':=lS e ((w+r:Nat)) ((w+r-e.sn:Nat)) (held.map j_) (sv (.str x)) (sv (.int ((w-e.sn:Nat)))) kM j5 ph m5) (t:=t5) (mE (k:=0) (s:=lS e ((w+r:Nat)) ((w+r-e.sn:Nat)) (held.map j_) (sv (.str x)) (sv (.int ((w-e.sn:Nat)))) kM j5 ph m) rfl IJ.b rfl rfl e5)) ⟨rfl,?_⟩);rw[h5];obtain⟨s5,U0⟩:∃s:S,s=lS e ((w+r:Nat)) ((w+r-e.sn:Nat)) (held.map j_) (sv (.str x)) (sv (.int ((w-e.sn:Nat)))) (sv (.lst (DL.flatten.map T.str))) j5 ph m5:=⟨_,rfl⟩;have es:j8 (vF 7) (gW (vF 14)) (gW (vF 11)) s5=.ok (.lst (nU DL),s5):=by
  rw[U0];refine NR (t:=.lst (nU e.D)) (x:=some ((w-e.sn:Nat):Int)) (y:=some ((w+r-e.sn:Nat):Int)) rfl rfl rfl ?_;show some (T.lst (bu (nU e.D) _ _))=_;rw[jW,<- zJ,<- qr,jt]
 have ek:av (cN (n+15) 52) [] (k2 (vF 15) (av (cN (n+15) 51) [] (k1 (j8 (vF 7) (gW (vF 14)) (gW (vF 11)))))) s5=.ok (.bl true,s5):=cE (ts:=[.lst (DL.flatten.map T.str),.lst (DL.flatten.map T.str)]) (aw (by rw[U0];rfl) (aw (cE (ts:=[.lst (nU DL)]) (aw es rfl) (qk (n+14) bZ)) rfl)) (nV (n+14) bZ)
 show W (af _ _ (lS e ((w+r:Nat)) ((w+r-e.sn:Nat)) (held.map j_) (sv (.str x)) (sv (.int ((w-e.sn:Nat)))) (sv (.lst (DL.flatten.map T.str))) j5 ph m5)) _;rw[<- U0];refine dD (c8 (s':=s5) (UZ (Io ek)) ⟨_,rfl,rfl,?_⟩);obtain⟨kp,hkp⟩:∃kp:Nat,kp=w+r-(w+r-e.sn):=⟨_,rfl⟩;have e6:=Ie (n+13) I5;rw[<- hkp]at e6;rw[U0];refine dD (W.of (dz (s':=lS e ((w+r:Nat)) ((w+r-e.sn:Nat)) (held.map j_) (sv (.str x)) (sv (.int ((w-e.sn:Nat)))) (sv (.lst (DL.flatten.map T.str))) j5 ph m5) (t:=.int (kp:Nat)) (mE (k:=0) rfl IJ'.b rfl rfl e6)) ⟨rfl,?_⟩);obtain⟨s6,Ub⟩:∃s:S,s=lS e ((w+r:Nat)) ((w+r-e.sn:Nat)) (held.map j_) (sv (.str x)) (sv (.int ((w-e.sn:Nat)))) (sv (.lst (DL.flatten.map T.str))) (sv (.int (kp:Nat))) ph m5:=⟨_,rfl⟩;have et:qK (dC (tB (av (cN (n+15) 39) [] (k1 (vF 16))))) (bW (bw (aL .NotEq) (vF 16) (bw (c6 .Sub) (vF 10) (vF 11)))) s6=.ok (false,s6):=Ze (UZ (Io (cE (ts:=[.int (kp:Nat)]) (by rw[Ub];rfl) (nW (n+14) _)))) (gE (aB (t:=.int (kp:Nat)) (u:=.int (((w+r:Nat):Int)-((w+r-e.sn:Nat):Int))) (by rw[Ub];rfl) (by rw[Ub];rfl) (by rw[SQ,decide_eq_true (by omega)];rfl)))
 show W (af _ _ (lS e ((w+r:Nat)) ((w+r-e.sn:Nat)) (held.map j_) (sv (.str x)) (sv (.int ((w-e.sn:Nat)))) (sv (.lst (DL.flatten.map T.str))) (sv (.int (kp:Nat))) ph m5)) _;rw[<- Ub];refine dD (c8 (s':=s6) et ⟨_,rfl,rfl,?_⟩);rw[Ub];refine W.of (rB (i:=12) (s1:=lS e ((w+r:Nat)) ((w+r-e.sn:Nat)) (held.map j_) (sv (.str x)) (sv (.int ((w-e.sn:Nat)))) (sv (.lst (DL.flatten.map T.str))) (sv (.int (kp:Nat))) ph m5) (Dy:=held.map j_) (ts:=held.map j_) (t:=j_ DL.flatten) rfl (dm (ts:=[.lst (DL.flatten.map T.str),.lst (DL.flatten.map T.str)]) (aw rfl (aw (dm (ts:=[.lst (DL.flatten.map T.str)]) rfl rfl) rfl)) rfl) rfl (by rw[bK];omega)) ⟨rfl,m5,DL.flatten,sv (.int ((w-e.sn:Nat))),sv (.lst (DL.flatten.map T.str)),sv (.int (kp:Nat)),?_,I5⟩
 rw[d_];rfl
end
section
variable{e:LE}
theorem EV(n:Nat)(o:e.ok){ph:Option C}:∀(qs:Ap){m:FV}{rs:B1}{w:Nat}{held:List Ap}{zF pe kM j5:Option C},BK m e.L e.C e.sn e.R w rs false->10∉rs->rs.length+qs.flatten.length<=190->e.R.drop w=(bH rs qs.flatten).1++i7 (bH rs qs.flatten).2->w<=e.R.length->held.length+qs.length<=1000 ->
  W (bo (setG 13) (NQ (cN (n+15))) (qs.map T.str) (lS e (w:Nat) ((w-e.sn:Nat)) (held.map j_) zF pe kM j5 ph m)) λp=>p.1=.nx/\∃m' rs' w',∃held':List Ap,∃zF pe kM j5,p.2=lS e (w':Nat) ((w'-e.sn:Nat)) (held'.map j_) zF pe kM j5 ph m'/\BK m' e.L e.C e.sn e.R w' rs' false/\rs'.length<=190/\e.R.drop w'=i7 rs'/\w'<=e.R.length/\held'.length<=1000
 |[],m,rs,w,held,zF,pe,kM,j5,I,Oh,hl,hR,hw,hh=>⟨_,rfl,rfl,m,rs,w,held,zF,pe,kM,j5,rfl,I,hl,hR,hw,hh⟩
 |x::qs,m,rs,w,held,zF,pe,kM,j5,I,Oh,hl,hR,hw,hh=>by
  rw[cU]at hh;rw[jv,b9]at hl;rw[jv,rW]at hR;dsimp only at hR;rw[fK]at hR;obtain⟨_,k2,k3,_,_⟩:=iQ x rs Oh;refine iK (r:=(lS e (w:Nat) ((w-e.sn:Nat)) (held.map j_) (sv (.str x)) pe kM j5 ph m).r) rfl ((AV n o I Oh (by omega) hR hw (by omega)).mono λp hp=>⟨hp.1,?_⟩)
  obtain⟨_,m2,rows,b14,b15,b16,h2,I2⟩:=hp;rw[h2];have hd:=congrArg (List.drop (bH rs x).1.length) hR;rw[Ja,List.drop_left' rfl]at hd;have LI:=congrArg vh hR;rw[iR,b9]at LI;exact EV n o qs I2 k2 (by omega) hd (by omega) (by rw[b9];show _+1+_<=_;omega)
end
def wrT:T->T
 |.tup [.int a,.int b,.str w,.int c,.int d]=>.str ((LD.mk a b w c d).ln.txt++[10])
 |t=>t
def OB{ns:Dx}(hn:ns.length<=900):cN (n+16) 53 [.scr ns] []=.ok (.bl true,[]):=by
 rw[š];obtain⟨f,hf⟩:∃f,f=cellAt ns 0:=⟨_,rfl⟩;have e0:cN (n+15) 38 [.scr ns,.int 0] []=.ok (.int f,[]):=by rw[hf];exact Ij (n+14) (k:=0)
 obtain⟨fl,Zg⟩:=Classical.skolem.mp λc=>AQ (n+12) c [];obtain⟨j,hj,hj4⟩:∃j:Nat,f % 5=j/\j<=4:=⟨(f % 5).toNat,by omega,by omega⟩
 obtain⟨xs,Uc⟩:∃xs:List LD,xs=((ns.drop 1).take j).map fl:=⟨_,rfl⟩;have oo:∀x∈xs,x.ok:=λx hx=>by
  rw[Uc]at hx;obtain⟨c,_,rfl⟩:=ez.mp hx;exact(Zg c).1
 have hxl:xs.length<=4:=by rw[Uc,bK,lT];omega
 obtain⟨sn,Zh,OF,Zi⟩:=T_ oo;obtain⟨k,hk,XE⟩:∃k:Nat,(if decide (f/5 % 8=1)=true then(1:Int)else 0)*(10+f/40 % 11)=k/\k<=20:=by
  split
  ·exact⟨(10+f/40 % 11).toNat,by rw[Int.one_mul];omega,by omega⟩
  ·exact⟨0,by rw[Int.zero_mul];rfl,by decide⟩
 obtain⟨ps,⟨rR,hpl⟩,XF⟩:=vc (n+13) (ns.drop 5) [] (by rw[iR];omega)
 obtain⟨e,he⟩:∃e:LE,e=⟨ns,xs,f,(dM k [114,111,119,32,57,48,48,58,32,112,114,105,110,116,10]).flatten,k,ps,sn⟩:=⟨_,rfl⟩;have o:e.ok:=by rw[he];exact⟨Zi,Zh,OF,by show k+xs.length<=24;omega,rR,hpl⟩
 have nY:ns=e.ns:=by rw[he]
 have UJ:xs=e.xs:=by rw[he]
 have Zj:f=e.f:=by rw[he]
 have Zk:k=e.k:=by rw[he]
 have Zl:ps=e.ps:=by rw[he]
 have XG:e.F=(dM e.k [114,111,119,32,57,48,48,58,32,112,114,105,110,116,10]).flatten:=by rw[he]
 clear Zi Zh OF he rR hpl;rw[UJ]at Uc oo hxl;rw[Zj]at e0 hj hk;rw[Zk]at hk XE;rw[nY]at Uc e0 XF;rw[Zl]at XF;rw[nY];clear nY UJ Zj Zk Zl hf hn;have oR:=o.R;have okl:=o.kl;have ofl:=o.fl;have opl:=o.pl;have c1:bu e.ns (some 1) (some (1+e.f % 5))=(e.ns.drop 1).take j:=by
  have:=jW e.ns 1 (1+j)
  rw[xn]at this;rw[hj];exact this
 have Y8:((e.ns.drop 1).take j).map (λc=>(fl c).val)=e.xs.map LD.val:=by rw[Uc,du];rfl
 have s1:∀s:S,s.m=[]->vF 0 s=.ok (.scr e.ns,s)->iW [] s.r=s.r->eK (cT (j9 (j8 zA (gW zI) (gW (oA zI (oM (av (cN (n+15) 38) [] (k2 zA zO)) (cI 5)))))) 2 [] (setG 1) fQ (av (cN (n+15) 42) [] (k1 zB))) s=.ok (.lst (e.xs.map LD.val),s):=λs hm h0 hz=>by
  obtain⟨r,m⟩:=s;have hm:m=[]:=hm;subst hm;refine NS (A5 (t:=.lst (((e.ns.drop 1).take j).map T.int)) (NR (t:=.scr e.ns) (x:=some 1) (y:=some (1+e.f % 5)) h0 rfl (Y7 (aB rfl (md (cE (ts:=[.scr e.ns,.int 0]) (aw h0 rfl) e0) (by decide)) rfl)) (by show some (T.lst ((bu e.ns (some 1) (some (1+e.f % 5))).map T.int))=_;rw[c1])) rfl) (by rw[bK,lT];omega) hz ?_
  rw[<- Y8,show((e.ns.drop 1).take j).map (λc=>(fl c).val)=(((e.ns.drop 1).take j).map T.int).map (λt=>match t with|.int c=>(fl c).val|t=>t) by rw[du];rfl]
  refine cH λt ht=>?_;obtain⟨c,_,rfl⟩:=ez.mp ht;exact⟨[none,sv (.int c)],[none,sv (.int c)],rfl,cE (ts:=[.int c]) rfl (Zg c).2⟩
 refine sEq rfl rfl rfl (bS (t:=.lst (e.xs.map LD.val)) (s1 _ rfl rfl rfl) (bS (t:=.int e.f) (cE (ts:=[.scr e.ns,.int 0]) rfl e0) ?_));have e3:c6 .Mult (.str [114,111,119,32,57,48,48,58,32,112,114,105,110,116,10]) (.int (e.k:Nat))=some (.str e.F):=by
  show gd ((0<=((e.k:Nat):Int)/\((e.k:Nat):Int)<=100)/\_) (T.str (dM ((e.k:Nat):Int).toNat _).flatten)=_;rw[gQ ⟨⟨by omega,by omega⟩,by decide⟩,zK,XG]
 refine bS (t:=.str e.F) (aB (u:=.int (e.k:Nat)) rfl (aB (t:=.int (if decide (e.f/5 % 8=1)=true then 1 else 0)) (u:=.int (10+e.f/40 % 11)) (dm (ts:=[.bl (decide (e.f/5 % 8=1))]) (aw (aB (md (fd rfl (by decide)) (by decide)) rfl (rG _ _)) rfl) rfl) (aB rfl (md (fd rfl (by decide)) (by decide)) rfl) ((AM (.inr ⟨by omega,by omega⟩)).trans (by rw[hk]))) e3) ?_
 have lw:(e.xs.map λx=>x.ln.txt++[10]).flatten.length<=61*e.xs.length:=by
  have:=r8 (ls:=e.xs.map λx=>x.ln.txt) λl hl=>by
   obtain⟨x,hx,rfl⟩:=ez.mp hl;exact(Ua (oo x hx)).2
  rw[AH,du,bK]at this;exact this
 have lF:e.F.length<=300:=by
  rw[XG,Bs,qq,IK];show e.k*15<=_;omega
 refine bS (t:=oi e.L) (cE (ts:=[.str (AH (e.L.map LN.txt))]) (aw (aB (t:=.str e.F) (u:=.str (e.xs.map λx=>x.ln.txt++[10]).flatten) rfl (Kv (l:=[]) (ts:=[.lst ((e.xs.map λx=>x.ln.txt++[10]).map T.str)]) rfl (aw (NS (A5 (t:=.lst (e.xs.map LD.val)) rfl rfl) (by rw[bK];omega) rfl ?_) rfl) (join_eq (by omega))) ((KJ (by omega)).trans (by rw[XG,Oz]))) rfl) (AU n oo okl)) ?_
 ·rw[show(e.xs.map λx=>x.ln.txt++[10]).map T.str=(e.xs.map LD.val).map wrT by rw[du,du];rfl]
  refine cH λt ht=>?_;obtain⟨x,hx,rfl⟩:=ez.mp ht;exact⟨[none,sv x.val],[none,sv x.val],rfl,cE (ts:=[x.val]) rfl (rY (n+13) (oo x hx))⟩
 refine bS (t:=.lst (e.ps.map T.str)) (cE (ts:=[.lst ((e.ns.drop 5).map T.int)]) (aw (NR (t:=.scr e.ns) (x:=some 5) (y:=none) rfl rfl rfl (congrArg (λ(z:Dx)=>some (T.lst (z.map T.int))) (u6 e.ns 5))) rfl) XF) ?_;refine bS (t:=.lst (e.R.map T.str)) (cE (ts:=[.str e.ps.flatten]) (aw (Kv (l:=[]) (ts:=[.lst (e.ps.map T.str)]) rfl rfl (join_eq (by omega))) rfl) (AS (n+14) (by omega))) ?_
 refine bS (t:=.lst (nU e.D)) (NS (HD (ts:=[.int (e.R.length:Nat)]) (aw (dm (ts:=[.lst (e.R.map T.str)]) rfl (by show some (T.int ((e.R.map T.str).length:Nat))=_;rw[bK])) rfl) (Ol e.R.length (by omega))) (by rw[bK,qu];omega) rfl ?_) ?_
 ·rw[show nU e.D=((gu 0 e.R.length).map λq=>T.int (q:Nat)).map (λt=>match t with|.int i=>.lst ((e.g i.toNat).map T.str)|t=>t) by unfold LE.D;rw[nU,du,du];rfl]
  refine cH λt ht=>?_;obtain⟨q,hq,rfl⟩:=ez.mp ht;obtain⟨i,hi,rfl⟩:=xl.mp hq;exact⟨[none,sv (.int ((0+1*i:Nat))),sv (.lst (e.xs.map LD.val)),sv (.lst (e.R.map T.str))],[none,sv (.int ((0+1*i:Nat))),sv (.lst (e.xs.map LD.val)),sv (.lst (e.R.map T.str))],rfl,cE (ts:=[.lst (e.xs.map LD.val),.lst (e.R.map T.str),.int ((0+1*i:Nat))]) rfl (wQ (n+13) (by omega) o.ho (by omega))⟩
 have ea:=u3 (n+12) (m:=[]) (ES (k:=e.k) oo) (by rw[jo];omega) (EU oo)
 rw[KO,o.mx]at ea;have eb:=nT (n+14) (m:=[]) oo;rw[o.mx]at eb;refine bS (t:=.int (e.sn:Nat)) (cE (ts:=[oi e.L]) rfl ea) (bN (Ze (UZ (Io (cE (ts:=[.int (e.sn:Nat)]) rfl (nW (n+14) _)))) (gE (aB (t:=.int (e.sn:Nat)) (u:=.int (e.sn:Nat)) rfl (cE (ts:=[.lst (e.xs.map LD.val)]) rfl eb) (by rw[SQ,decide_eq_true rfl];rfl)))) ?_)
 have ei:=EM (n+11) (aQ:=e.C) (sn:=(e.sn:Nat)) (ES (k:=e.k) oo) (by rw[jo];omega) (Im oo) (EU oo) (by rw[KO,o.mx])
 refine W8 (t:=.own 0) (s':=⟨[sv (.scr e.ns),sv (.lst (e.xs.map LD.val)),sv (.int e.f),sv (.str e.F),sv (oi e.L),sv (.lst (e.ps.map T.str)),sv (.lst (e.R.map T.str)),sv (.lst (nU e.D)),sv (.int (e.sn:Nat)),none,none,none,none,none,none,none,none,none],AL (e.sn:Nat) e.L e.C⟩) (HC (ts:=[oi e.L]) (s':=⟨[sv (.scr e.ns),sv (.lst (e.xs.map LD.val)),sv (.int e.f),sv (.str e.F),sv (oi e.L),sv (.lst (e.ps.map T.str)),sv (.lst (e.R.map T.str)),sv (.lst (nU e.D)),sv (.int (e.sn:Nat)),none,none,none,none,none,none,none,none,none],[]⟩) rfl ei) ?_;have h0:((0-e.sn:Nat):Int)=0:=by rw[Jq];rfl
 refine bS (t:=.int 0) rfl (bS (t:=.int 0) rfl (bJ (W.of (a:=(Out.nx,lS e ((0:Nat)) ((0-e.sn:Nat)) (([]:List Ap).map j_) none none none none none (AL (e.sn:Nat) e.L e.C))) (by rw[h0];rfl) ⟨rfl,?_⟩)))
 refine bJ (eg (W.of (A5 (t:=.lst (e.ps.map T.str)) rfl rfl) ((EV n o e.ps (q_ e.L e.C e.R) (λz=>nomatch z) (by show 0+_<=_;omega) rfl (jz _) (by show 0+_<=_;omega)).mono λp hp=>⟨hp.1,?_⟩)))
 obtain⟨_,m,rs,w,held,zF,pe,kM,j5,VS,I,hrl,hR,hw,hh⟩:=hp;rw[VS];have hC:e.C.length=e.L.length:=ET;obtain⟨⟨t8,m8⟩,e8,h8⟩:=AK (n+2) hC (by rw[jo];omega) (KN oo) I (by omega) o.s3 (by omega) hR hw
 have h8:t8=_:=h8;rw[o.Zf (by omega)]at h8
 have jt:=e.sl (t:=w-e.sn) (d:=e.R.length-(w-e.sn)) (by omega)
 have bZ:=o.len (l:=gu (w-e.sn) (e.R.length-(w-e.sn))) (by rw[qu];omega)
 rw[Bm (by rw[iR];unfold LE.D;rw[bK,qu];omega)]at jt
 generalize (gu (w-e.sn) (e.R.length-(w-e.sn))).map e.g=DL at h8 jt bZ
 subst h8;obtain⟨A,tx,nu,v,IJ,_,_⟩:=I;have es:j8 (vF 7) (gW (vF 11)) r9 (lS e (w:Nat) ((w-e.sn:Nat)) (held.map j_) zF pe kM j5 none m8)=.ok (.lst (nU DL),lS e (w:Nat) ((w-e.sn:Nat)) (held.map j_) zF pe kM j5 none m8):=by
  refine NR (t:=.lst (nU e.D)) (x:=some ((w-e.sn:Nat):Int)) (y:=none) rfl rfl rfl ?_;show some (T.lst (bu (nU e.D) _ _))=_;rw[u6,<- zJ,jt]
 refine bJ (c8 (s':=lS e (w:Nat) ((w-e.sn:Nat)) (held.map j_) zF pe kM j5 none m8) (UZ (Io (gX (ts:=[.lst (DL.flatten.map T.str),.lst (DL.flatten.map T.str)]) (s':=lS e (w:Nat) ((w-e.sn:Nat)) (held.map j_) zF pe kM j5 none m8) (aw (mE (k:=0) rfl IJ.b rfl rfl e8) (aw (cE (ts:=[.lst (nU DL)]) (aw es rfl) (qk (n+14) bZ)) rfl)) (nV (n+14) bZ)))) ⟨_,rfl,rfl,?_⟩);obtain⟨sl,hS⟩:∃sl:Option C->Option C->S,sl=λx y=>⟨[sv (.scr e.ns),sv (.lst (e.xs.map LD.val)),sv (.int e.f),sv (.str e.F),sv (oi e.L),sv (.lst (e.ps.map T.str)),sv (.lst (e.R.map T.str)),sv (.lst (nU e.D)),sv (.int (e.sn:Nat)),sv (.own 0),sv (.int (w:Nat)),sv (.int ((w-e.sn:Nat))),sv (.lst (held.map j_)),zF,pe,x,j5,y],m8⟩:=⟨_,rfl⟩;refine bJ (eg (W.of (a:=(held.map j_,sl kM none)) (by rw[hS];rfl) ((Hz (I:=λs=>∃x y,s=sl x y) (λt ht s hI=>?_) ⟨kM,none,rfl⟩).mono λp hp=>⟨hp.1,?_⟩)))
 ·obtain⟨x,y,rfl⟩:=hI
  obtain⟨l,_,rfl⟩:=ez.mp ht;refine⟨(sl (sv (.lst (l.map T.str))) (sv (.lst (l.map T.str)))).r,by rw[hS];rfl,?_⟩
  rw[hS];exact c8 (gE (aB (t:=.lst (l.map T.str)) (u:=.lst (l.map T.str)) rfl rfl (Ow l))) ⟨_,rfl,rfl,_,_,rfl⟩
 ·obtain⟨_,x,y,hp⟩:=hp
  rw[hp];exact bR rfl rfl
end K42
namespace K42
open PySem D L2
variable(n:Nat){m:List _root_.D.Ob}
set_option maxHeartbeats 0
def Ip:∀P,NK (KH.K P) M Ft It=true:=λP=>by kernel_rfl
def Iq:∀P,M.cs.all (Hv (KH.K P))=true:=λP=>by kernel_rfl
def Ir:∀P,Ft.map (Kp (KH.K P))=Ft.map λe=>(Kp (KH.K P) e).map (D9 e):=λP=>by kernel_rfl
set_option maxHeartbeats 0
def Zm:List Fe->Prop
 |[]=>True
 |e::r=>Bn e/\Zm r
theorem KQ:∀{l:List Fe},Zm l->∀e∈l,Bn e
 |e::r,h,x,hx=>by
  rcases cA.mp hx with z|z
  ·rw[z];exact h.1
  ·exact KQ h.2 x z
def Zn{P:B2->Prop}(h:P []):∀us:B2,us.length=0->P us
 |[],_=>h
 |_::_,e=>by cases e
def Ud{n:Nat}{P:B2->Prop}(h:∀a,∀us:B2,us.length=n->P (a::us)):∀us:B2,us.length=n+1->P us
 |[],e=>by cases e
 |a::us,e=>h a us (qv.inj e)
def Zo{P:B2->Prop}(h:∀a,P [a]):∀us:B2,us.length=1->P us:=Ud λa=>Zn (h a)
def Zp{P:B2->Prop}(h:∀a b,P [a,b]):∀us:B2,us.length=2->P us:=Ud λa=>Zo (h a)
def Zq{P:B2->Prop}(h:∀a b c,P [a,b,c]):∀us:B2,us.length=3->P us:=Ud λa=>Zp (h a)
def Zr{P:B2->Prop}(h:∀a b c d,P [a,b,c,d]):∀us:B2,us.length=4->P us:=Ud λa=>Zq (h a)
def lz5{P:B2->Prop}(h:∀a b c d e,P [a,b,c,d,e]):∀us:B2,us.length=5->P us:=Ud λa=>Zr (h a)
def AW:Bn ⟨none,"stretch","stretch",top 63,["one","row","start","ends","begin"],["one","row","start"],[],true,[.int 0]⟩:=λ_ _ _ _ _ _ s a o gf n us ho hd hl FQ=>by
 obtain⟨d,rfl⟩:=List.length_eq_one_iff.mp (show gf.length=1 from hl);have h:(us++[d]).length=3:=FQ;rw[b9]at h
 match us,qv.inj h with
 |x::us,h=>
  match us,qv.inj h with
  |y::us,h=>
   cases List.eq_nil_of_length_eq_zero (qv.inj h);exact .of_defaults rfl ho hd rfl rfl
def bn:∀e∈Ft,Bn e:=KQ (by
 repeat' first|exact trivial|refine And.intro ?_ ?_
 all_goals first|exact λ_ _ _ _ _ _=>Zn rfl|exact λ_ _ _ _ _ _=>Zo λ_=>rfl|exact λ_ _ _ _ _ _=>Zp λ_ _=>rfl|exact λ_ _ _ _ _ _=>Zq λ_ _ _=>rfl|exact λ_ _ _ _ _ _=>Zr λ_ _ _ _=>rfl|exact λ_ _ _ _ _ _=>lz5 λ_ _ _ _ _=>rfl|exact AW)
end K42
end
open PySem PySem.W PyProof.Rows
set_option maxRecDepth 100000 in
set_option maxHeartbeats 0 in
theorem PySem.Challenge.cw_rowblade_k42_given_in_time_holds : PySem.Challenge.rw_rowblade_k42_given_in_time.Holds := by
 w_on
 refine holds_law (by
  unfold OpenLaw.wellSaid OpenRow.wellSaid OpenRow.partSaid looksOpen
  repeat' (with_reducible refine look_both ?_ ?_)
  all_goals decide +kernel) λnQ=>?_
 refine holds_open (q:=KH.vw) (loose:=KH.lz) (Xt:=KH.Xt) (XP:=XL KH.vw []) (Yf:=Hook.obs (kHook KH.K KH.as KH.OI)) (Ya:=Hook.val (kHook KH.K KH.as KH.OI)) (YP:=Hook.says (kHook KH.K KH.as KH.OI)) (N:=23776) KH.left (Hook.of (kHook KH.K KH.as KH.OI)) (Hook.keeps (kHook KH.K KH.as KH.OI)) (λs e=>xl_of s (Bool.and_eq_true_iff.mp e).1) XL.keeps (by rfl) (by rfl) (by rfl) (λs e=>recFacts_of (Bool.and_eq_true_iff.mp e).2) (by rfl) (by first|assumption|decide +kernel) (by decide +kernel) ⟨rfl,rfl,rfl,rfl,rfl,by decide +kernel⟩ ?hw ?hc
 (case hw=>w_witness2)
 k_fill
 refine _root_.D.Sm (l:=PySem.Challenge.rw_rowblade_k42_given_in_time) (m:=63) (n:=16) (K:=KH.K) (M:=K42.M) (Ft:=K42.Ft) (It:=K42.It) (i:=53) rfl (by decide) rfl ⟨rfl,by decide,by decide⟩ (λw h Y=>PySem.W.kIn_of Y) rfl rfl rfl rfl rfl (λP=>⟨⟨K42.Ip P,K42.Ir P,K42.bn⟩,K42.Iq P⟩) λns hn _=>⟨[],K42.OB 0 (Nat.le_trans hn (by decide))⟩
