import PyProof.Rows.All
import Wide.All
import OpenK.AllK
import Wide.FinOn
import Lean
import PyProof.EqAt
import PyProof.EqKinds
import PyProof.TupleCall
import PyProof.Rows.EnumRows
import PyProof.EnumMake
import KE.KIntText
import KE.KEqDict
import PyProof.DictValues
import PyProof.TupleOfGen
import PyProof.CollectIter
import KE.KRevIter
import PyProof.Rows.SumAny
import PyProof.MinMaxWalk
import PyProof.WalkInts
import PySem.Challenge.RW_rowblade_k46_blades_side_by_side
set_option Elab.async false
set_option linter.all false
set_option maxRecDepth 100000
set_option compiler.extract_closed false
noncomputable section
abbrev Ap:=List (List Nat)
abbrev Bi:=List Nat
abbrev Bz:=List PySem.Value
abbrev BM:=List PySem.Str
abbrev D1:=List PySem.Expr
abbrev D2:=List PySem.Addr
abbrev Dx:=Option PySem.Value
abbrev Ee:=Option Int
abbrev Fh:=List Int
abbrev Fs:=List PySem.Stmt
abbrev FC:=List Bool
namespace Z0
end Z0
open PySem.W renaming Frag→bD,findIn→ir,kia_one→mz,nsIn→oJ,emptyDict→qD,instObj→sC,keepIn→sD,kitOne→sE,fnOf→zb,plainGet→AO,isFn→AQ,lookIn→Fi,hasDictIn→Fj,methodObj→AR,plainGet_of→AS,plainOver→AU,takerIn→AV,makesIn→AW,specialIn→AX,takesIn→AY,mroIn→AZ,callWith_K→A0,codeIn→A1,handedIn→Jf,kitx_list→Jg,kitx_dict→Jh,callWith_K0→Ji,methodCall_KW→Jj,cellsFrom_some→Jk,callWith_of→Jl,Dflts→Jm
open Nat renaming le_refl→bV,ne_of_lt→fG,le_trans→fK,lt_of_lt_of_le→gP,zero_le→jb,lt_irrefl→lG,sub_self→lH,succ→lI,le_succ→oK,lt_succ_self→vj,le_of_eq→zc,le_add_right→A2,ne_of_gt→Fl,min_self→wY,le_of_lt→A3,succ_mul→A4,lt_succ_of_lt→A5,zero_add→A6,min_eq_left→A7,le_of_succ_le→Jo,add_sub_cancel_left→Jp,mul_le_mul→Jq
open List renaming length_map→b_,getElem?_eq_some_iff→c_,length_append→dg,length_cons→eT,mem_cons_self→fY,mem_cons→gh,mem_cons_of_mem→bW,replicate→bX,getElem?_set_self→cj,range→cP,size_toArray→cQ,getElem?_set_ne→cT,append_nil→dc,map_cons→dZ,prefix_rfl→d_,all_cons→eU,getElem?_append_right→e_,length_set→fh,getElem?_eq_getElem→fj,getElem?_map→fZ,getElem?_append_left→gi,append_assoc→gQ,map_map→gR,mem_singleton→iu,mem_map→jc,mem_append_right→jt,lookup_cons→ju,map_append→jv,all_eq_true→jw,mem_of_getElem?→jT,length_range→jU,not_mem_nil→jV,zip_cons_cons→jW,lookup→lJ,nodup_cons→lK,nil_append→lL,flatten→lM,length_singleton→oN,length_zip→oO,any_cons→qE,mem_append→sF,replicate_succ→sG,set→sH,length_replicate→vm,length_drop→vn,flatten_cons→vo,map_congr_left→vq,range'→vt,foldl_cons→zd,getD_eq_getElem?_getD→ze,find?_cons→zf,ext_getElem?→zj,drop_eq_getElem_cons→zk,getElem?_replicate→A8,map→A9,length_nil→A_,drop_length→Ba,length_reverse→Bb,Pairwise→Bc,mem_range→Fo,map_nil→Fp,forIn_cons→Fq,getElem?_range→Fv,range_succ_eq_map→wZ,drop_zero→w_,take_of_length_le→xf,prefix_append→xg,reverse_cons→xh,getElem?_eq_none→xj,isEmpty_iff→xl,filterMap_cons→Bd,mem_filterMap→Be,of_mem_zip→Bf,length→Bg,length_take→Bh,foldl→Bj,any_eq_true→Bk,map_drop→Bl,sum_cons→Bm,nodup_append→Bo,cons_append→Bp,contains_iff_mem→Bq,take→Br,set_append_right→Bs,append_cons→Bt,mem_filter→Jr,mem_append_left→Js,all_map→Jt,any_map→Ju,take_append_drop→Jv,idxOf?→Jw,findIdx?_eq_some_iff_getElem→Jx,length_eq_zero_iff→Jy,all_nil→Jz,getElem?_reverse→JA,getElem?_eq_none_iff→JB,range'_succ→JC,take_succ_cons→JD,replicate_succ'→JE,range_eq_range'→JF,flatMap_append→JG,getElem_map→JH,drop_eq_nil_of_le→JI,length_range'→JJ
open Bool renaming and_eq_true→dh,false_ne_true→fL,true_and→vv,false_eq_true→vz,and_eq_true_iff→xm,false_and→Bu,and_true→Bv,or_false→JK,false_or→JL,and_false→JM,eq_iff_iff→JN,eq_false_or_eq_true→JO,or_eq_true→JP,not_true→JQ
open Option renaming bind_eq_some_iff→dM,map_eq_some_iff→cz,some→jX,isSome_map→Bw,isSome_iff_exists→JR,getD_none→JS,none→JT,or_eq_some_iff→JU,map_some→JV
open Int renaming ofNat→lN,zero_add→zm,toNat_natCast→Bx,emod_nonneg→By,mul_assoc→BA,emod_lt_of_pos→JW,natCast_mul→JX
open PyProof.Rows renaming callWith_type1→zo,boot_list→zp,boot_isinstance→BB,boot_reversed→JY,recsOf→JZ,drecsOf→J0,boot_enumerate→J1,evalArgs_kw2→J2,boot_str→J3,boot_int→J4,envOfC→J5,boot_max→J7
namespace Z1
end Z1
abbrev dm:=List (PySem.Addr×PySem.Obj)
abbrev df(x:PySem.Str):Prop:=(x == ("__debug__":PySem.Str))=false
abbrev kB(x:PySem.Str):Prop:=(x == ("__classdict__":PySem.Str))=false
namespace L2
open PySem PySem.Spec PyProof.Rows
abbrev Key:=Sum Int Str
def pJ:Key->Value->Bool
 |.inl k,v=>Value.isInt k v
 |.inr x,v=>Value.isStrOf x v
def Vw(w:World):Key->Int
 |.inl k=>hashInt k
 |.inr x=>hashStr w x
def bT:∀{k:Key}{v:Value},pJ k v=true->(∃i t,k=Sum.inl i/\v=Value.int i t)\/(∃x t,k=Sum.inr x/\v=Value.str x t)
 |.inl i,v,h=>by
  obtain⟨t,e⟩:=Value.isInt_shape (k:=i) (v:=v) h;exact .inl ⟨i,t,rfl,e⟩
 |.inr x,v,h=>by
  obtain⟨t,e⟩:=Value.isStrOf_shape (x:=x) (v:=v) h;exact .inr ⟨x,t,rfl,e⟩
def zq(i:Int)(t:Tok):pJ (.inl i) (.int i t)=true:=by simp[pJ,Value.isInt]
def zt(x:Str)(t:Tok):pJ (.inr x) (.str x t)=true:=by simp[pJ,Value.isStrOf]
def Lm(a b:Int):decide ((Sum.inl a:Key)=Sum.inl b)=(a == b):=by
 by_cases e:a=b
 ·subst e;simp
 ·have h:¬ (Sum.inl a:Key)=Sum.inl b:=λq=>e (Sum.inl.inj q)
  rw[decide_eq_false h];exact(beq_eq_false_iff_ne.mpr e).symm
def Ln(a b:Str):decide ((Sum.inr a:Key)=Sum.inr b)=decide (a=b):=by
 by_cases e:a=b
 ·subst e;simp
 ·have h:¬ (Sum.inr a:Key)=Sum.inr b:=λq=>e (Sum.inr.inj q)
  rw[decide_eq_false h,decide_eq_false e]
def Lo(a:Int)(b:Str):decide ((Sum.inl a:Key)=Sum.inr b)=false:=decide_eq_false (λq=>nomatch q)
def Lp(a:Str)(b:Int):decide ((Sum.inr a:Key)=Sum.inl b)=false:=decide_eq_false (λq=>nomatch q)
def bj(prog:Program)(w:World):PySem.KeyKind prog w Key where
 is:=pJ
 hash:=Vw w
 inj:=λv a b ha hb=>by
  rcases bT ha with⟨i,t,rfl,rfl⟩|⟨x,t,rfl,rfl⟩
  ·rcases bT hb with⟨j,u,rfl,e⟩|⟨y,u,rfl,e⟩
   ·injection e with e1 _;rw[e1]
   ·exact nomatch e
  ·rcases bT hb with⟨j,u,rfl,e⟩|⟨y,u,rfl,e⟩
   ·exact nomatch e
   ·injection e with e1 _;rw[e1]
 byValue:=λk v h=>by
  rcases bT h with⟨i,t,rfl,rfl⟩|⟨x,t,rfl,rfl⟩<;>rfl
 pyHash:=λhv h=>by
  rcases bT hv with⟨i,t,rfl,rfl⟩|⟨x,t,rfl,rfl⟩
  ·exact wpAny_pyHash_int h
  ·exact wpAny_pyHash_str h
 eqBool:=λhu hv h=>by
  rcases bT hu with⟨i,t,rfl,rfl⟩|⟨x,t,rfl,rfl⟩
  ·rcases bT hv with⟨j,u,rfl,rfl⟩|⟨y,u,rfl,rfl⟩
   ·rw[Lm]at h;exact wpAny_eqBool_int h
   ·rw[Lo]at h;exact SeqAt.EqAt.int_str i t y u _ _ _ _ h
  ·rcases bT hv with⟨j,u,rfl,rfl⟩|⟨y,u,rfl,rfl⟩
   ·rw[Lp]at h;exact SeqAt.EqAt.str_int x t j u _ _ _ _ h
   ·rw[Ln]at h;exact wpAny_eqBool_str h
 «strs»:=λk x t v h=>by
  rcases bT h with⟨i,u,rfl,e⟩|⟨y,u,rfl,e⟩
  ·exact nomatch e
  ·injection e with e1 _
   subst e1;cases v<;>rfl
def sI(prog:Program)(w:World)(i:Int)(t:Tok):(bj prog w).is (.inl i) (.int i t)=true:=zq i t
def sJ(prog:Program)(w:World)(x:Str)(t:Tok):(bj prog w).is (.inr x) (.str x t)=true:=zt x t
inductive V where
 |non|bl (b:Bool)|int (i:Int)|str (x:Str)|byt (b:Array UInt8)|flt (b:UInt64)|ref (a:Addr)|ty (n:String)
 deriving DecidableEq
def RelV:V->Value->Prop
 |.non,u=>u=Value.none
 |.bl b,u=>u=Value.bool b
 |.int i,u=>∃t,u=Value.int i t
 |.str x,u=>∃t,u=Value.str x t
 |.byt b,u=>∃t,u=Value.bytes b t
 |.flt b,u=>∃t,u=Value.float b t
 |.ref a,u=>u=Value.ref a
 |.ty n,u=>u=Value.type n
abbrev Vals:List V->Bz->Prop:=Paired RelV
theorem Vals.length{xs:List V}{us:Bz}(r:Vals xs us):xs.length=us.length:=Paired.length r
theorem Vals.get:∀{xs:List V}{us:Bz}{i:Nat}{x:V},Vals xs us->xs[i]?=some x->∃u,us[i]?=some u/\RelV x u
 |_,_,_,_,.nil,e=>by simp at e
 |_,_,0,_,.cons r _,e=>by simp at e;subst e;exact⟨_,rfl,r⟩
 |_,_,i+1,x,.cons _ t,e=>by
  obtain⟨u,h1,h2⟩:=Vals.get (i:=i) (x:=x) t (by simpa using e)
  exact⟨u,by simpa using h1,h2⟩
theorem Vals.set{x:V}{u:Value}(r:RelV x u):∀{xs:List V}{us:Bz}(i:Nat),Vals xs us->Vals (xs.set i x) (us.set i u)
 |_,_,_,.nil=>.nil
 |_,_,0,.cons _ t=>.cons r t
 |_,_,i+1,.cons q t=>.cons q (Vals.set r i t)
theorem Vals.append:∀{xs ys:List V}{us ws:Bz},Vals xs us->Vals ys ws->Vals (xs++ys) (us++ws)
 |_,_,_,_,.nil,s=>s
 |_,_,_,_,.cons r t,s=>.cons r (Vals.append t s)
theorem Vals.take:∀{xs:List V}{us:Bz}(n:Nat),Vals xs us->Vals (xs.take n) (us.take n)
 |_,_,0,_=>.nil
 |_,_,_+1,.nil=>.nil
 |_,_,n+1,.cons r t=>.cons r (Vals.take n t)
theorem Vals.drop:∀{xs:List V}{us:Bz}(n:Nat),Vals xs us->Vals (xs.drop n) (us.drop n)
 |_,_,0,r=>r
 |_,_,_+1,.nil=>.nil
 |_,_,n+1,.cons _ t=>Vals.drop n t
def iw:Option V->Dx->Prop
 |some v,some u=>RelV v u
 |none,none=>True
 |_,_=>False
def KV{κ:Type}:List (κ×V)->List (κ×Value)->Prop:=Paired λ(p:κ×V) (q:κ×Value)=>p.1=q.1/\RelV p.2 q.2
def kV:Key->V
 |.inl i=>.int i
 |.inr x=>.str x
inductive HO where
 |lst (xs:List V)
 |tup (xs:List V)
 |dK (aE:List (Key×V))|dT (aE:List (List Key×V))
 |set (S:Int->Bool) (n:Nat)
 |ins (C dx:Addr) (fs:List (Str×V))
 |own (x:Addr)
 |xd (fs:List (Str×V))
 |met (f x:Addr)
 |i0 (lo hi:Int)
 |i6 (o:Obj) (u:HO)
 |tbl (ps:Array Value)
 |ext (φ:Heap->Prop)
abbrev Hp:=Addr->Option HO
def upd(H:Hp)(a:Addr)(o:HO):Hp:=λb=>if b=a then some o else H b
def ai{H:Hp}{a:Addr}{o:HO}:upd H a o a=some o:=by unfold upd;rw[if_pos rfl]
def aq{H:Hp}{a b:Addr}{o:HO}(h:b≠a):upd H a o b=H b:=by unfold upd;rw[if_neg h]
def xn{H:Hp}{a:Addr}{o u:HO}:upd (upd H a o) a u=upd H a u:=by
 funext b;unfold upd;split<;>rfl
def PB{H:Hp}{a b:Addr}{o u:HO}(h:H a=some o)(h':H b=some u)(d:o≠u):a≠b:=by
 intro e;subst e;rw[h]at h';exact d (jX.inj h')
def aL{H:Hp}{a b:Addr}{o:HO}(h:H a=some o)(h':H b=none):a≠b:=by
 intro e;subst e;rw[h]at h';cases h'
section
variable(P:Program)(w:World)
def ck(H:Hp)(h:Heap)(a:Addr):HO->Prop
 |.lst xs=>xs.length<=sizeLine/\∃(aF:Bz)(n:Nat),Vals xs aF/\h.get? a=some {cls:=.type "list",data:=.seq aF.toArray n}
 |.tup xs=>xs.length<=sizeLine/\∃aF:Bz,Vals xs aF/\IsTup h a aF.toArray
 |.dK aE=>aE.length<=sizeLine/\(a == sysModules)=false/\∃vs,KV aE vs/\h.DictOf (bj P w) a vs
 |.dT aE=>aE.length<=sizeLine/\(a == sysModules)=false/\∃xs:List (List Key×Addr×Value),
   Paired (λ(p:List Key×V) (q:List Key×Addr×Value)=>p.1=q.1/\H q.2.1=some (.tup (p.1.map kV))/\RelV p.2 q.2.2) aE xs /\
   ∃o es ep,h.get? a=some o/\o.ExactDict/\o.data=.dict es ep/\es.toList=xs.map (entryOfKey (tupleKind (bj P w)))/\(xs.map (·.1)).Nodup
 |.set S n=>h.SetOf (intKind P w) a S n
 |.ins C dx fs=>H dx=some (.own a)/\fs.length<=1000/\dx≠a/\h.get? a=some (sC C dx) /\
   ∃mA,h.Ns1 dx mA/\(∀f,iw (fs.lookup f) (mA f))/\PySem.Within mA (fs.map (·.1))
 |.own _=>∃o,h.get? a=some o
 |.xd fs=>∃mA,h.Ns1 a mA/\∀f,iw (fs.lookup f) (mA f)
 |.i0 lo hi=>∃t u v,h.get? a=some {cls:=.type "range",data:=.fields #[.int lo t,.int hi u,.int 1 v]}
 |.i6 o u=>h.get? a=some o/\ck H h a u
 |.tbl ps=>h.get? a=some {cls:=.none,data:=.fields ps}
 |.met f x=>h.get? a=some (AR (.ref f) (.ref x))
 |.ext φ=>φ h/\(∃o,h.get? a=some o)/\∀h1 h2:Heap,φ h1->(∀o,h1.get? a=some o->h2.get? a=some o)->φ h2
def jO(H:Hp)(h:Heap):Prop:=∀a o,H a=some o->ck P w H h a o
end
variable{C a dx f x:Addr}{A:Around}{b e o:Expr}{h h':Heap}{H H':Hp}{ae:dm}{es:D1}{p pos:Pos}{P:Program}{s:Shared}{E:Value->Shared->Prop}{w:World}
section
variable{o:HO}
theorem ck.lt(x:ck P w H h a o):a<h.objs.size:=by
 cases o with
 |lst xs=>obtain⟨_,_,_,_,e⟩:=x;exact Heap.lt_size e
 |tup xs=>obtain⟨_,_,_,p⟩:=x;exact p.lt
 |dK aE=>obtain⟨_,_,_,_,o,_,_,e,_⟩:=x;exact Heap.lt_size e
 |dT aE=>obtain⟨_,_,_,_,o,_,_,e,_⟩:=x;exact Heap.lt_size e
 |set S n=>obtain⟨o,_,_,_,e,_⟩:=x;exact Heap.lt_size e
 |ins C dx fs=>obtain⟨_,_,_,e,_⟩:=x;exact Heap.lt_size e
 |own y=>obtain⟨_,e⟩:=x;exact Heap.lt_size e
 |xd fs=>obtain⟨_,⟨_,_,_,e,_⟩,_⟩:=x;exact Heap.lt_size e
 |i0 lo hi=>obtain⟨_,_,_,e⟩:=x;exact Heap.lt_size e
 |i6 ob u=>obtain⟨e,_⟩:=x;exact Heap.lt_size e
 |tbl ps=>exact Heap.lt_size (show h.get? a=some _ from x)
 |met f y=>exact Heap.lt_size (show h.get? a=some _ from x)
 |ext φ=>obtain⟨_,⟨_,e⟩,_⟩:=x;exact Heap.lt_size e
theorem Paired.Lq{α β:Type}{F G:α->β->Prop}:∀{l₁:List α}{l₂:List β},Paired F l₁ l₂->(∀a b,F a b->G a b)->Paired G l₁ l₂
 |_,_,.nil,_=>.nil
 |_,_,.cons r t,f=>.cons (f _ _ r) (Paired.Lq t f)
def ck.qF(x:ck P w H h a o)(k:∀b u,(b=a\/H b=some (.own a))->h.get? b=some u->h'.get? b=some u)
  (ho:∀b,H b=some (.own a)->H' b=some (.own a)) (ht:∀b xs,H b=some (.tup xs)->H' b=some (.tup xs)):ck P w H' h' a o:=by
 induction o with
 |lst xs=>obtain⟨z,aF,n,r,e⟩:=x;exact⟨z,aF,n,r,k _ _ (.inl rfl) e⟩
 |tup xs=>obtain⟨z,aF,r,ob,e,c⟩:=x;exact⟨z,aF,r,ob,k _ _ (.inl rfl) e,c⟩
 |dK aE=>obtain⟨z,y,vs,r,ob,es,ep,e,c⟩:=x;exact⟨z,y,vs,r,ob,es,ep,k _ _ (.inl rfl) e,c⟩
 |dT aE=>
  obtain⟨z,y,xs,r,ob,es,ep,e,c⟩:=x;exact⟨z,y,xs,Paired.Lq r λp q z=>⟨z.1,ht _ _ z.2.1,z.2.2⟩,ob,es,ep,k _ _ (.inl rfl) e,c⟩
 |set S n=>obtain⟨ob,es,ep,t,e,c⟩:=x;exact⟨ob,es,ep,t,k _ _ (.inl rfl) e,c⟩
 |ins C dx fs=>
  obtain⟨d,z,ne,e,mA,⟨od,es,ep,e2,c⟩,r⟩:=x;exact⟨ho _ d,z,ne,k _ _ (.inl rfl) e,mA,⟨od,es,ep,k _ _ (.inr d) e2,c⟩,r⟩
 |own y=>obtain⟨ob,e⟩:=x;exact⟨ob,k _ _ (.inl rfl) e⟩
 |xd fs=>obtain⟨mA,⟨od,es,ep,e,c⟩,r⟩:=x;exact⟨mA,⟨od,es,ep,k _ _ (.inl rfl) e,c⟩,r⟩
 |i0 lo hi=>obtain⟨t,u,v,e⟩:=x;exact⟨t,u,v,k _ _ (.inl rfl) e⟩
 |i6 ob u ih=>obtain⟨e,q⟩:=x;exact⟨k _ _ (.inl rfl) e,ih q⟩
 |tbl ps=>
  have e:h.get? a=some {cls:=.none,data:=.fields ps}:=x;show h'.get? a=some {cls:=.none,data:=.fields ps};exact k a _ (.inl rfl) e
 |met f y=>
  have e:h.get? a=some (AR (.ref f) (.ref y)):=x;show h'.get? a=some (AR (.ref f) (.ref y));exact k a _ (.inl rfl) e
 |ext φ=>obtain⟨p,⟨o,e⟩,st⟩:=x;exact⟨st _ _ p λo q=>k _ _ (.inl rfl) q,⟨o,k _ _ (.inl rfl) e⟩,st⟩
theorem jO.lt(x:jO P w H h)(e:H a=some o):a<h.objs.size:=(x a o e).lt
def jO.fresh(x:jO P w H h)(e:h.objs.size<=a):H a=none:=by
 cases q:H a with
 |none=>rfl
 |some u=>exact absurd (gP (x.lt q) e) (lG _)
def jO.kept(x:jO P w H h)(k:∀b u,h.get? b=some u->h'.get? b=some u):jO P w H h':=λa o e=>
 (x a o e).qF (λb u _ q=>k b u q) (λ_ q=>q) λ_ _ q=>q
def jO.laid(x:jO P w H h)(k:∀b u,h.get? b=some u->h'.get? b=some u)(hp:h.objs.size<=a)(new:ck P w (upd H a o) h' a o):jO P w (upd H a o) h':=λb u e=>by
 have hn:=x.fresh hp;by_cases hb:b=a
 ·subst hb;rw[ai]at e;cases e;exact new
 ·rw[aq hb]at e
  exact(x b u e).qF (λc v _ q=>k c v q) (λc q=>by rw[aq (aL q hn)];exact q) λc xs q=>by rw[aq (aL q hn)];exact q
end
def Rd(H:Hp)(a:Addr)(u:HO):Prop:=H a=some u\/∃o,H a=some (.i6 o u)
def Rd.ok{P:Program}{w:World}{H:Hp}{h:Heap}{a:Addr}{u:HO}(r:Rd H a u)(x:jO P w H h):ck P w H h a u:=by
 rcases r with r|⟨o,r⟩
 ·exact x a u r
 ·obtain⟨_,q⟩:=x a _ r
  exact q
def PD:Option HO->Prop
 |some (.lst _)=>True
 |some (.dK _)=>True
 |some (.dT _)=>True
 |some (.set _ _)=>True
 |some (.ins _ _ _)=>True
 |some (.ext _)=>True
 |_=>False
section
variable{e:Addr}{o':HO}
def jO.write(ok:jO P w H h)(mu:PD (H x))(he:e=x\/H e=some (.own x))(k:∀b u,b≠e->h.get? b=some u->h'.get? b=some u)(O6:∃u,h'.get? e=some u)
  (new:ck P w (upd H x o') h' x o'):jO P w (upd H x o') h':=λb u q=>by
 have PF:∀c y,H c=some (.own y)->c≠x:=λc y r z=>by subst z;rw[r]at mu;exact mu
 have Vx:∀c xs,H c=some (.tup xs)->c≠x:=λc xs r z=>by subst z;rw[r]at mu;exact mu
 by_cases hb:b=x
 ·subst hb;rw[ai]at q;cases q;exact new
 ·rw[aq hb]at q
  by_cases hbe:b=e
  ·have q':H b=some (.own x):=by
    rcases he with z|z
    ·exact absurd (hbe.trans z) hb
    ·rw[hbe];exact z
   rw[q]at q';cases q';obtain⟨v,hv⟩:=O6;exact⟨v,by rw[hbe];exact hv⟩
  ·refine(ok b u q).qF (λc v hc r=>k c v ?_ r) (λc r=>by rw[aq (PF c b r)];exact r) λc xs r=>by rw[aq (Vx c xs r)];exact r
   rcases hc with rfl|hc
   ·exact hbe
   ·rintro rfl
    rcases he with z|z
    ·exact PF c b hc z
    ·rw[hc]at z;cases z;exact hb rfl
end
structure Un(fs ex:D2)(H H':Hp)(h h':Heap):Prop where
 keep:∀b o,h.get? b=some o->H b=none->b∉fs->b∉ex->h'.get? b=some o
 slot:∀b o,h.get? b=some o->H b=none->b∈fs->b∉ex->∃sl,h'.get? b=some {o with slots:=sl}
 free:∀b o,h.get? b=some o->H b=none->b∉ex->H' b=none
 there:∀b o,h.get? b=some o->b∉ex->∃o',h'.get? b=some o'
 oQ:∀b xs,H b=some (.tup xs)->H' b=some (.tup xs)
 mC:∀b o u,H b=some (.i6 o u)->H' b=some (.i6 o u)
 oR:∀b ps,H b=some (.tbl ps)->∃more,H' b=some (.tbl (ps++more))
section
variable{fs pK ex ex':D2}{H1 H2:Hp}{h1 h2:Heap}{e:Addr}{o:HO}
def Un.any(u:Un fs ex H H1 h h1){b:Addr}{ob:Obj}(q:h.get? b=some ob)(n:H b=none)(hx:b∉ex):∃sl,h1.get? b=some {ob with slots:=sl}:=by
 by_cases hb:b∈fs
 ·exact u.slot b ob q n hb hx
 ·exact⟨ob.slots,u.keep b ob q n hb hx⟩
def Un.kept(k:∀b u,h.get? b=some u->h'.get? b=some u):Un fs ex H H h h':=
 ⟨λb ob q _ _ _=>k b ob q,λb ob q _ _ _=>⟨ob.slots,k b ob q⟩,λ_ _ _ n _=>n,λb ob q _=>⟨ob,k b ob q⟩,λ_ _ q=>q,λ_ _ _ q=>q,λ_ ps q=>⟨#[],by rw[q];simp⟩⟩
def Un.refl:Un fs ex H H h h:=Un.kept λ_ _ q=>q
def Un.laid(k:∀b u,h.get? b=some u->h'.get? b=some u)(hp:h.objs.size<=a)(hn:H a=none):Un fs ex H (upd H a o) h h' where
 keep:=λb u q _ _ _=>k b u q
 slot:=λb u q _ _ _=>⟨u.slots,k b u q⟩
 free:=λb u q n _=>by rw[aq (fG (gP (Heap.lt_size q) hp))];exact n
 there:=λb u q _=>⟨u,k b u q⟩
 oQ:=λb xs q=>by rw[aq (aL q hn)];exact q
 mC:=λb u xs q=>by rw[aq (aL q hn)];exact q
 oR:=λb ps q=>⟨#[],by rw[aq (aL q hn),q];simp⟩
def Un.write(mu:PD (H x))(he:e=x\/H e=some (.own x))(k:∀b u,b≠e->h.get? b=some u->h'.get? b=some u)(O6:∃u,h'.get? e=some u):Un fs ex H (upd H x o) h h':=by
 have hx:∀b,H b=none->b≠x:=λb n z=>by subst z;rw[n]at mu;exact mu
 have hb:∀b,H b=none->b≠e:=λb n z=>by
  subst z;rcases he with r|r
  ·exact hx b n r
  ·rw[n]at r;cases r
 have hm:∀b u,H b=some u->¬ PD (some u)->b≠x:=λb u q nm z=>by subst z;rw[q]at mu;exact nm mu
 refine⟨λb u q n _ _=>k b u (hb b n) q,λb u q n _ _=>⟨u.slots,k b u (hb b n) q⟩,λb u q n _=>by rw[aq (hx b n)];exact n,λb u q _=>?_,
  λb xs q=>by rw[aq (hm b _ q λz=>z)];exact q,λb u xs q=>by rw[aq (hm b _ q λz=>z)];exact q,λb ps q=>⟨#[],by rw[aq (hm b _ q λz=>z),q];simp⟩⟩
 by_cases hbe:b=e
 ·subst hbe;exact O6
 ·exact⟨u,k b u hbe q⟩
end
def UE(h:Heap)(H:Hp):D2:=(cP h.objs.size).filter λa=>(H a).isSome
def qG(h:Heap)(H:Hp):Heap:=PySem.W.hideAll h (UE h H)
def zw(h:Heap)(H:Hp):(qG h H).objs.size=h.objs.size:=PySem.W.hideAll_size _ _
def BC{h:Heap}{H:Hp}{b:Addr}{o:Obj}(e:h.get? b=some o)(n:H b=none):(qG h H).get? b=some o:=
 PySem.W.hideAll_get _ e λhm=>by
  have q:(H b).isSome=true:=(Jr.mp hm).2;rw[n]at q;simp at q
def Fw{h:Heap}{H:Hp}{b:Addr}{o:Obj}(e:(qG h H).get? b=some o):h.get? b=some o/\H b=none:=by
 have e':h.get? b=some o:=PySem.W.of_hideAll (UE h H) e;refine⟨e',?_⟩;cases q:H b with
 |none=>rfl
 |some x=>
  have hm:b∈UE h H:=Jr.mpr ⟨Fo.mpr (Heap.lt_size e'),by simp[q]⟩
  have z:(qG h H).get? b=none:=PySem.W.hideAll_none (UE h H) hm;rw[z]at e;cases e
def Fx(g h:Heap)(L:Addr):dm:=(cP h.objs.size).filterMap λa=>if a=L\/(g.get? a).isSome=true then none else(h.get? a).map λo=>(a,o)
def rest(g h:Heap)(L d:Addr):dm:=(Fx g h L).filter λp=>decide (p.1≠d)
structure Mod(K:bD)(mg:Str->Dx)(base:Heap):Prop where
 kin:K.In base
 glob:base.Ns mainGlobals mg
 blt:∃mb,base.Ns builtinsNs mb/\∀x:Str,x ≠ "__name__" -> mb x=bootBuiltins x
 nolimit:base.NoLimit
structure Cx where
 prog:Program
 w:World
 K:bD
 mg:Str->Dx
 base:Heap
 A:Around
 N:BM
 s₀:Shared
 H₀:Hp
 env:Env
 outer:List Env
 stack:List Env
 ex:D2
 fn:Str->Bool
 calm:Bool
 pn:dm
 xe:Value->Shared->Prop
def BD(l:List Env):D2:=l.filterMap (·.frame)
abbrev Cx.fs(X:Cx):D2:=BD X.outer
def xo(sc:Scope)(x:Str):Prop:=sc.names.lookup x=some .local\/sc.names.lookup x=some .cell\/sc.names.lookup x=some .free
def Loc(sc:Scope)(x:Str):Prop:=sc.names.lookup x=some .local\/sc.names.lookup x=some .cell
def Look(env:Env)(h:Heap)(m:Str->Dx)(x:Str)(u:Value):Prop:=
 (env.kindOf x=some .local/\m x=some u)\/((env.kindOf x=some .cell\/env.kindOf x=some .free)/\∃c,env.cells.lookup x=some c/\h.IsCell c (some u))
structure Cx.Ok(X:Cx):Prop where
 mod:Mod X.K X.mg X.base
 kind:X.env.scope.kind=.function
 glob:X.env.globals=mainGlobals
 blt:X.env.builtins=builtinsNs
 above:X.s₀.heap.objs.size<=X.env.locals
 inj:∀x y c,X.env.cells.lookup x=some c->X.env.cells.lookup y=some c->x=y
 has:∀x,(X.env.kindOf x=some .cell\/X.env.kindOf x=some .free)->∃c,X.env.cells.lookup x=some c
 cab:∀x c,X.fn x=true->X.env.cells.lookup x=some c->X.s₀.heap.objs.size<=c
 hd:X.calm=true->X.A.handled=none
 frames:X.A.frames=some X.stack
 stk:X.stack=X.outer\/(X.stack=X.env::X.outer/\X.env.frame=some X.env.locals)
 exf:∀b∈X.ex,b≠X.env.locals/\∀x c,X.env.cells.lookup x=some c->c≠b
 bs:∀b o,X.base.get? b=some o->X.s₀.heap.get? b=some o/\X.H₀ b=none
 bsz:X.base.objs.size<=X.s₀.heap.objs.size
 noex:∀b o,X.base.get? b=some o->b∉X.ex
 exfs:∀b∈X.ex,b∉X.fs
 kC:X.s₀.heap.FunFrames X.base X.outer
 frf:∀b∈X.fs,X.H₀ b=none
structure Inv(X:Cx)(ae:dm)(σ:List (Option V))(H:Hp)(s:Shared):Prop where
 ok:X.Ok
 os:s.os=X.s₀.os
 bare:AllBare s.gens
 base:Un X.fs X.ex X.H₀ H X.s₀.heap s.heap
 loc:∃m,s.heap.Ns X.env.locals m/\∀(i:Nat)(x:Str)(v:V),X.N[i]?=some x->σ[i]?=some (some v)->xo X.env.scope x->∃u,RelV v u/\Look X.env s.heap m x u
 cell:∀x c,X.env.cells.lookup x=some c->∃v,s.heap.IsCell c v
 free:H X.env.locals=none
 freeC:∀x c,X.env.cells.lookup x=some c->H c=none
 pin:∀p∈X.pn++ae,s.heap.get? p.1=some p.2/\H p.1=none/\p.1≠X.env.locals/\p.1∉X.fs/\∀v,p.2.data≠.cell v
 bG:jO X.prog X.w H s.heap
 len:σ.length=X.N.length
section
variable{X:Cx}{σ:List (Option V)}
def Cx.Ok.Vy(ok:X.Ok){b:Addr}{o:Obj}(e:X.base.get? b=some o):b∉X.fs:=λhb=>by
 have:=(ok.kC.mem hb).1
 rw[e]at this;cases this
theorem Inv.bs(I:Inv X ae σ H s):∀b o,X.base.get? b=some o->s.heap.get? b=some o/\H b=none:=λb o e=>
 ⟨I.base.keep b o (I.ok.bs b o e).1 (I.ok.bs b o e).2 (I.ok.Vy e) (I.ok.noex b o e),I.base.free b o (I.ok.bs b o e).1 (I.ok.bs b o e).2 (I.ok.noex b o e)⟩
def Inv.bk(I:Inv X ae σ H s):∀b o,X.base.get? b=some o->s.heap.get? b=some o:=λb o e=>(I.bs b o e).1
theorem Inv.mod(I:Inv X ae σ H s):Mod X.K X.mg X.base:=I.ok.mod
def Inv.kW(I:Inv X ae σ H s):X.K.In s.heap:=I.ok.mod.kin.keeps I.bk
theorem Inv.lt(I:Inv X ae σ H s):X.env.locals<s.heap.objs.size:=let⟨_,hn,_⟩:=I.loc;hn.lt
def Inv.sz(I:Inv X ae σ H s):X.s₀.heap.objs.size<=s.heap.objs.size:=fK I.ok.above (A3 I.lt)
def Inv.Vz(I:Inv X ae σ H s){a:Addr}(h:s.heap.objs.size<=a):a∉X.fs:=λhb=>by
 obtain⟨_,o,ho,_⟩:=I.ok.kC.mem hb;exact absurd (gP (Heap.lt_size ho) (fK I.sz h)) (lG _)
def Inv.Lr(I:Inv X ae σ H s):∀x c,X.env.cells.lookup x=some c->c≠X.env.locals:=λx c e z=>by
 obtain⟨v,o,ho,hd⟩:=I.cell x c e;obtain⟨m,⟨o',es,ep,Ls,VA,_⟩,_⟩:=I.loc;rw[z,Ls]at ho;cases ho;rw[VA]at hd;cases hd
theorem Inv.kC(I:Inv X ae σ H s):s.heap.FunFrames X.base X.outer:=by
 have all:∀(l:List Env),(∀b∈BD l,b∈X.fs)->X.s₀.heap.FunFrames X.base l->s.heap.FunFrames X.base l:=by
  intro l
  induction l with
  |nil=>intro _ _;trivial
  |cons env r ih=>
   intro hs hl;obtain⟨hk,⟨L,o,hf,hn,ho,hd⟩,hr⟩:=hl;have hL:L∈X.fs:=hs L (by unfold BD;rw[Bd,hf];exact fY)
   obtain⟨sl,e⟩:=I.base.slot L o ho (I.ok.frf L hL) hL λz=>I.ok.exfs L z hL;exact⟨hk,⟨L,_,hf,hn,e,hd⟩,ih (λb hb=>hs b (by unfold BD;rw[Bd,hf];exact bW _ hb)) hr⟩
 exact all X.outer (λ_ hb=>hb) I.ok.kC
theorem Inv.stack(I:Inv X ae σ H s):s.heap.FunFrames X.base X.stack:=by
 rcases I.ok.stk with e|⟨e,hf⟩
 ·rw[e];exact I.kC
 ·rw[e]
  obtain⟨m,hn,_⟩:=I.loc;refine .cons (by rw[I.ok.kind];decide) hf hn ?_ I.kC
  exact Heap.get?_none_of_le (fK I.ok.bsz I.ok.above)
def Inv.qH(I:Inv X ae σ H s):∀b∈BD X.stack,b∈X.env.locals::X.fs:=λb hb=>by
 rcases I.ok.stk with e|⟨e,hf⟩
 ·rw[e]at hb;exact bW _ hb
 ·rw[e]at hb
  unfold BD at hb;rw[Bd,hf]at hb;exact hb
def Inv.xq(I:Inv X ae σ H s):∀b∈BD X.stack,H b=none:=λb hb=>by
 rcases gh.mp (I.qH b hb)with e|hb
 ·rw[e];exact I.free
 ·obtain⟨_,o,ho,_⟩:=I.ok.kC.mem hb
  exact I.base.free b o ho (I.ok.frf b hb) λz=>I.ok.exfs b z hb
def Inv.step{g':Array GenState}{t':Nat}{d':Drawn}{ch:D2}(I:Inv X ae σ H s)
  (AG:∀b∈ch,(b∈X.ex\/X.s₀.heap.objs.size<=b)/\b≠X.env.locals/\(∀x c,X.env.cells.lookup x=some c->c≠b)/\∀p∈X.pn++ae,p.1≠b)
  (keep:∀b o,b≠X.env.locals->b∉X.fs->b∉ch->s.heap.get? b=some o->H b=none->h'.get? b=some o)
  (slot:∀b o,b≠X.env.locals->b∈X.fs->b∉ch->s.heap.get? b=some o->H b=none->∃sl,h'.get? b=some {o with slots:=sl}) (free:∀b o,b∉ch->s.heap.get? b=some o->H b=none->H' b=none)
  (there:∀b o,b∉ch->s.heap.get? b=some o->∃o',h'.get? b=some o')
  (oQ:∀b xs,H b=some (.tup xs)->H' b=some (.tup xs)) (mC:∀b o u,H b=some (.i6 o u)->H' b=some (.i6 o u)) (oR:∀b ps,H b=some (.tbl ps)->∃more,H' b=some (.tbl (ps++more)))
  (ns:∀m,s.heap.Ns X.env.locals m->h'.Ns X.env.locals m) (bG:jO X.prog X.w H' h') (hg:AllBare g') :
  Inv X ae σ H' {s with heap:=h',gens:=g',drawn:=d',toks:=t'}:=by
 have Yr:∀b o,X.s₀.heap.get? b=some o->b≠X.env.locals:=λb o e=>fG (gP (Heap.lt_size e) I.ok.above);have UG:∀b o,X.s₀.heap.get? b=some o->b∉X.ex->b∉ch:=λb o e hx hb=>by
  rcases(AG b hb).1 with z|z
  ·exact hx z
  ·exact absurd (gP (Heap.lt_size e) z) (lG _)
 have cellK:∀x c,X.env.cells.lookup x=some c->∀v,s.heap.IsCell c v->h'.IsCell c v:=λx c e v zz=>by
  obtain⟨o,ho,hd⟩:=zz;have PH:c∉ch:=λz=>(AG c z).2.2.1 x c e rfl;by_cases hc:c∈X.fs
  ·obtain⟨sl,q⟩:=slot c o (I.Lr x c e) hc PH ho (I.freeC x c e)
   exact⟨_,q,hd⟩
  ·exact⟨o,keep c o (I.Lr x c e) hc PH ho (I.freeC x c e),hd⟩
 refine⟨I.ok,I.os,hg,⟨λb o e n hb hx=>?_,λb o e n hb hx=>?_,λb o e n hx=>?_,λb o e hx=>?_,λb xs e=>oQ b xs (I.base.oQ b xs e),λb o xs e=>mC b o xs (I.base.mC b o xs e),λb ps e=>?_⟩,?_,λx c e=>?_,?_,λx c e=>?_,λp hp=>?_,bG,I.len⟩
 ·exact keep b o (Yr b o e) hb (UG b o e hx) (I.base.keep b o e n hb hx) (I.base.free b o e n hx)
 ·obtain⟨sl,e1⟩:=I.base.slot b o e n hb hx
  obtain⟨UH,e2⟩:=slot b _ (Yr b o e) hb (UG b o e hx) e1 (I.base.free b o e n hx);exact⟨UH,e2⟩
 ·obtain⟨o',e1⟩:=I.base.there b o e hx
  exact free b o' (UG b o e hx) e1 (I.base.free b o e n hx)
 ·obtain⟨o',e1⟩:=I.base.there b o e hx
  exact there b o' (UG b o e hx) e1
 ·obtain⟨m1,e1⟩:=I.base.oR b ps e
  obtain⟨m2,e2⟩:=oR b _ e1;exact⟨m1++m2,by rw[e2,Array.append_assoc]⟩
 ·obtain⟨m,hn,hl⟩:=I.loc
  refine⟨m,ns m hn,λi x v e1 e2 e3=>?_⟩;obtain⟨u,r,l⟩:=hl i x v e1 e2 e3;refine⟨u,r,?_⟩;rcases l with l|⟨k,c,e,z⟩
  ·exact .inl l
  ·exact .inr ⟨k,c,e,cellK x c e _ z⟩
 ·obtain⟨v,z⟩:=I.cell x c e
  exact⟨v,cellK x c e v z⟩
 ·obtain⟨m,⟨o,_,_,ho,_⟩,_⟩:=I.loc
  exact free _ o (λz=>(AG _ z).2.1 rfl) ho I.free
 ·obtain⟨v,o,ho,hd⟩:=I.cell x c e
  exact free c o (λz=>(AG c z).2.2.1 x c e rfl) ho (I.freeC x c e)
 ·obtain⟨e,n,ne,nf,d⟩:=I.pin p hp
  have PH:p.1∉ch:=λz=>(AG p.1 z).2.2.2 p hp rfl;exact⟨keep p.1 p.2 ne nf PH e n,free p.1 p.2 PH e n,ne,nf,d⟩
def Inv.un{t':Nat}(I:Inv X ae σ H s)(u:Un X.fs [] H H' s.heap h')(bG:jO X.prog X.w H' h'):Inv X ae σ H' {s with heap:=h',toks:=t'}:=by
 obtain⟨m,⟨o,es,ep,ho,r⟩,_⟩:=id I.loc;obtain⟨sl,hL⟩:=u.any ho I.free (by simp)
 exact I.step (g':=s.gens) (d':=s.drawn) (ch:=[]) (λ_ z=>nomatch z) (λb o _ hb _ e n=>u.keep b o e n hb (by simp)) (λb o _ hb _ e n=>u.slot b o e n hb (by simp)) (λb o _ e n=>u.free b o e n (by simp)) (λb o _ e=>u.there b o e (by simp)) u.oQ u.mC u.oR (λm' hm=>by
  obtain⟨o',Fy,VB,Ls,r'⟩:=hm;rw[ho]at Ls;cases Ls;exact⟨_,Fy,VB,hL,r'⟩) bG I.bare
def Inv.call{g':Array GenState}{t':Nat}{d':Drawn}{ch:D2}(I:Inv X ae σ H s)(u:Un (BD X.stack) ch H H' s.heap h')(bG:jO X.prog X.w H' h')(hg:AllBare g')
  (AG:∀b∈ch,(b∈X.ex\/X.s₀.heap.objs.size<=b)/\b≠X.env.locals/\(∀x c,X.env.cells.lookup x=some c->c≠b)/\∀p∈X.pn++ae,p.1≠b) :
  Inv X ae σ H' {s with heap:=h',gens:=g',drawn:=d',toks:=t'}:=by
 obtain⟨m,⟨o,es,ep,ho,r⟩,_⟩:=id I.loc;obtain⟨sl,hL⟩:=u.any ho I.free λz=>(AG _ z).2.1 rfl;exact I.step (ch:=ch) AG (λb o hL hb hc e n=>u.keep b o e n (λz=>(gh.mp (I.qH b z)).elim hL hb) hc) (λb o _ _ hc e n=>u.any e n hc) (λb o hc e n=>u.free b o e n hc) (λb o hc e=>u.there b o e hc) u.oQ u.mC u.oR (λm' hm=>by
  obtain⟨o',Fy,VB,Ls,r'⟩:=hm;rw[ho]at Ls;cases Ls;exact⟨_,Fy,VB,hL,r'⟩) bG hg
def Inv.turned{t':Nat}{it:Addr}(I:Inv X ae σ H s)(k:∀b o,b≠it->s.heap.get? b=some o->h'.get? b=some o)(hn:H it=none)(hL:it≠X.env.locals)
  (h1:it∈X.ex\/X.s₀.heap.objs.size<=it) (h2:∀x c,X.env.cells.lookup x=some c->c≠it) (h3:∀p∈X.pn++ae,p.1≠it):Inv X ae σ H {s with heap:=h',toks:=t'}:=by
 have Ys:∀b u,H b=some u->b≠it:=λb u e z=>by rw[z,hn]at e;cases e
 refine I.step (g':=s.gens) (d':=s.drawn) (ch:=[it]) (λb hb=>?_) (λb o _ _ hc e _=>k b o (λz=>hc (by simp[z])) e) (λb o _ _ hc e _=>⟨o.slots,k b o (λz=>hc (by simp[z])) e⟩) (λ_ _ _ _ n=>n)
  (λb o hc e=>⟨o,k b o (λz=>hc (by simp[z])) e⟩) (λ_ _ e=>e) (λ_ _ _ e=>e) (λb ps e=>⟨#[],by rw[e];simp⟩) (λm hm=>?_) (λb u e=>?_) I.bare
 ·have e:b=it:=by simpa using hb
  subst e;exact⟨h1,hL,h2,h3⟩
 ·obtain⟨o,es,ep,ho,r⟩:=hm
  exact⟨o,es,ep,k _ o (Ne.symm hL) ho,r⟩
 ·refine(I.bG b u e).qF (λc v hc q=>k c v ?_ q) (λ_ q=>q) λ_ _ q=>q
  rcases hc with z|z
  ·rw[z];exact Ys b u e
  ·exact Ys c _ z
def Inv.tok(I:Inv X ae σ H s)(t:Nat):Inv X ae σ H {s with toks:=t}:=I.un (h':=s.heap) (t':=t) Un.refl I.bG
theorem Inv.kept{t':Nat}(I:Inv X ae σ H s)(k:∀b u,s.heap.get? b=some u->h'.get? b=some u):Inv X ae σ H {s with heap:=h',toks:=t'}:=I.un (Un.kept k) (I.bG.kept k)
theorem Inv.laid{a:Addr}{o:HO}{t':Nat}(I:Inv X ae σ H s)(k:∀b u,s.heap.get? b=some u->h'.get? b=some u)(hp:s.heap.objs.size<=a)(new:ck X.prog X.w (upd H a o) h' a o) :
  Inv X ae σ (upd H a o) {s with heap:=h',toks:=t'}:=I.un (Un.laid k hp (I.bG.fresh hp)) (I.bG.laid k hp new)
theorem Inv.write{x e:Addr}{o:HO}{t':Nat}(I:Inv X ae σ H s)(mu:PD (H x))(he:e=x\/H e=some (.own x))(k:∀b u,b≠e->s.heap.get? b=some u->h'.get? b=some u)(O6:∃u,h'.get? e=some u)
  (new:ck X.prog X.w (upd H x o) h' x o):Inv X ae σ (upd H x o) {s with heap:=h',toks:=t'}:=I.un (Un.write mu he k O6) (I.bG.write mu he k O6 new)
def Inv.weak{σ':List (Option V)}(I:Inv X ae σ H s)(hl:σ'.length=σ.length)(w:∀(i:Nat)v,σ'[i]?=some (some v)->σ[i]?=some (some v)):Inv X ae σ' H s:=
 ⟨I.ok,I.os,I.bare,I.base,let⟨m,hn,sL⟩:=I.loc;⟨m,hn,λi x v e1 e2 e3=>sL i x v e1 (w i v e2) e3⟩,I.cell,I.free,I.freeC,I.pin,I.bG,hl.trans I.len⟩
def Inv.qI{J8:dm}(I:Inv X ae σ H s)(h:∀p∈J8,s.heap.get? p.1=some p.2/\H p.1=none/\p.1≠X.env.locals/\p.1∉X.fs/\∀v,p.2.data≠.cell v):Inv X J8 σ H s:=
 ⟨I.ok,I.os,I.bare,I.base,I.loc,I.cell,I.free,I.freeC,λp hp=>(sF.mp hp).elim (λz=>I.pin p (Js _ z)) (h p),I.bG,I.len⟩
def sM{N:BM}(hN:N.Nodup){i j:Nat}{x:Str}(a:N[i]?=some x)(b:N[j]?=some x):i=j:=by
 obtain⟨h1,e1⟩:=c_.mp a;obtain⟨h2,e2⟩:=c_.mp b;exact(List.getElem_inj hN).mp (e1.trans e2.symm)
def pL{M:Model}{A:Around}{E:Value->Shared->Prop}{i:Nat}{x:Str}{v:V}{u:Value}{Q:Unit->Shared->Prop}(I:Inv X ae σ H s)(hN:X.N.Nodup)(hi:X.N[i]?=some x)(hx:Loc X.env.scope x)(r:RelV v u)
  (h:∀s',Inv X ae (σ.set i (some v)) H s'->(∃a,Heap.SameBut a s.heap s'.heap/\(a=X.env.locals\/X.env.cells.lookup x=some a))->Q () s') (hf:X.fn x=true\/X.env.scope.names.lookup x=some .local:=by first|exact .inl rfl|exact .inr rfl|assumption):wpAny M A (storeName X.env x u) Q E s:=by
 obtain⟨m,hn,hl⟩:=id I.loc;have VC:(X.env.scope.kind == .class ||(X.env.scope.kind == .module&&X.env.locals != X.env.globals))=false:=by rw[I.ok.kind];rfl
 have hiσ:i<σ.length:=by rw[I.len];exact(c_.mp hi).1
 have Lr:=I.Lr;have tracked:∀{a:Addr}{h':Heap},(∃o,s.heap.get? a=some o/\H a=none)->Heap.SameBut a s.heap h'->jO X.prog X.w H h':=λ{a h'} ha hs b ob e=>by
  obtain⟨_,_,pM⟩:=ha;refine(I.bG b ob e).qF (λc w' hc q=>(hs.2 c ?_).trans q) (λ_ q=>q) λ_ _ q=>q
  rintro rfl
  rcases hc with rfl|hc
  ·rw[pM]at e;cases e
  ·rw[pM]at hc;cases hc
 rcases hx with hk|hk
 ·refine wpAny_storeName_local hk hn (λh' Ã hs=>?_) VC
  obtain⟨oL,_,_,Ä,_⟩:=id hn;refine h _ ⟨I.ok,I.os,I.bare,⟨λb o e n hb hx=>?_,λb o e n hb hx=>?_,I.base.free,λb o e hx=>?_,I.base.oQ,I.base.mC,I.base.oR⟩,⟨_,Ã,λj y v' e1 e2 e3=>?_⟩,λy c e=>?_,I.free,I.freeC,λp hp=>?_,tracked ⟨oL,Ä,I.free⟩ hs,by simpa using I.len⟩ ⟨_,hs,.inl rfl⟩
  ·exact(hs.2 b (fG (gP (Heap.lt_size e) I.ok.above))).trans (I.base.keep b o e n hb hx)
  ·obtain⟨sl,e1⟩:=I.base.slot b o e n hb hx
   exact⟨sl,(hs.2 b (fG (gP (Heap.lt_size e) I.ok.above))).trans e1⟩
  ·obtain⟨o',e1⟩:=I.base.there b o e hx
   exact⟨o',(hs.2 b (fG (gP (Heap.lt_size e) I.ok.above))).trans e1⟩
  ·by_cases hj:j=i
   ·subst hj
    rw[hi]at e1;cases e1;rw[cj hiσ]at e2;cases e2;exact⟨u,r,.inl ⟨hk,by simp⟩⟩
   ·rw[cT (Ne.symm hj)]at e2
    obtain⟨u',r',q⟩:=hl j y v' e1 e2 e3;refine⟨u',r',?_⟩;rcases q with⟨k,e⟩|⟨k,c,e,z⟩
    ·refine .inl ⟨k,?_⟩
     have:y≠x:=λe=>hj (sM hN e1 (e▸hi))
     simp[this,e]
    ·exact .inr ⟨k,c,e,z.sameBut hs (Lr y c e)⟩
  ·obtain⟨w',z⟩:=I.cell y c e
   exact⟨w',z.sameBut hs (Lr y c e)⟩
  ·obtain⟨e,n,ne,nf,d⟩:=I.pin p hp
   exact⟨(hs.2 p.1 ne).trans e,n,ne,nf,d⟩
 ·have Lu:X.fn x=true:=by
   rcases hf with z|z
   ·exact z
   ·rw[z]at hk;cases hk
  obtain⟨c,hc⟩:=I.ok.has x (.inl hk);obtain⟨w',z⟩:=I.cell x c hc;refine wpAny_storeName_cell I.ok.kind hk hc z (λh' BE hs=>?_);obtain⟨oc,Yt,VD⟩:=id z;refine h {s with heap:=h'} ⟨I.ok,I.os,I.bare,⟨λb o e n hb hx=>?_,λb o e n hb hx=>?_,I.base.free,λb o e hx=>?_,I.base.oQ,I.base.mC,I.base.oR⟩,⟨m,hn.sameBut hs (Ne.symm (Lr x c hc)),λj y v' e1 e2 e3=>?_⟩,λy c' e=>?_,I.free,I.freeC,λp hp=>?_,tracked ⟨oc,Yt,I.freeC x c hc⟩ hs,by simpa using I.len⟩ ⟨c,hs,.inr hc⟩
  ·exact(hs.2 b (fG (gP (Heap.lt_size e) (I.ok.cab x c Lu hc)))).trans (I.base.keep b o e n hb hx)
  ·obtain⟨sl,e1⟩:=I.base.slot b o e n hb hx
   exact⟨sl,(hs.2 b (fG (gP (Heap.lt_size e) (I.ok.cab x c Lu hc)))).trans e1⟩
  ·obtain⟨o',e1⟩:=I.base.there b o e hx
   exact⟨o',(hs.2 b (fG (gP (Heap.lt_size e) (I.ok.cab x c Lu hc)))).trans e1⟩
  ·by_cases hj:j=i
   ·subst hj
    rw[hi]at e1;cases e1;rw[cj hiσ]at e2;cases e2;exact⟨u,r,.inr ⟨.inl hk,c,hc,BE⟩⟩
   ·rw[cT (Ne.symm hj)]at e2
    obtain⟨u',r',q⟩:=hl j y v' e1 e2 e3;refine⟨u',r',?_⟩;rcases q with q|⟨k,c',e,z'⟩
    ·exact .inl q
    ·refine .inr ⟨k,c',e,z'.sameBut hs ?_⟩
     rintro rfl
     exact hj (sM hN e1 (I.ok.inj _ _ _ e hc▸hi))
  ·by_cases O7:c'=c
   ·subst O7;exact⟨_,BE⟩
   ·obtain⟨w2,z2⟩:=I.cell y c' e
    exact⟨w2,z2.sameBut hs O7⟩
  ·obtain⟨e,n,ne,nf,d⟩:=I.pin p hp
   refine⟨(hs.2 p.1 ?_).trans e,n,ne,nf,d⟩;intro q;rw[q,Yt]at e;have q':oc=p.2:=jX.inj e;exact d w' (by rw[<- q'];exact VD)
def mD{M:Model}{A:Around}{E:Value->Shared->Prop}{i:Nat}{x:Str}{v:V}{u:Value}{Q:Unit->Shared->Prop}(I:Inv X ae σ H s)(hN:X.N.Nodup)(hi:X.N[i]?=some x)(hx:Loc X.env.scope x)(r:RelV v u)
  (h:∀s',Inv X ae (σ.set i (some v)) H s'->Q () s') (hf:X.fn x=true\/X.env.scope.names.lookup x=some .local:=by first|exact .inl rfl|exact .inr rfl|assumption):wpAny M A (storeName X.env x u) Q E s:=
 pL I hN hi hx r (λs' I' _=>h s' I') hf
def Inv.PJ{s':Shared}{ch:D2}(I:Inv X ae σ H s)(ho:s'.os=s.os)(u:Un (BD X.stack) ch H H' s.heap s'.heap)(bG:jO X.prog X.w H' s'.heap)(hg:AllBare s'.gens)
  (AG:∀b∈ch,(b∈X.ex\/X.s₀.heap.objs.size<=b)/\b≠X.env.locals/\(∀x c,X.env.cells.lookup x=some c->c≠b)/\∀p∈X.pn++ae,p.1≠b):Inv X ae σ H' s':=by
 obtain⟨h',g',d',t',o'⟩:=s';have e:o'=s.os:=ho;subst e;exact I.call (g':=g') (t':=t') (d':=d') u bG hg AG
end
abbrev XK:=Value->Option Addr->Hp->Prop
abbrev St:=List (Option V)
abbrev VK:=V->Hp->Prop
abbrev TE:=St->Hp->VK->Prop
abbrev TT:=St->Hp->(Bool->Hp->Prop)->Prop
abbrev TA:=St->Hp->(List V->Hp->Prop)->Prop
structure Ends where
 nx:St->Hp->Prop
 rt:VK
 bk:St->Hp->Prop:=λ_ _=>False
 ct:St->Hp->Prop:=λ_ _=>False
abbrev TS:=Ends->St->Hp->Prop
def EP(X:Cx)(ae:dm)(σ:St)(Q:VK)(u:Value)(s':Shared):Prop:=∃v H',Inv X ae σ H' s'/\RelV v u/\Q v H'
def TP(X:Cx)(ae:dm)(σ:St)(Q:Bool->Hp->Prop)(b:Bool)(s':Shared):Prop:=∃H',Inv X ae σ H' s'/\Q b H'
def AP(X:Cx)(ae:dm)(σ:St)(Q:List V->Hp->Prop)(us:Bz)(s':Shared):Prop:=∃vs H',Inv X ae σ H' s'/\Vals vs us/\Q vs H'
def SP(X:Cx)(ae:dm)(D:Ends)(f:Flow)(s':Shared):Prop:=
 match f with
 |.next=>∃σ' H',Inv X ae σ' H' s'/\D.nx σ' H'
 |.brk=>∃σ' H',Inv X ae σ' H' s'/\D.bk σ' H'
 |.cont=>∃σ' H',Inv X ae σ' H' s'/\D.ct σ' H'
 |.ret u=>∃v σ' H',Inv X ae σ' H' s'/\RelV v u/\D.rt v H'
def PE(X:Cx)(e:Expr)(t:TE):Prop:=
 ∀(ae:dm)(s:Shared)(σ:St)(H:Hp)(Q:VK),Inv X ae σ H s->t σ H Q->wpAny (model X.prog X.w) X.A (eval e X.env) (EP X ae σ Q) X.xe s
def PT(X:Cx)(e:Expr)(t:TT):Prop:=
 ∀(ae:dm)(s:Shared)(σ:St)(H:Hp)(Q:Bool->Hp->Prop),Inv X ae σ H s->t σ H Q->wpAny (model X.prog X.w) X.A (isTrue e X.env (eval e X.env)) (TP X ae σ Q) X.xe s
def PW(X:Cx)(e:Expr)(t:TT):Prop:=
 ∀(ie:Sem Value)(ae:dm)(s:Shared)(σ:St)(H:Hp)(Q:Bool->Hp->Prop),Inv X ae σ H s->t σ H Q->wpAny (model X.prog X.w) X.A (isTrue e X.env ie) (TP X ae σ Q) X.xe s
def PW.pt{X:Cx}{e:Expr}{t:TT}(h:PW X e t):PT X e t:=h _
def PA(X:Cx)(es:D1)(t:TA):Prop:=
 ∀(pos:Pos)(ae:dm)(s:Shared)(σ:St)(H:Hp)(Q:List V->Hp->Prop),Inv X ae σ H s->t σ H Q->wpAny (model X.prog X.w) X.A (spliced (backTo pos (starEach es X.env))) (AP X ae σ Q) X.xe s
def PS(X:Cx)(st:Stmt)(t:TS):Prop:=
 ∀(ae:dm)(s:Shared)(σ:St)(H:Hp)(D:Ends),Inv X ae σ H s->t D σ H->wpAny (model X.prog X.w) X.A (exec st X.env) (SP X ae D) X.xe s
def jx(X:Cx)(st:Fs)(t:TS):Prop:=
 ∀(ae:dm)(s:Shared)(σ:St)(H:Hp)(D:Ends),Inv X ae σ H s->t D σ H->wpAny (model X.prog X.w) X.A (execs st X.env) (SP X ae D) X.xe s
def bJ{α:Type}{t:Sem α}{Q Q':α->Shared->Prop}{M:Model}{A:Around}{E:Value->Shared->Prop}{s:Shared}(h:wpAny M A t Q E s)(hQ:∀a s,Q a s->Q' a s):wpAny M A t Q' E s:=wpAny_mono h hQ λ_ _ x=>x
section
variable{X:Cx}
def Lv(i:Nat):TE:=λσ H Q=>∃v,σ[i]?=some (some v)/\Q v H
def tC(v:V):TE:=λ_ H Q=>Q v H
def gj{i:Nat}{x:Str}{pos:Pos}(hN:X.N[i]?=some x)(hv:xo X.env.scope x)(hd:df x:=by decide)(pO:kB x:=by decide):PE X (.Name x pos) (Lv i):=by
 intro ae s σ H Q I h;obtain⟨v,e,h⟩:=h;obtain⟨m,hn,hl⟩:=I.loc;obtain⟨u,r,l⟩:=hl i x v hN e hv;have fin:EP X ae σ Q u s:=⟨v,H,I,r,h⟩;rcases l with⟨hk,hm⟩|⟨hk,c,hc,hcell⟩
 ·exact wpAny_Name (wpAny_loadName_local I.ok.kind hk hn hm fin) hd
 ·rcases hk with hk|hk
  ·exact wpAny_Name (wpAny_loadName_cell I.ok.kind hk hc hcell fin) hd
  ·exact wpAny_Name (wpAny_loadName_free I.ok.kind hk hc hcell fin pO) hd
def BG{i j pos}:PE X (.Constant (.int i) j pos) (tC (.int i)):=λ_ _ _ H _ I h=>wpAny_Constant_int ⟨.int i,H,I.tok _,⟨_,rfl⟩,h⟩
def PK{b j pos}:PE X (.Constant (.bool b) j pos) (tC (.bl b)):=λ_ _ _ H _ I h=>Constant_bool ⟨.bl b,H,I,rfl,h⟩
def Lw{j pos}:PE X (.Constant .none j pos) (tC .non):=λ_ _ _ H _ I h=>Constant_none ⟨.non,H,I,rfl,h⟩
def BH{x j pos}:PE X (.Constant (.str x) j pos) (tC (.str x)):=λ_ _ _ H _ I h=>Calls.Constant_str ⟨.str x,H,I.tok _,⟨_,rfl⟩,h⟩
def Gl(X:Cx)(x:Str):Prop:=X.env.kindOf x=some .globalImplicit
def l_{E:Value->Shared->Prop}{ae:dm}{s:Shared}{σ:St}{H:Hp}{x:Str}{u:Value}{pos:Pos}{Q:Value->Shared->Prop}(I:Inv X ae σ H s)(hg:Gl X x)(hm:X.mg x=some u)(h:Q u s)
  (hd:df x:=by decide):wpAny (model X.prog X.w) X.A (eval (.Name x pos) X.env) Q E s:=
 Calls.Name_function_global I.ok.kind hg (Calls.loadGlobal_global (by rw[I.ok.glob];exact I.mod.glob.keeps I.bk) hm h) hd
def fk{E:Value->Shared->Prop}{ae:dm}{s:Shared}{σ:St}{H:Hp}{x:Str}{u:Value}{pos:Pos}{Q:Value->Shared->Prop}(I:Inv X ae σ H s)(hg:Gl X x)(hm:X.mg x=none)(hv:bootBuiltins x=some u)(h:Q u s)
  (hn:x ≠ "__name__" := by decide) (hd:df x:=by decide):wpAny (model X.prog X.w) X.A (eval (.Name x pos) X.env) Q E s:=by
 obtain⟨mb,h1,h2⟩:=I.mod.blt;exact Calls.Name_function_global I.ok.kind hg (Calls.loadGlobal_builtin (by rw[I.ok.glob];exact I.mod.glob.keeps I.bk) hm (by rw[I.ok.blt];exact h1.keeps I.bk) ((h2 x hn).trans hv) h) hd
def xr{x:Str}{v:V}{u:Value}{pos:Pos}(hg:Gl X x)(hm:X.mg x=some u)(r:RelV v u)(hd:df x:=by decide):PE X (.Name x pos) (tC v):=
 λ_ _ _ H _ I h=>l_ I hg hm ⟨v,H,I,r,h⟩ hd
def xu{x:Str}{v:V}{u:Value}{pos:Pos}(hg:Gl X x)(hm:X.mg x=none)(hv:bootBuiltins x=some u)(r:RelV v u)(hn:x ≠ "__name__" := by decide)(hd:df x:=by decide):PE X (.Name x pos) (tC v):=
 λ_ _ _ H _ I h=>fk I hg hm hv ⟨v,H,I,r,h⟩ hn hd
variable{a:Expr}{ta tb:TE}
def PC(X:Cx)(op:CmpOp)(a b:Expr)(t:TE):Prop:=
 ∀(ae:dm)(s:Shared)(σ:St)(H:Hp)(Q:VK),Inv X ae σ H s->t σ H Q ->
  wpAny (model X.prog X.w) X.A (eval a X.env) (λv s₁=>wpAny (model X.prog X.w) X.A (eval b X.env) (λu s₂=>wpAny (model X.prog X.w) X.A (compareOp op v u) (EP X ae σ Q) X.xe s₂) X.xe s₁) X.xe s
def tB(t:TE):TT:=λσ H Q=>t σ H λx H1=>∃c,x=.bl c/\Q c H1
variable{tA UI:TT}{rest:D1}
def VE(t u:TT):TT:=λσ H Q=>t σ H λc H1=>if c=true then u σ H1 Q else Q false H1
def Å(t u:TT):TT:=λσ H Q=>t σ H λc H1=>if c=true then Q true H1 else u σ H1 Q
def VF(t:TT):TT:=λσ H Q=>t σ H λc H1=>Q (!c) H1
def Fz(ha:PT X a tA):PW X (.BoolOp .And [a] pos) tA:=by
 intro wh ae s σ H Q I h;refine isTrue_and (bJ (ha ae s σ H Q I h) λc s1 e=>?_);cases c with
 |true=>exact isTrue_and_nil e
 |false=>exact e
def Lx(ha:PT X a tA):PW X (.BoolOp .Or [a] pos) tA:=by
 intro wh ae s σ H Q I h;refine isTrue_or (bJ (ha ae s σ H Q I h) λc s1 e=>?_);cases c with
 |false=>exact isTrue_or_nil e
 |true=>exact e
def Ly(ha:PT X a tA)(hb:PW X (.BoolOp .And (b::rest) pos) UI):PW X (.BoolOp .And (a::b::rest) pos) (VE tA UI):=by
 intro wh ae s σ H Q I h;refine isTrue_and (bJ (ha ae s σ H _ I h) λc s1 zz=>?_);obtain⟨H1,I1,q1⟩:=zz;cases c with
 |true=>exact hb wh ae s1 σ H1 Q I1 q1
 |false=>exact⟨H1,I1,q1⟩
def PL(ha:PT X a tA)(hb:PW X (.BoolOp .Or (b::rest) pos) UI):PW X (.BoolOp .Or (a::b::rest) pos) (Å tA UI):=by
 intro wh ae s σ H Q I h;refine isTrue_or (bJ (ha ae s σ H _ I h) λc s1 zz=>?_);obtain⟨H1,I1,q1⟩:=zz;cases c with
 |true=>exact⟨H1,I1,q1⟩
 |false=>exact hb wh ae s1 σ H1 Q I1 q1
def Lz(ha:PT X a tA):PT X (.UnaryOp .Not a pos) (VF tA):=by
 intro ae s σ H Q I h;exact isTrue_not (ha ae s σ H (λc H1=>Q (!c) H1) I h)
def PM(ta tb:TE):TE:=λσ H Q=>ta σ H λx H1=>∃c,x=.bl c/\if c=true then tb σ H1 Q else Q (.bl false) H1
def VG(ta tb:TE):TE:=λσ H Q=>ta σ H λx H1=>∃c,x=.bl c/\if c=true then Q (.bl true) H1 else tb σ H1 Q
def PN(ta:TE):TE:=λσ H Q=>ta σ H λx H1=>∃c,x=.bl c/\Q (.bl (!c)) H1
def LA{op}{t:TE}(h:PE X a t):PE X (.BoolOp op [a] pos) t:=λae s σ H Q I hw=>BoolOp_one (h ae s σ H Q I hw)
def LB(ha:PE X a ta)(hb:PE X (.BoolOp .And (b::rest) pos) tb):PE X (.BoolOp .And (a::b::rest) pos) (PM ta tb):=by
 intro ae s σ H Q I h;refine BoolOp_and (bJ (ha ae s σ H _ I h) λv s1 zz=>?_);obtain⟨x,H1,I1,r1,q1⟩:=zz;obtain⟨c,rfl,q1⟩:=q1;cases r1;refine wpAny_truthy_bool ?_;cases c with
 |true=>exact hb ae s1 σ H1 Q I1 q1
 |false=>exact⟨.bl false,H1,I1,rfl,q1⟩
def PQ(ha:PE X a ta)(hb:PE X (.BoolOp .Or (b::rest) pos) tb):PE X (.BoolOp .Or (a::b::rest) pos) (VG ta tb):=by
 intro ae s σ H Q I h;refine BoolOp_or (bJ (ha ae s σ H _ I h) λv s1 zz=>?_);obtain⟨x,H1,I1,r1,q1⟩:=zz;obtain⟨c,rfl,q1⟩:=q1;cases r1;refine wpAny_truthy_bool ?_;cases c with
 |false=>exact hb ae s1 σ H1 Q I1 q1
 |true=>exact⟨.bl true,H1,I1,rfl,q1⟩
def LC(ha:PE X a ta):PE X (.UnaryOp .Not a pos) (PN ta):=by
 intro ae s σ H Q I h;refine UnaryOp_ (bJ (ha ae s σ H _ I h) λv s1 zz=>?_);obtain⟨x,H1,I1,r1,q1⟩:=zz;obtain⟨c,rfl,q1⟩:=q1;cases r1;exact not_of (wpAny_truthy_bool ⟨.bl (!c),H1,I1,rfl,q1⟩)
def Æ(t:TT)(ta tb:TE):TE:=λσ H Q=>t σ H λc H1=>if c=true then ta σ H1 Q else tb σ H1 Q
def sN{c:Expr}(hc:PT X c tA)(ha:PE X a ta)(hb:PE X b tb):PE X (.IfExp c a b pos) (Æ tA ta tb):=by
 intro ae s σ H Q I h;refine wpAny_IfExp (bJ (hc ae s σ H _ I h) λd s1 zz=>?_);obtain⟨H1,I1,q1⟩:=zz;cases d with
 |true=>exact ha ae s1 σ H1 Q I1 q1
 |false=>exact hb ae s1 σ H1 Q I1 q1
end
def cJ(K:bD)(H:Hp)(a:Addr)(xs:List V):Prop:=
 Rd H a (.lst xs) \/
  ∃(o:Obj)(aF:Array Value)(n:Nat),K.lookup a=some o/\o.cls=.type "list" /\ o.dict=none/\o.data=.seq aF n/\aF.size<=sizeLine/\Vals xs aF.toList
def lO(K:bD)(H:Hp)(a:Addr)(xs:List V):Prop:=
 Rd H a (.tup xs) \/
  ∃(o:Obj)(aF:Array Value)(n:Nat),K.lookup a=some o/\o.cls=.type "tuple" /\ o.data=.seq aF n/\aF.size<=sizeLine/\Vals xs aF.toList
def VH:Value->Option V
 |.none=>some .non
 |.bool b=>some (.bl b)
 |.int i _=>some (.int i)
 |.str x _=>some (.str x)
 |.bytes b _=>some (.byt b)
 |.float b _=>some (.flt b)
 |.ref a=>some (.ref a)
 |.type n=>some (.ty n)
 |_=>none
def RelV.abs{x:V}{u:Value}(r:RelV x u):VH u=some x:=by
 cases x with
 |non=>cases r;rfl
 |bl _=>cases r;rfl
 |int _=>obtain⟨t,rfl⟩:=r;rfl
 |str _=>obtain⟨t,rfl⟩:=r;rfl
 |byt _=>obtain⟨t,rfl⟩:=r;rfl
 |flt _=>obtain⟨t,rfl⟩:=r;rfl
 |ref _=>cases r;rfl
 |ty _=>cases r;rfl
theorem RelV.inj{x y:V}{u:Value}(r:RelV x u)(q:RelV y u):x=y:=jX.inj (r.abs.symm.trans q.abs)
theorem Vals.inj:∀{xs ys:List V}{us:Bz},Vals xs us->Vals ys us->xs=ys
 |_,_,_,.nil,.nil=>rfl
 |_,_,_,.cons r t,.cons r' t'=>by rw[r.inj r',Vals.inj t t']
section
variable{X:Cx}{σ:St}{xs ys:List V}
def cJ.of{K:bD}(h:H a=some (.lst xs)):cJ K H a xs:=.inl (.inl h)
def lO.of{K:bD}(h:H a=some (.tup xs)):lO K H a xs:=.inl (.inl h)
def Inv.list(I:Inv X ae σ H s)(h:cJ X.K H a xs):∃aF:Bz,Vals xs aF/\PlainL s.heap a aF.toArray/\xs.length<=sizeLine:=by
 rcases h with h|⟨o,aF,n,hk,hc,hd,hs,hz,r⟩
 ·obtain⟨z,aF,n,r,e⟩:=h.ok I.bG
  exact⟨aF,r,⟨_,n,e,rfl,rfl,rfl⟩,z⟩
 ·refine⟨aF.toList,r,⟨o,n,I.kW a o hk,hc,hd,by simpa using hs⟩,?_⟩
  have e:=r.length;simp only[Array.length_toList]at e;omega
def Inv.tuple(I:Inv X ae σ H s)(h:lO X.K H a xs):∃aF:Bz,Vals xs aF/\IsTup s.heap a aF.toArray/\xs.length<=sizeLine:=by
 rcases h with h|⟨o,aF,n,hk,hc,hs,hz,r⟩
 ·obtain⟨z,aF,r,p⟩:=h.ok I.bG
  exact⟨aF,r,p,z⟩
 ·refine⟨aF.toList,r,⟨o,I.kW a o hk,hc,n,by simpa using hs⟩,?_⟩
  have e:=r.length;simp only[Array.length_toList]at e;omega
def Inv.BJ(I:Inv X ae σ H s)(h:cJ X.K H a xs)(h':cJ X.K H a ys):xs=ys:=by
 obtain⟨aF,r,⟨o,n,e,_,_,d⟩,_⟩:=I.list h;obtain⟨its',r',⟨o',n',e',_,_,d'⟩,_⟩:=I.list h';rw[e]at e';cases e';rw[d]at d';injection d' with d1 _
 have:aF=its':=by simpa using congrArg Array.toList d1
 subst this;exact r.inj r'
def Inv.zx(I:Inv X ae σ H s)(h:lO X.K H a xs)(h':lO X.K H a ys):xs=ys:=by
 obtain⟨aF,r,⟨o,e,_,n,d⟩,_⟩:=I.tuple h;obtain⟨its',r',⟨o',e',_,n',d'⟩,_⟩:=I.tuple h';rw[e]at e';cases e';rw[d]at d';injection d' with d1 _
 have:aF=its':=by simpa using congrArg Array.toList d1
 subst this;exact r.inj r'
end
abbrev Cx.oS(X:Cx)(E:Value->Shared->Prop):Cx:={X with xe:=E}
abbrev Cx.J9(X:Cx):Cx:=X.oS λ_ _=>False
theorem Cx.Ok.oS{X:Cx}(ok:X.Ok)(E:Value->Shared->Prop):(X.oS E).Ok:=
 ⟨ok.mod,ok.kind,ok.glob,ok.blt,ok.above,ok.inj,ok.has,ok.cab,ok.hd,ok.frames,ok.stk,ok.exf,ok.bs,ok.bsz,ok.noex,ok.exfs,ok.kC,ok.frf⟩
def Cx.Ok.iC{X:Cx}{E:Value->Shared->Prop}(ok:(X.oS E).Ok):X.Ok:=
 ⟨ok.mod,ok.kind,ok.glob,ok.blt,ok.above,ok.inj,ok.has,ok.cab,ok.hd,ok.frames,ok.stk,ok.exf,ok.bs,ok.bsz,ok.noex,ok.exfs,ok.kC,ok.frf⟩
section
variable{X:Cx}{σ:St}
theorem Inv.oS(I:Inv X ae σ H s)(E:Value->Shared->Prop):Inv (X.oS E) ae σ H s:=⟨I.ok.oS E,I.os,I.bare,I.base,I.loc,I.cell,I.free,I.freeC,I.pin,I.bG,I.len⟩
theorem Inv.iC(I:Inv (X.oS E) ae σ H s):Inv X ae σ H s:=⟨I.ok.iC,I.os,I.bare,I.base,I.loc,I.cell,I.free,I.freeC,I.pin,I.bG,I.len⟩
theorem SP.iC{D:Ends}{f:Flow}{s':Shared}(h:SP (X.oS E) ae D f s'):SP X ae D f s':=by
 cases f with
 |next=>obtain⟨σ',H',I,q⟩:=h;exact⟨σ',H',I.iC,q⟩
 |brk=>obtain⟨σ',H',I,q⟩:=h;exact⟨σ',H',I.iC,q⟩
 |cont=>obtain⟨σ',H',I,q⟩:=h;exact⟨σ',H',I.iC,q⟩
 |ret u=>obtain⟨v,σ',H',I,r,q⟩:=h;exact⟨v,σ',H',I.iC,r,q⟩
theorem jx.J9{st:Fs}{t:TS}(h:jx X.J9 st t):jx X st t:=λae s σ H D I hw=>
 wpAny_mono (h ae s σ H D (I.oS _) hw) (λ_ _ q=>q.iC) λ_ _ z=>False.elim z
end
section
variable{X:Cx}{st:Stmt}{rest:Fs}{t u:TS}{te:TE}
def BK:TS:=λD σ H=>D.nx σ H
def PR(t u:TS):TS:=λD σ H=>t {D with nx:=u D} σ H
def xw:jx X [] BK:=λ_ _ σ H _ I h=>wpAny_execs_nil ⟨σ,H,I,h⟩
def sO(h1:PS X st t)(h2:jx X rest u):jx X (st::rest) (PR t u):=by
 intro ae s σ H D I h;refine wpAny_execs_cons (bJ (h1 ae s σ H {D with nx:=u D} I h) λf s1 q=>?_)
 cases f with
 |next=>
  obtain⟨σ',H',I',q⟩:=q;exact h2 ae s1 σ' H' D I' q
 |ret v=>exact q
 |brk=>exact q
 |cont=>exact q
def xx(h1:PS X st t):jx X [st] t:=by
 intro ae s σ H D I h;refine wpAny_execs_cons (bJ (h1 ae s σ H D I h) λf s1 q=>?_);cases f with
 |next=>exact wpAny_execs_nil q
 |ret v=>exact q
 |brk=>exact q
 |cont=>exact q
def LD:TS:=λD σ H=>D.bk σ H
def PU:TS:=λD σ H=>D.ct σ H
def FA:PS X (.Pass pos) BK:=λ_ _ σ H _ I h=>wpAny_Pass ⟨σ,H,I,h⟩
def BL:PS X (.Break pos) LD:=λ_ _ σ H _ I h=>wpAny_Break ⟨σ,H,I,h⟩
def sP:PS X (.Continue pos) PU:=λ_ _ σ H _ I h=>wpAny_Continue ⟨σ,H,I,h⟩
def Inv.quiet{ae:dm}{σ:St}{H:Hp}{s:Shared}(I:Inv X ae σ H s):interactive X.env=false:=by simp[interactive,I.ok.kind]
def PV(te:TE):TS:=λD σ H=>te σ H λ_ H1=>D.nx σ H1
def qJ(he:PE X e te)(hs:swapsWith e none pos.line X.env=pure false:=by rfl):PS X (.Expr e pos) (PV te):=by
 intro ae s σ H D I h;exact wpAny_Expr_any (bJ (he ae s σ H _ I h) λv s1 ⟨x,H1,I1,r1,q1⟩=>⟨σ,H1,I1,q1⟩) I.quiet hs
def VJ(te:TE):TS:=λD σ H=>te σ H D.rt
def LG(he:PE X e te):PS X (.Return (some e) pos) (VJ te):=by
 intro ae s σ H D I h;exact wpAny_Return_some (bJ (he ae s σ H _ I h) λv s1 ⟨x,H1,I1,r1,q1⟩=>⟨x,σ,H1,I1,r1,q1⟩)
def PX:TS:=λD _ H=>D.rt .non H
def FF:PS X (.Return none pos) PX:=λ_ _ σ H _ I h=>wpAny_Return_none ⟨.non,σ,H,I,rfl,h⟩
def VL(c:TT)(t u:TS):TS:=λD σ H=>c σ H λb H1=>if b=true then t D σ H1 else u D σ H1
def PY{c:Expr}{a b:Fs}{tc:TT}(hc:PT X c tc)(ha:jx X a t)(hb:jx X b u):PS X (.If c a b pos) (VL tc t u):=by
 intro ae s σ H D I h;refine wpAny_If (bJ (hc ae s σ H _ I h) λd s1 zz=>?_);obtain⟨H1,I1,q1⟩:=zz;cases d with
 |true=>exact ha ae s1 σ H1 D I1 q1
 |false=>exact hb ae s1 σ H1 D I1 q1
end
abbrev TG:=V->St->Hp->(St->Hp->Prop)->Prop
abbrev J_:=List V->St->Hp->(St->Hp->Prop)->Prop
def PG(X:Cx)(target:Expr)(t:TG):Prop:=
 ∀(ae:dm)(s:Shared)(σ:St)(H:Hp)(v:V)(u:Value)(Q:St->Hp->Prop),Inv X ae σ H s->RelV v u->t v σ H Q ->
  wpAny (model X.prog X.w) X.A (assign target X.env u) (λ_ s'=>∃σ' H',Inv X ae σ' H' s'/\Q σ' H') X.xe s
def PZ(X:Cx)(ts:D1)(t:J_):Prop:=
 ∀(ae:dm)(s:Shared)(σ:St)(H:Hp)(vs:List V)(us:Bz)(Q:St->Hp->Prop),Inv X ae σ H s->Vals vs us->t vs σ H Q ->
  wpAny (model X.prog X.w) X.A (assignInOrder ((assignEach ts X.env).map (·.2)) us) (λ_ s'=>∃σ' H',Inv X ae σ' H' s'/\Q σ' H') X.xe s
abbrev LH:=V->V->V->Hp->(Hp->Prop)->Prop
def P0(X:Cx)(t:LH):Prop:=
 ∀(ae:dm)(s:Shared)(σ:St)(H:Hp)(o i v:V)(ov iv u:Value)(Q:Hp->Prop),Inv X ae σ H s->RelV o ov->RelV i iv->RelV v u->t o i v H Q ->
  wpAny (model X.prog X.w) X.A (setItem ov iv u) (λ_ s'=>∃H',Inv X ae σ H' s'/\Q H') X.xe s
abbrev UJ:=V->V->Hp->VK->Prop
def Yu(X:Cx)(op:Operator)(t:UJ):Prop:=
 ∀(ae:dm)(s:Shared)(σ:St)(H:Hp)(x y:V)(v u:Value)(Q:VK),Inv X ae σ H s->RelV x v->RelV y u->t x y H Q ->
  wpAny (model X.prog X.w) X.A (inplaceOp op v u) (EP X ae σ Q) X.xe s
section
variable{X:Cx}
def xy(i:Nat):TG:=λv σ H Q=>Q (σ.set i (some v)) H
def qK{i:Nat}{x:Str}(hN:X.N.Nodup)(hi:X.N[i]?=some x)(hx:Loc X.env.scope x)(hf:X.fn x=true\/X.env.scope.names.lookup x=some .local:=by first|exact .inl rfl|exact .inr rfl|assumption):PG X (.Name x pos) (xy i):=by
 intro ae s σ H v u Q I r h;exact wpAny_assign_Name (mD I hN hi hx r (λs' I'=>⟨_,H,I',h⟩) hf)
def P1:J_:=λvs σ H Q=>vs=[]/\Q σ H
def Ka(t:TG)(u:J_):J_:=λvs σ H Q=>∃v r,vs=v::r/\t v σ H λσ' H'=>u r σ' H' Q
def FH:PZ X [] P1:=by
 intro ae s σ H vs us Q I r h;obtain⟨e,h⟩:=h;subst e;cases r;exact assignInOrder_nil ⟨σ,H,I,h⟩
def BN{e:Expr}{es:D1}{t:TG}{u:J_}(h1:PG X e t)(h2:PZ X es u)
  (hs:(assignEach (e::es) X.env).map (·.2)=assign e X.env::(assignEach es X.env).map (·.2):=by rfl):PZ X (e::es) (Ka t u):=by
 intro ae s σ H vs us Q I r h;obtain⟨v,vr,e1,h⟩:=h;subst e1;cases r with
 |cons r rr=>
  rw[hs];refine assignInOrder_cons (bJ (h1 ae s σ H _ _ _ I r h) λ_ s1 zz=>?_);obtain⟨σ1,H1,I1,q1⟩:=zz;exact h2 ae s1 σ1 H1 _ _ Q I1 rr q1
def LJ(K:bD)(n:Nat)(t:J_):TG:=λv σ H Q=>∃a xs,v=.ref a/\lO K H a xs/\xs.length=n/\t xs σ H Q
def BO{es:D1}{k:Nat}{t:J_}{n:Nat}(hc:X.calm=true)(h:PZ X es t)
  (hn:(assignEach es X.env).length=n:=by rfl) (AH:(assignEach es X.env).findIdx? (·.1)=none:=by rfl):PG X (.Tuple es k pos) (LJ X.K n t):=by
 intro ae s σ H v u Q I r hw;obtain⟨a,xs,e1,hq,hl,hw⟩:=hw;subst e1;cases r;obtain⟨aF,rv,ht,hz⟩:=I.tuple hq;refine assign_Tuple_tuple (I.ok.hd hc) ht (by simp[hn,<- hl,rv.length]) AH λh' hx=>?_
 have I1:Inv X ae σ H {s with heap:=h'}:=I.kept (t':=s.toks) λb o e=>hx b o (fG (Heap.lt_size e)) e
 exact h ae _ σ H xs _ Q I1 (by simpa using rv) hw
def VM(to ti:TE)(t:LH):TG:=λv σ H Q=>to σ H λo H1=>ti σ H1 λi H2=>t o i v H2 λH3=>Q σ H3
def LL{o i:Expr}{to ti:TE}{t:LH}(ho:PE X o to)(hi:PE X i ti)(hs:P0 X t)
  (ha:∀v,assign (.Subscript o i pos) X.env v=(do
   let ov <- holding [v] (eval o X.env)
   let iv <- holding [v,ov] (eval i X.env)
   standAt pos
   holding [v,ov,iv] (setItem ov iv v)
   release [v,ov,iv] []):=by intro _;rfl):PG X (.Subscript o i pos) (VM to ti t):=by
 intro ae s σ H v u Q I r h;rw[ha];refine wpAny_bind (wpAny_holding (bJ (ho ae s σ H _ I h) λov s1 zz=>?_));obtain⟨x,H1,I1,r1,q1⟩:=zz;refine wpAny_bind (wpAny_holding (bJ (hi ae s1 σ H1 _ I1 q1) λiv s2 zz=>?_));obtain⟨y,H2,I2,r2,q2⟩:=zz;refine wpAny_bind (wpAny_standAt (wpAny_bind (wpAny_holding (bJ (hs ae s2 σ H2 x y v ov iv u _ I2 r1 r2 r q2) λ_ s3 zz=>?_))));obtain⟨H3,I3,q3⟩:=zz;exact wpAny_release ⟨σ,H3,I3,q3⟩
def P4(te:TE)(g:TG):TS:=λD σ H=>te σ H λx H1=>g x σ H1 D.nx
def LO{tg e:Expr}{te:TE}{g:TG}(he:PE X e te)(hg:PG X tg g)(hs:swapsWithSole [tg] e pos.line X.env=pure false:=by rfl)(hw:swappedStores [tg] e X.env=pure none:=by rfl)
  (h1:(assignEach [tg] X.env).map (·.2)=[assign tg X.env]:=by rfl):PS X (.Assign [tg] e pos) (P4 te g):=by
 intro ae s σ H D I h;refine wpAny_Assign_stores (bJ (he ae s σ H _ I h) λv s1 ⟨x,H1,I1,r1,q1⟩=>?_) hs hw;rw[h1];exact bJ (hg ae s1 σ H1 x v _ I1 r1 q1) λ_ s2 q=>q
def vC{i:Nat}{x:Str}{e:Expr}{te:TE}{bU:Pos}(hN:X.N.Nodup)(hi:X.N[i]?=some x)(hx:Loc X.env.scope x)(he:PE X e te)(hs:swapsWith e (some (.Name x bU)) pos.line X.env=pure false:=by rfl)(hf:X.fn x=true\/X.env.scope.names.lookup x=some .local:=by first|exact .inl rfl|exact .inr rfl|assumption) :
  PS X (.Assign [.Name x bU] e pos) (P4 te (xy i)):=by
 intro ae s σ H D I h;refine wpAny_Assign_Name (bJ (he ae s σ H _ I h) λv s1 ⟨y,H1,I1,r1,q1⟩=>?_) hs;exact mD I1 hN hi hx r1 (λs2 I2=>⟨_,H1,I2,q1⟩) hf
def VN(i:Nat)(te:TE)(ti:UJ):TS:=λD σ H=>∃x,σ[i]?=some (some x)/\te σ H λy H1=>ti x y H1 λz H2=>D.nx (σ.set i (some z)) H2
def LP{i:Nat}{x:Str}{e:Expr}{te:TE}{op:Operator}{ti:UJ}{bU:Pos}(hN:X.N.Nodup)(hi:X.N[i]?=some x)(hx:Loc X.env.scope x)(he:PE X e te)(ho:Yu X op ti)(hf:X.fn x=true\/X.env.scope.names.lookup x=some .local:=by first|exact .inl rfl|exact .inr rfl|assumption) :
  PS X (.AugAssign (.Name x bU) op e pos) (VN i te ti):=by
 intro ae s σ H D I h;obtain⟨v,e1,h⟩:=h;obtain⟨m,hn,hl⟩:=I.loc;have Ç:xo X.env.scope x:=by rcases hx with k|k;exact .inl k;exact .inr (.inl k)
 obtain⟨u,r,l⟩:=hl i x v hi e1 Ç;refine wpAny_AugAssign_Name ?_;have go:wpAny (model X.prog X.w) X.A (eval e X.env) (λw s₂=>wpAny (model X.prog X.w) X.A (inplaceOp op u w) (λr s₃=>wpAny (model X.prog X.w) X.A (storeName X.env x r) (λ_=>SP X ae D .next) X.xe s₃) X.xe s₂) X.xe s:=by
  refine bJ (he ae s σ H _ I h) λw s1 zz=>?_;obtain⟨y,H1,I1,r1,q1⟩:=zz;refine bJ (ho ae s1 σ H1 v y u w _ I1 r r1 q1) λz s2 zz=>?_;obtain⟨zv,H2,I2,r2,q2⟩:=zz;exact mD I2 hN hi hx r2 (λs3 I3=>⟨_,H2,I3,q2⟩) hf
 rcases l with⟨hk,hm⟩|⟨hk,c,hc,hcell⟩
 ·exact wpAny_loadName_local I.ok.kind hk hn hm go
 ·rcases hk with hk|hk
  ·exact wpAny_loadName_cell I.ok.kind hk hc hcell go
  ·rcases hx with k|k
   ·have:X.env.scope.names.lookup x=some .free:=hk
    rw[k]at this;cases this
   ·have:X.env.scope.names.lookup x=some .free:=hk
    rw[k]at this;cases this
def È(f:Int->Int->Int):UJ:=λx y H Q=>∃i j,x=.int i/\y=.int j/\Q (.int (f i j)) H
def LQ:Yu X .Add (È λi j=>i+j):=by
 intro ae s σ H x y v u Q I r1 r2 h;obtain⟨i,j,e1,e2,q⟩:=h;subst e1;subst e2;obtain⟨t,rfl⟩:=r1;obtain⟨t',rfl⟩:=r2;exact iadd_int ⟨.int _,H,I.tok _,⟨_,rfl⟩,q⟩
end
section
variable{X:Cx}
def LR(c:TT)(tb:TS):TS:=λD σ H=>∃W:Nat->St->Hp->Prop,(∃m,W m σ H)/\∀m σ H,W m σ H ->
 c σ H λb H1=>if b=true then ∃N:St->Hp->Prop,(∀σ' H',N σ' H'->∃m',m'<m/\W m' σ' H')/\tb {D with nx:=N,ct:=N,bk:=D.nx} σ H1 else D.nx σ H1
def BP{c:Expr}{body:Fs}{tc:TT}{tb:TS}(hp:PassesOwn (model X.prog X.w) X.A X.env X.xe)(hc:PT X c tc)(hb:jx X body tb):PS X (.While c body [] pos) (LR tc tb):=by
 intro ae s σ H D I h;obtain⟨W,⟨m0,w0⟩,turn⟩:=h;refine wpAny_While (codeAny_whileLoop (λn s'=>∃σ' H',Inv X ae σ' H' s'/\W n σ' H') ?_ m0 ⟨σ,H,I,w0⟩)
 rintro n s1 ⟨σ1,H1,I1,w1⟩
 refine wpAny_passesOwn hp (bJ (hc ae s1 σ1 H1 _ I1 (turn n σ1 H1 w1)) λb s2 zz=>?_);obtain⟨H2,I2,q2⟩:=zz;cases b with
 |true=>
  obtain⟨N,hN,q2⟩:=q2;rw[if_pos rfl];refine wpAny_passesOwn hp (bJ (hb ae s2 σ1 H2 _ I2 q2) λf s3 q3=>?_);cases f with
  |next=>
   obtain⟨σ3,H3,I3,n3⟩:=q3;obtain⟨m',hm,w3⟩:=hN σ3 H3 n3;exact⟨m',hm,σ3,H3,I3,w3⟩
  |cont=>
   obtain⟨σ3,H3,I3,n3⟩:=q3;obtain⟨m',hm,w3⟩:=hN σ3 H3 n3;exact⟨m',hm,σ3,H3,I3,w3⟩
  |brk=>exact q3
  |ret v=>exact q3
 |false=>
  rw[if_neg fL];exact wpAny_execs_nil ⟨σ1,H2,I2,q2⟩
end
structure It where
 go:Nat->Hp->Prop
 yld:Nat->Hp->V->Hp->Prop
 stop:Nat->Hp->Prop
def lP(X:Cx)(ae:dm)(H:Hp)(b:Addr):Prop:=
 H b=none/\b≠X.env.locals/\b∉X.fs/\(b∈X.ex\/X.s₀.heap.objs.size<=b)/\(∀x c,X.env.cells.lookup x=some c->c≠b)/\∀p∈X.pn++ae,p.1≠b
def Inv.oU{X:Cx}{ae:dm}{σ:St}{H H':Hp}{s:Shared}{b:Addr}(I:Inv X ae σ H s)(hb:s.heap.objs.size<=b)(hn:H' b=none):lP X ae H' b:=by
 refine⟨hn,Fl (gP I.lt hb),I.Vz hb,.inr (fK I.sz hb),λx c e z=>?_,λp hp z=>?_⟩
 ·obtain⟨v,q⟩:=I.cell x c e
  exact absurd (gP q.lt (by rw[z];exact hb)) (lG _)
 ·exact absurd (gP (Heap.lt_size (I.pin p hp).1) (by rw[z];exact hb)) (lG _)
structure Turn(P:Program)(w:World)(K:bD)(tg:Expr)(J:It)(fp:D2)(it:Addr)(tn:Nat->Heap->Prop):Prop where
 mem:it∈fp
 obj:∀i h,tn i h->∀b∈fp,∃o,h.get? b=some o/\∀v,o.data≠.cell v
 keep:∀i h h',tn i h->(∀b∈fp,∀o,h.get? b=some o->h'.get? b=some o)->tn i h'
 item:∀(X:Cx),X.prog=P->X.w=w->X.K=K->X.calm=true->∀(i:Nat)(ae:dm)(s:Shared)(σ:St)(H:Hp)(E:Value->Shared->Prop),Inv X ae σ H s->(∀b∈fp,lP X ae H b)->tn i s.heap->J.go i H ->
  wpAny (model P w) X.A (pyNext (.ref it)) (λr s1=>∃u,r=some u /\
   wpAny (model P w) X.A (letOwnedTupleGo tg (.ref it) u) (λ_ s2=>∃x H',Inv X ae σ H' s2/\RelV x u/\J.yld i H x H'/\tn (i+1) s2.heap/\∀b∈fp,H' b=none) E s1) E s
 done:∀(X:Cx),X.prog=P->X.w=w->X.K=K->X.calm=true->∀(i:Nat)(ae:dm)(s:Shared)(σ:St)(H:Hp)(E:Value->Shared->Prop),Inv X ae σ H s->(∀b∈fp,lP X ae H b)->tn i s.heap->J.stop i H ->
  wpAny (model P w) X.A (pyNext (.ref it)) (λr s1=>r=none/\Inv X ae σ H s1) E s
 self:∀(A:Around)(i:Nat)(s:Shared)(Q:Value->Shared->Prop)(E:Value->Shared->Prop),tn i s.heap->Q (.ref it) s->wpAny (model P w) A (pyIter (.ref it)) Q E s
abbrev TI:=St->Hp->(It->Hp->Prop)->Prop
def Yv(X:Cx)(ae:dm)(σ:St)(tg:Expr)(R:It->Hp->Prop)(VO:Value)(s2:Shared):Prop:=
 ∃(it:Addr)(fp:D2)(tn:Nat->Heap->Prop)(J:It)(H':Hp),VO=.ref it/\Inv X ae σ H' s2/\Turn X.prog X.w X.K tg J fp it tn/\tn 0 s2.heap/\(∀b∈fp,lP X ae H' b)/\R J H'
def PI(X:Cx)(tg iter:Expr)(wi:TI):Prop:=
 ∀(ae:dm)(s:Shared)(σ:St)(H:Hp)(R:It->Hp->Prop),Inv X ae σ H s->wi σ H R ->
  wpAny (model X.prog X.w) X.A (eval iter X.env) (λv s1=>wpAny (model X.prog X.w) X.A (pyIter v) (Yv X ae σ tg R) X.xe s1) X.xe s
def pP{M:Model}{A:Around}{E:Value->Shared->Prop}{s:Shared}{tg:Expr}{it:Addr}{u:Value}{o:Obj}{n:String}{vs:Array Value}{Q:Unit->Shared->Prop}(ho:s.heap.get? it=some o)(hc:o.cls=.type n)(hd:o.data=.fields vs)
  (hn:["enumerate","zip","dict_itemiterator","dict_reverseitemiterator","odict_iterator","itertools.zip_longest","itertools.pairwise"].contains n=false) (hQ:Q () s):wpAny M A (letOwnedTupleGo tg (.ref it) u) Q E s:=by
 unfold letOwnedTupleGo;cases tg<;>first
  |exact wpAny_pure hQ
  | (cases u<;>first
    |exact wpAny_pure hQ
    | (refine wpAny_bind (wpAny_load ho ?_)
       rw[hc,hd];show wpAny M A (if(["enumerate","zip","dict_itemiterator","dict_reverseitemiterator","odict_iterator","itertools.zip_longest","itertools.pairwise"].contains n&&vs[0]? == some (rawInt _))=true then _ else _) Q E s
       rw[if_neg (by intro h;rw[hn,Bu]at h;cases h)]
       exact wpAny_pure hQ))
def UK(K:bD)(a:Addr):It:=
 ⟨λi H=>∃xs x,cJ K H a xs/\xs[i]?=some x,λi H x H'=>H'=H/\∀xs,cJ K H a xs->xs[i]?=some x,λi H=>∃xs,cJ K H a xs/\xs.length<=i⟩
def VP(K:bD)(a:Addr):It:=
 ⟨λi H=>∃xs x,lO K H a xs/\xs[i]?=some x,λi H x H'=>H'=H/\∀xs,lO K H a xs->xs[i]?=some x,λi H=>∃xs,lO K H a xs/\xs.length<=i⟩
def P5(lo:Int)(n:Nat):It:=⟨λi _=>i<n,λi H x H'=>H'=H/\x=.int (lo+i),λi _=>n<=i⟩
def zy{P:Program}{w:World}{K:bD}{tg:Expr}(a it:Addr):Turn P w K tg (UK K a) [it] it (λi h=>h.IsListIter it a i) where
 mem:=by simp
 obj:=λi h st b hb=>by
  have e:b=it:=by simpa using hb
  subst e;obtain⟨o,e,c,d⟩:=st;exact⟨o,e,λv z=>by rw[d]at z;cases z⟩
 keep:=λi h h' st k=>st.at λo e=>k it (by simp) o e
 item:=by
  intro X hP hw hK hc i ae s σ H E I hf st hg;subst hP hw hK;obtain⟨xs,x,hq,hx⟩:=hg;obtain⟨aF,rv,p,hz⟩:=I.list hq;obtain⟨u,hu,ru⟩:=rv.get hx;obtain⟨f0,f1,f2,f3,f4,f5⟩:=hf it (by simp)
  refine wpAny_pyNext_list_item st p.isList (x:=u) (by simpa using hu) λh' mF sb=>?_
  have I1:Inv X ae σ H {s with heap:=h'}:=I.turned (t':=s.toks) (λb o hb e=>(sb.2 b hb).trans e) f0 f1 f3 f4 f5
  obtain⟨o,e,c,d⟩:=id mF;exact⟨u,rfl,pP (s:={s with heap:=h'}) e c d (by decide) ⟨x,H,I1,ru,⟨rfl,λys hy=>by rw[I.BJ hy hq];exact hx⟩,mF,λb hb=>(hf b hb).1⟩⟩
 done:=by
  intro X hP hw hK hc i ae s σ H E I hf st hg;subst hP hw hK;obtain⟨xs,hq,hx⟩:=hg;obtain⟨aF,rv,p,hz⟩:=I.list hq;obtain⟨f0,f1,f2,f3,f4,f5⟩:=hf it (by simp)
  have hl:=rv.length;exact wpAny_pyNext_list_end (I.ok.hd hc) st p.isList (by simp;omega) λh' eb=>⟨rfl,I.turned (t':=s.toks) (λb o hb e=>eb b o hb e) f0 f1 f3 f4 f5⟩
 self:=λ_ _ _ _ _ st h=>wpAny_pyIter_listiter st h
def vD{P:Program}{w:World}{K:bD}{tg:Expr}(a it:Addr):Turn P w K tg (VP K a) [it] it (λi h=>h.IsTupleIter it a i) where
 mem:=by simp
 obj:=λi h st b hb=>by
  have e:b=it:=by simpa using hb
  subst e;obtain⟨o,e,c,d⟩:=st;exact⟨o,e,λv z=>by rw[d]at z;cases z⟩
 keep:=λi h h' st k=>st.at λo e=>k it (by simp) o e
 item:=by
  intro X hP hw hK hc i ae s σ H E I hf st hg;subst hP hw hK;obtain⟨xs,x,hq,hx⟩:=hg;obtain⟨aF,rv,p,hz⟩:=I.tuple hq;obtain⟨u,hu,ru⟩:=rv.get hx;obtain⟨f0,f1,f2,f3,f4,f5⟩:=hf it (by simp)
  refine wpAny_pyNext_tuple_item st (show s.heap.IsTuple a aF.toArray from p) (x:=u) (by simpa using hu) λh' mF sb=>?_
  have I1:Inv X ae σ H {s with heap:=h'}:=I.turned (t':=s.toks) (λb o hb e=>(sb.2 b hb).trans e) f0 f1 f3 f4 f5
  obtain⟨o,e,c,d⟩:=id mF;exact⟨u,rfl,pP (s:={s with heap:=h'}) e c d (by decide) ⟨x,H,I1,ru,⟨rfl,λys hy=>by rw[I.zx hy hq];exact hx⟩,mF,λb hb=>(hf b hb).1⟩⟩
 done:=by
  intro X hP hw hK hc i ae s σ H E I hf st hg;subst hP hw hK;obtain⟨xs,hq,hx⟩:=hg;obtain⟨aF,rv,p,hz⟩:=I.tuple hq;obtain⟨f0,f1,f2,f3,f4,f5⟩:=hf it (by simp)
  have hl:=rv.length;exact wpAny_pyNext_tuple_end (I.ok.hd hc) st (show s.heap.IsTuple a aF.toArray from p) (by simp;omega) λh' eb=>⟨rfl,I.turned (t':=s.toks) (λb o hb e=>eb b o hb e) f0 f1 f3 f4 f5⟩
 self:=λ_ _ _ _ _ st h=>wpAny_pyIter_tupleiter st h
def vE{P:Program}{w:World}{K:bD}{tg:Expr}(it:Addr)(lo:Int)(n:Nat):Turn P w K tg (P5 lo n) [it] it (λi h=>IsRangeIter h it (lo+(i:Nat)*1) ((n:Int)-(i:Nat)) 1) where
 mem:=by simp
 obj:=λi h st b hb=>by
  have e:b=it:=by simpa using hb
  subst e;exact⟨_,st,λv z=>by
   have z':Data.fields _=Data.cell v:=z;cases z'⟩
 keep:=λi h h' st k=>k it (by simp) _ st
 item:=by
  intro X hP hw hK hc i ae s σ H E I hf st hg;subst hP hw hK;obtain⟨f0,f1,f2,f3,f4,f5⟩:=hf it (by simp)
  have W:=Walks.range (prog:=X.prog) (w:=X.w) (I.ok.hd hc) it lo 1 n;refine W.item i s _ _ hg st λv h' tk hv mF kk=>?_;obtain⟨t,rfl⟩:=hv;have I1:Inv X ae σ H {s with heap:=h',toks:=tk}:=I.turned (λb o hb e=>kk b o (by simpa using hb) e) f0 f1 f3 f4 f5
  refine⟨_,rfl,pP (s:={s with heap:=h',toks:=tk}) (n := "range_iterator") mF rfl rfl (by decide) ⟨.int (lo+i),H,I1,⟨t,?_⟩,⟨rfl,rfl⟩,mF,λb hb=>(hf b hb).1⟩⟩
  rw[Int.mul_one]
 done:=by
  intro X hP hw hK hc i ae s σ H E I hf st hg;subst hP hw hK;obtain⟨f0,f1,f2,f3,f4,f5⟩:=hf it (by simp)
  exact wpAny_pyNext_range_end (I.ok.hd hc) st (by have:n<=i:=hg;omega) λh' eb=>⟨rfl,I.turned (t':=s.toks) (λb o hb e=>eb b o hb e) f0 f1 f3 f4 f5⟩
 self:=λ_ _ _ _ _ st h=>wpAny_pyIter_rangeiter st h
section
variable{X:Cx}{tg:Expr}
def P6(K:bD)(tl:TE):TI:=λσ H R=>tl σ H λx H1=>∃a,x=.ref a/\(∃xs,cJ K H1 a xs)/\R (UK K a) H1
def VQ(K:bD)(tl:TE):TI:=λσ H R=>tl σ H λx H1=>∃a,x=.ref a/\(∃xs,lO K H1 a xs)/\R (VP K a) H1
def FI{l:Expr}{tl:TE}(hl:PE X l tl):PI X tg l (P6 X.K tl):=by
 intro ae s σ H R I h;refine bJ (hl ae s σ H _ I h) λv s1 zz=>?_;obtain⟨x,H1,I1,r1,q1⟩:=zz;obtain⟨a,e,⟨xs,hq⟩,q⟩:=q1;subst e;cases r1;obtain⟨aF,rv,p,hz⟩:=I1.list hq;refine wpAny_pyIter_list p.isList ?_;refine⟨s1.heap.objs.size,[s1.heap.objs.size],_,_,H1,rfl,I1.kept (t':=s1.toks) λb o e=>Heap.get?_push_of_some _ e,zy a _,⟨_,Heap.get?_push_size _ rfl,rfl,rfl⟩,λb hb=>?_,q⟩;have e:b=s1.heap.objs.size:=by simpa using hb
 subst e;exact I1.oU (bV _) (I1.bG.fresh (bV _))
def LS{l:Expr}{tl:TE}(hl:PE X l tl):PI X tg l (VQ X.K tl):=by
 intro ae s σ H R I h;refine bJ (hl ae s σ H _ I h) λv s1 zz=>?_;obtain⟨x,H1,I1,r1,q1⟩:=zz;obtain⟨a,e,⟨xs,hq⟩,q⟩:=q1;subst e;cases r1;obtain⟨aF,rv,p,hz⟩:=I1.tuple hq;refine wpAny_pyIter_tuple (show s1.heap.IsTuple a aF.toArray from p) ?_;refine⟨s1.heap.objs.size,[s1.heap.objs.size],_,_,H1,rfl,I1.kept (t':=s1.toks) λb o e=>Heap.get?_push_of_some _ e,vD a _,⟨_,Heap.get?_push_size _ rfl,rfl,rfl⟩,λb hb=>?_,q⟩;have e:b=s1.heap.objs.size:=by simpa using hb
 subst e;exact I1.oU (bV _) (I1.bG.fresh (bV _))
def sQ{ae:dm}{σ:St}{H:Hp}{s:Shared}{R:It->Hp->Prop}{E:Value->Shared->Prop}{lo hi:Int}{t u v:Tok}{tk:Nat}(I:Inv X ae σ H s)(h1:-(2^62)<=lo)(h2:lo<2^62)(h3:-(2^62)<=hi)(h4:hi<2^62)
  (q:R (P5 lo (hi-lo).toNat) H):wpAny (model X.prog X.w) X.A (pyIter (.ref s.heap.objs.size)) (Yv X ae σ tg R) E {s with heap:=s.heap.push {cls:=.type "range",data:=.fields #[.int lo t,.int hi u,.int 1 v]},toks:=tk}:=by
 refine wpAny_pyIter_range (IsRange.new ..) (small_one h1 h2 h3 h4) ?_;have I1:Inv X ae σ H {s with heap:=s.heap.push {cls:=.type "range",data:=.fields #[.int lo t,.int hi u,.int 1 v]},toks:=tk}:=I.kept λb o e=>Heap.get?_push_of_some _ e
 refine⟨(s.heap.push {cls:=.type "range",data:=.fields #[.int lo t,.int hi u,.int 1 v]}).objs.size,[(s.heap.push {cls:=.type "range",data:=.fields #[.int lo t,.int hi u,.int 1 v]}).objs.size],_,_,H,rfl,
  I1.kept (t':=tk) λb o e=>Heap.get?_push_of_some _ e,vE _ lo (hi-lo).toNat,?_,λb hb=>?_,q⟩
 ·have e1:lo+((0:Nat):Int)*1=lo:=by simp
  have e2:(((hi-lo).toNat:Nat):Int)-((0:Nat):Int)=Builtin.Range.rangeSize lo hi 1:=by rw[rangeSize_one];split<;>omega
  show IsRangeIter _ _ (lo+((0:Nat):Int)*1) ((((hi-lo).toNat:Nat):Int)-((0:Nat):Int)) 1;rw[e1,e2];exact Heap.get?_push_size _ rfl
 ·have e:b=(s.heap.push {cls:=.type "range",data:=.fields #[.int lo t,.int hi u,.int 1 v]}).objs.size:=by simpa using hb
  subst e;exact I1.oU (bV _) (I1.bG.fresh (bV _))
def P7(ta:TA):TI:=λσ H R=>ta σ H λvs H1=>∃j:Int,vs=[.int j]/\-(2^62)<=j/\j<2^62/\R (P5 0 j.toNat) H1
def P8(ta:TA):TI:=λσ H R=>ta σ H λvs H1=>∃i j:Int,vs=[.int i,.int j]/\(-(2^62)<=i/\i<2^62/\-(2^62)<=j/\j<2^62)/\R (P5 i (j-i).toNat) H1
def zE{a:Expr}{ta:TA}{p pos:Pos}(hg:Gl X "range")(hm:X.mg "range" = none)(ha:PA X [a] ta)(hs:starEach [a] X.env=[(false,eval a X.env)]:=by rfl):PI X tg (.Call (.Name "range" p) [a] [] pos) (P7 ta):=by
 intro ae s σ H R I h;refine Call_ (fk I hg hm boot_range (zo (bJ (ha pos ae s σ H _ I h) λus s1 ⟨vs,H1,I1,r1,q1⟩=>?_) hs rfl));obtain⟨j,e,q1,q2,q⟩:=q1;subst e;cases r1 with
 |cons r rr=>
  cases rr;obtain⟨t,rfl⟩:=r;exact call_range_1 (sQ I1 (by omega) (by omega) q1 q2 (by simpa using q))
def zF{a b:Expr}{ta:TA}{p pos:Pos}(hg:Gl X "range")(hm:X.mg "range" = none)(ha:PA X [a,b] ta)(hs:starEach [a,b] X.env=[(false,eval a X.env),(false,eval b X.env)]:=by rfl)(u9:starEach [b] X.env=[(false,eval b X.env)]:=by rfl) :
  PI X tg (.Call (.Name "range" p) [a,b] [] pos) (P8 ta):=by
 intro ae s σ H R I h;refine Call_ (fk I hg hm boot_range (zo (bJ (ha pos ae s σ H _ I h) λus s1 ⟨vs,H1,I1,r1,q1⟩=>?_) (by rw[hs,u9]) (by rw[u9];rfl)))
 obtain⟨i,j,e,⟨q1,q2,q3,q4⟩,q⟩:=q1;subst e;cases r1 with
 |cons r rr=>
  cases rr with
  |cons r' rr=>
   cases rr;obtain⟨t,rfl⟩:=r;obtain⟨t',rfl⟩:=r';exact call_range_2 (sQ I1 q1 q2 q3 q4 q)
def VR(wi:TI)(g:TG)(tb:TS):TS:=λD σ H=>wi σ H λJ H1=>∃W:Nat->Nat->St->Hp->Prop,(∃m,W 0 m σ H1)/\∀i m σ H,W i m σ H ->
 (J.stop i H/\D.nx σ H)\/(J.go i H/\∃N:St->Hp->Prop,(∀σ' H',N σ' H'->∃m',m'<m/\W (i+1) m' σ' H')/\∀x H',J.yld i H x H'->g x σ H' λσ2 H2=>tb {D with nx:=N,ct:=N,bk:=D.nx} σ2 H2)
def mG(fp:D2)(h:Heap):dm:=fp.filterMap λb=>(h.get? b).map λo=>(b,o)
def gS{fp:D2}{h:Heap}{b:Addr}{o:Obj}(hb:b∈fp)(e:h.get? b=some o):(b,o)∈mG fp h:=Be.mpr ⟨b,hb,by rw[e];rfl⟩
def zG{fp:D2}{h:Heap}{p:Addr×Obj}(hp:p∈mG fp h):p.1∈fp/\h.get? p.1=some p.2:=by
 obtain⟨b,hb,e⟩:=Be.mp hp;cases q:h.get? b with
 |none=>rw[q]at e;cases e
 |some o=>
  rw[q]at e;have e':(b,o)=p:=jX.inj e;subst e';exact⟨hb,q⟩
def Inv.pinned{ae:dm}{σ:St}{H:Hp}{s:Shared}{fp:D2}(I:Inv X ae σ H s)(hf:∀b∈fp,lP X ae H b)(ho:∀b∈fp,∃o,s.heap.get? b=some o/\∀v,o.data≠.cell v):Inv X (ae++mG fp s.heap) σ H s:=
 I.qI λp hp=>(sF.mp hp).elim (λz=>I.pin p (jt _ z)) λz=>by
  obtain⟨hb,e⟩:=zG z;obtain⟨f0,f1,f2,_⟩:=hf p.1 hb;obtain⟨o,e',d⟩:=ho p.1 hb;rw[e]at e';cases e';exact⟨e,f0,f1,f2,d⟩
def Inv.iD{ae pl:dm}{σ:St}{H:Hp}{s:Shared}(I:Inv X (ae++pl) σ H s):Inv X ae σ H s:=I.qI λp hp=>I.pin p (jt _ (Js _ hp))
def LU{iter:Expr}{body:Fs}{wi:TI}{g:TG}{tb:TS}{pos:Pos}(hp:PassesOwn (model X.prog X.w) X.A X.env X.xe)(hc:X.calm=true)(hi:PI X tg iter wi)(hg:PG X tg g)(hb:jx X body tb)
  (hs:∀x,foldedSetIterable iter X.env x=pure x:=by intro _;rfl):PS X (.For tg iter body [] pos) (VR wi g tb):=by
 intro ae s σ H D I h;refine wpAny_For (bJ (hi ae s σ H _ I h) λv s1 h1=>bJ h1 λVO s2 h2=>?_) hs;obtain⟨it,fp,tn,J,H2,e,I2,T,FJ,f2,W,⟨m0,w0⟩,turn⟩:=h2;subst e;have vG:∀{H':Hp},(∀b∈fp,H' b=none)->∀b∈fp,lP X ae H' b:=λhn b hb=>⟨hn b hb,(f2 b hb).2⟩;refine codeAny_forLoop_any (λn s'=>∃i σ' H',Inv X ae σ' H' s'/\tn i s'.heap/\(∀b∈fp,H' b=none)/\W i n σ' H') ?_ m0 ⟨0,σ,H2,I2,FJ,λb hb=>(f2 b hb).1,w0⟩
 rintro n s3 ⟨i,σ3,H3,I3,st3,fr3,w3⟩
 rcases turn i n σ3 H3 w3 with⟨stop,qn⟩|⟨go,N,hN,step⟩
 ·refine wpAny_passesOwn hp (bJ (T.done X rfl rfl rfl hc i ae s3 σ3 H3 X.xe I3 (vG fr3) st3 stop) λr s4 zz=>?_)
  obtain⟨hr,I4⟩:=zz;subst hr;exact wpAny_execs_nil ⟨σ3,H3,I4,qn⟩
 ·refine wpAny_passesOwn hp (bJ (T.item X rfl rfl rfl hc i ae s3 σ3 H3 X.xe I3 (vG fr3) st3 go) λr s4 zz=>?_)
  obtain⟨u,hr,h4⟩:=zz;subst hr;refine wpAny_passesOwn hp (bJ h4 λ_ s5 zz=>?_);obtain⟨x,H5,I5,r5,y5,FN,UL⟩:=zz;have É:=I5.pinned (vG UL) (T.obj _ _ FN);refine wpAny_passesOwn hp (bJ (hg _ s5 σ3 H5 x u _ É r5 (step x H5 y5)) λ_ s6 zz=>?_);obtain⟨σ6,H6,I6,q6⟩:=zz;refine wpAny_passesOwn hp (bJ (hb _ s6 σ6 H6 _ I6 q6) λf s7 q7=>?_);have again:∀{σ7:St}{H7:Hp},Inv X (ae++mG fp s5.heap) σ7 H7 s7->N σ7 H7->∃m,m<n/\∃i σ' H',Inv X ae σ' H' s7/\tn i s7.heap/\(∀b∈fp,H' b=none)/\W i m σ' H':=λ{σ7 H7} I7 n7=>by
   obtain⟨m',hm,w7⟩:=hN σ7 H7 n7;refine⟨m',hm,i+1,σ7,H7,I7.iD,T.keep _ _ _ FN λb hb o e=>(I7.pin (b,o) (jt _ (jt _ (gS hb e)))).1,λb hb=>?_,w7⟩;obtain⟨o,e,d⟩:=T.obj _ _ FN b hb;exact(I7.pin (b,o) (jt _ (jt _ (gS hb e)))).2.1
  cases f with
  |next=>obtain⟨σ7,H7,I7,n7⟩:=q7;exact again I7 n7
  |cont=>obtain⟨σ7,H7,I7,n7⟩:=q7;exact again I7 n7
  |brk=>obtain⟨σ7,H7,I7,q7⟩:=q7;exact⟨σ7,H7,I7.iD,q7⟩
  |ret v=>obtain⟨x7,σ7,H7,I7,r7,q7⟩:=q7;exact⟨x7,σ7,H7,I7.iD,r7,q7⟩
end
abbrev R2:=V->V->Hp->VK->Prop
def gk(X:Cx)(f:Value->Value->Sem Value)(r:R2):Prop:=
 ∀(ae:dm)(s:Shared)(σ:St)(H:Hp)(x y:V)(v u:Value)(Q:VK),Inv X ae σ H s->RelV x v->RelV y u->r x y H Q ->
  wpAny (model X.prog X.w) X.A (f v u) (EP X ae σ Q) X.xe s
def VS(X:Cx)(f:Value->Sem Value)(r:V->Hp->VK->Prop):Prop:=
 ∀(ae:dm)(s:Shared)(σ:St)(H:Hp)(x:V)(v:Value)(Q:VK),Inv X ae σ H s->RelV x v->r x H Q ->
  wpAny (model X.prog X.w) X.A (f v) (EP X ae σ Q) X.xe s
def eV(X:Cx)(f:Value)(r:List V->Hp->VK->Prop):Prop:=
 ∀(ae:dm)(s:Shared)(σ:St)(H:Hp)(xs:List V)(us:Bz)(Q:VK),Inv X ae σ H s->Vals xs us->r xs H Q ->
  wpAny (model X.prog X.w) X.A (call f us) (EP X ae σ Q) X.xe s
def VT(X:Cx)(r:V->Hp->(Bool->Hp->Prop)->Prop):Prop:=
 ∀(ae:dm)(s:Shared)(σ:St)(H:Hp)(x:V)(v:Value)(Q:Bool->Hp->Prop),Inv X ae σ H s->RelV x v->r x H Q ->
  wpAny (model X.prog X.w) X.A (truthy v) (TP X ae σ Q) X.xe s
def LV(r:R2)(ta tb:TE):TE:=λσ H Q=>ta σ H λx H1=>tb σ H1 λy H2=>r x y H2 Q
def Yw(r:V->Hp->VK->Prop)(ta:TE):TE:=λσ H Q=>ta σ H λx H1=>r x H1 Q
def rI(C:Int->Int->Prop)(g:Int->Int->V):R2:=λx y H Q=>∃i j,x=.int i/\y=.int j/\C i j/\Q (g i j) H
def AI(g:Int->Int->V):R2:=λx y H Q=>∃i j,x=.int i/\y=.int j/\Q (g i j) H
def rU(g:Int->V):V->Hp->VK->Prop:=λx H Q=>∃i,x=.int i/\Q (g i) H
section
variable{X:Cx}{a c:Expr}{ta tb tc:TE}
def LW(ha:PE X a ta)(hb:PE X b tb){ae:dm}{s:Shared}{σ:St}{H:Hp}{R:V->V->Hp->Prop}(I:Inv X ae σ H s)
  (h:ta σ H λx H1=>tb σ H1 λy H2=>R x y H2) {Q:Value->Shared->Prop} {f:Value->Value->Sem Value}
  (hf:∀v u s2 x y H2,Inv X ae σ H2 s2->RelV x v->RelV y u->R x y H2->wpAny (model X.prog X.w) X.A (f v u) Q X.xe s2) :
  wpAny (model X.prog X.w) X.A (eval a X.env) (λv s₁=>wpAny (model X.prog X.w) X.A (eval b X.env) (λu s₂=>wpAny (model X.prog X.w) X.A (f v u) Q X.xe s₂) X.xe s₁) X.xe s:=by
 refine bJ (ha ae s σ H _ I h) λv s1 zz=>?_;obtain⟨x,H1,I1,r1,q1⟩:=zz;refine bJ (hb ae s1 σ H1 _ I1 q1) λu s2 zz=>?_;obtain⟨y,H2,I2,r2,q2⟩:=zz;exact hf v u s2 x y H2 I2 r1 r2 q2
def mH{op:Operator}{r:R2}(ho:gk X (binaryOp op) r)(ha:PE X a ta)(hb:PE X b tb):PE X (.BinOp a op b pos) (LV r ta tb):=by
 intro ae s σ H Q I h;exact wpAny_BinOp (LW ha hb I h λv u s2 x y H2 I2 rx ry q=>ho ae s2 σ H2 x y v u Q I2 rx ry q)
def P9{op:UnaryOp}{r:V->Hp->VK->Prop}(ho:VS X (unaryOp op) r)(ha:PE X a ta):PE X (.UnaryOp op a pos) (Yw r ta):=by
 intro ae s σ H Q I h;exact UnaryOp_ (bJ (ha ae s σ H _ I h) λv s1 ⟨x,H1,I1,r1,q1⟩=>ho ae s1 σ H1 x v Q I1 r1 q1)
def VU{f:Value->Value->Sem Value}{C:Int->Int->Prop}{g:Int->Int->Int}
  (rule:∀(i j:Int)(t u:Tok)(s:Shared)(Q:Value->Shared->Prop)(E:Value->Shared->Prop),C i j->Q (.int (g i j) s.toks) {s with toks:=s.toks+1}->wpAny (model X.prog X.w) X.A (f (.int i t) (.int j u)) Q E s) :
  gk X f (rI C λi j=>.int (g i j)):=by
 intro ae s σ H x y v u Q I rx ry h;obtain⟨i,j,rfl,rfl,hc,q⟩:=h;obtain⟨t,rfl⟩:=rx;obtain⟨t',rfl⟩:=ry;exact rule i j t t' s _ _ hc ⟨.int (g i j),H,I.tok _,⟨_,rfl⟩,q⟩
def P_{f:Value->Value->Sem Value}{g:Int->Int->Int}
  (rule:∀(i j:Int)(t u:Tok)(s:Shared)(Q:Value->Shared->Prop)(E:Value->Shared->Prop),Q (.int (g i j) s.toks) {s with toks:=s.toks+1}->wpAny (model X.prog X.w) X.A (f (.int i t) (.int j u)) Q E s) :
  gk X f (AI λi j=>.int (g i j)):=by
 intro ae s σ H x y v u Q I rx ry h;obtain⟨i,j,rfl,rfl,q⟩:=h;obtain⟨t,rfl⟩:=rx;obtain⟨t',rfl⟩:=ry;exact rule i j t t' s _ _ ⟨.int (g i j),H,I.tok _,⟨_,rfl⟩,q⟩
def FQ{f:Value->Value->Sem Value}{g:Int->Int->Bool}
  (rule:∀(i j:Int)(t u:Tok)(s:Shared)(Q:Value->Shared->Prop)(E:Value->Shared->Prop),Q (.bool (g i j)) s->wpAny (model X.prog X.w) X.A (f (.int i t) (.int j u)) Q E s) :
  gk X f (AI λi j=>.bl (g i j)):=by
 intro ae s σ H x y v u Q I rx ry h;obtain⟨i,j,rfl,rfl,q⟩:=h;obtain⟨t,rfl⟩:=rx;obtain⟨t',rfl⟩:=ry;exact rule i j t t' s _ _ ⟨.bl (g i j),H,I,rfl,q⟩
def Qa(i j:Int):Prop:=0<j/\j<1073741824
def LX(i j:Int):Prop:=(-(2^64)<i/\i<2^64)\/(-(2^64)<j/\j<2^64)
def LX.ok{i j:Int}(h:LX i j):IntMulOk i j:=by
 rcases h with⟨h1,h2⟩|⟨h1,h2⟩
 ·exact .of_left (intBits_le_64 h1 h2)
 ·exact .of_right (intBits_le_64 h1 h2)
def LY:gk X (binaryOp .Add) (AI λi j=>.int (i+j)):=P_ λ_ _ _ _ _ _ _ q=>add_int q
def LZ:gk X (binaryOp .Sub) (AI λi j=>.int (i-j)):=P_ λ_ _ _ _ _ _ _ q=>sub_int q
def FU:gk X (binaryOp .FloorDiv) (rI Qa λi j=>.int (i/j)):=VU λi j _ _ _ _ _ hc q=>by
 have h1:(0:Int)<j:=hc.1;have h2:j<1073741824:=hc.2;exact floordiv_int (by omega) (by rw[Int.fdiv_eq_ediv_of_nonneg i (by omega)];exact q) (.inl (PyProof.noPylong_small (by omega)))
def L5:gk X (binaryOp .Mod) (rI (λ_ j=>0<j) λi j=>.int (i % j)):=VU λi j _ _ _ _ _ hc q=>by
 have h1:(0:Int)<j:=hc;exact mod_int' (by omega) (by rw[Int.fmod_eq_emod_of_nonneg i (by omega)];exact q)
def Ê{f:Value->Sem Value}{g:Int->Int}
  (rule:∀(i:Int)(t:Tok)(s:Shared)(Q:Value->Shared->Prop)(E:Value->Shared->Prop),Q (.int (g i) s.toks) {s with toks:=s.toks+1}->wpAny (model X.prog X.w) X.A (f (.int i t)) Q E s) :
  VS X f (rU λi=>.int (g i)):=by
 intro ae s σ H x v Q I rx h;obtain⟨i,rfl,q⟩:=h;obtain⟨t,rfl⟩:=rx;exact rule i t s _ _ ⟨.int (g i),H,I.tok _,⟨_,rfl⟩,q⟩
def L6:VS X (unaryOp .USub) (rU λi=>.int (-i)):=Ê λ_ _ _ _ _ q=>neg_int q
end
section
variable{X:Cx}{a c:Expr}{ta tb tc:TE}
def iE{ae:dm}{σ:St}{H:Hp}{s:Shared}{Q:VK}{k k':Bool}(I:Inv X ae σ H s)(q:Q (.bl k) H)(e:k=k'):EP X ae σ Q (.bool k') s:=by
 subst e;exact⟨.bl k,H,I,rfl,q⟩
def Qc:gk X (compareOp .Lt) (AI λi j=>.bl (decide (i<j))):=FQ λ_ _ _ _ _ _ _ q=>lt_int q
def Qd:gk X (compareOp .LtE) (AI λi j=>.bl (decide (i<=j))):=FQ λ_ _ _ _ _ _ _ q=>le_int q
def Qe:gk X (compareOp .Gt) (AI λi j=>.bl (decide (j<i))):=FQ λ_ _ _ _ _ _ _ q=>gt_int q
def Qf:gk X (compareOp .GtE) (AI λi j=>.bl (decide (j<=i))):=FQ λ_ _ _ _ _ _ _ q=>ge_int q
def zH:gk X (compareOp .In) (λx y H Q=>∃i j,x=.str i/\y=.str j/\Q (.bl (!(Builtin.Str.occurrences j i 0 j.length 1).isEmpty)) H):=by
 intro ae s σ H x y v u Q I rx ry h;obtain⟨i,j,rfl,rfl,q⟩:=h;obtain⟨t,rfl⟩:=rx;obtain⟨t',rfl⟩:=ry;exact in_str (iE I q rfl)
def L7:gk X (compareOp .Is) (λx y H Q=>y=.non/\Q (.bl (decide (x=.non))) H):=by
 intro ae s σ H x y v u Q I rx ry h;obtain⟨rfl,q⟩:=h;cases ry;refine is_none_gen (iE I q ?_);cases x<;>first
  |(cases rx;rfl)
  |(obtain⟨t,rfl⟩:=rx;rfl)
def FW:gk X (compareOp .IsNot) (λx y H Q=>y=.non/\Q (.bl (!decide (x=.non))) H):=by
 intro ae s σ H x y v u Q I rx ry h;obtain⟨rfl,q⟩:=h;cases ry;refine isnot_none_gen (iE I q ?_);cases x<;>first
  |(cases rx;rfl)
  |(obtain⟨t,rfl⟩:=rx;rfl)
def qL:gk X (compareOp .NotIn) (λx y H Q=>∃i j,x=.str i/\y=.str j/\Q (.bl (!(!(Builtin.Str.occurrences j i 0 j.length 1).isEmpty))) H):=by
 intro ae s σ H x y v u Q I rx ry h;obtain⟨i,j,rfl,rfl,q⟩:=h;obtain⟨t,rfl⟩:=rx;obtain⟨t',rfl⟩:=ry;exact notIn_str (iE I q rfl)
def gk.or{f:Value->Value->Sem Value}{r r':R2}(h:gk X f r)(h':gk X f r'):gk X f (λx y H Q=>r x y H Q\/r' x y H Q):=by
 intro ae s σ H x y v u Q I rx ry q;rcases q with q|q
 ·exact h ae s σ H x y v u Q I rx ry q
 ·exact h' ae s σ H x y v u Q I rx ry q
def qM{op:CmpOp}{r:R2}(ho:gk X (compareOp op) r)(ha:PE X a ta)(hb:PE X b tb)(hm:behindInMarks op b=false):PE X (.Compare a [op] [b] pos) (LV r ta tb):=by
 intro ae s σ H Q I h;exact wpAny_Compare1 (LW ha hb I h λv u s2 x y H2 I2 rx ry q=>ho ae s2 σ H2 x y v u Q I2 rx ry q) hm
def Qg(t:TE):TT:=λσ H Q=>t σ H λx H'=>∃k,x=.bl k/\Q k H'
def qN{op:CmpOp}{r:R2}(ho:gk X (compareOp op) r)(ha:PE X a ta)(hb:PE X b tb)(hm:behindInMarks op b=false):PT X (.Compare a [op] [b] pos) (Qg (LV r ta tb)):=by
 intro ae s σ H Q I h;refine wpAny_isTrue_Compare1 (bJ (ha ae s σ H _ I h) λv s1 ⟨x,H1,I1,r1,q1⟩=>bJ (hb ae s1 σ H1 _ I1 q1) λu s2 ⟨y,H2,I2,r2,q2⟩=>
  bJ (ho ae s2 σ H2 x y v u _ I2 r1 r2 q2) λc s3 ⟨z,H3,I3,r3,k,e,q3⟩=>?_) hm
 subst e;cases r3;exact wpAny_truthy_bool ⟨H3,I3,q3⟩
def L8(K:bD)(x:V)(H:Hp)(k:Bool):Prop:=
 match x with
 |.non=>k=false
 |.bl b=>k=b
 |.int i=>k=(i != 0)
 |.str y=>y.length<=sizeLine/\k=((y.length:Int) != 0)
 |.byt y=>y.size<=sizeLine/\k=((y.size:Int) != 0)
 |.ref p=>(∃xs,cJ K H p xs/\k=!xs.isEmpty)\/(∃xs,lO K H p xs/\k=!xs.isEmpty)\/∃aE,H p=some (.dK aE)/\k=!aE.isEmpty
 |_=>False
def vH{κ:Type}{aE:List (κ×V)}{vs:List (κ×Value)}(r:KV aE vs):(!vs.isEmpty)=!aE.isEmpty:=by
 cases r<;>rfl
def mJ{xs:List V}{aF:Bz}(r:Vals xs aF):(!aF.toArray.isEmpty)=!xs.isEmpty:=by
 cases r<;>simp
def kD:(sizeLine:Nat)<2^63:=by rw[sizeLine_eq];decide
def L_:VT X (λx H Q=>∃k,L8 X.K x H k/\Q k H):=by
 intro ae s σ H x v Q I rx h;obtain⟨k,e,q⟩:=h;have hl:=kD;have hs:sizeLine=16777216:=sizeLine_eq;cases x with
 |non=>
  cases rx;have e':k=false:=e;subst e';exact truthy_none ⟨H,I,q⟩
 |bl b=>
  cases rx;have e':k=b:=e;subst e';exact wpAny_truthy_bool ⟨H,I,q⟩
 |int i=>
  obtain⟨t,rfl⟩:=rx;have e':k=(i != 0):=e;subst e';exact PySem.P.truthy_int ⟨H,I,q⟩
 |str y=>
  obtain⟨t,rfl⟩:=rx;obtain⟨hy,e'⟩:y.length<=sizeLine/\k=((y.length:Int) != 0):=e;subst e';exact PySem.P.truthy_str (by omega) ⟨H,I.tok _,q⟩
 |byt y=>
  obtain⟨t,rfl⟩:=rx;obtain⟨hy,e'⟩:y.size<=sizeLine/\k=((y.size:Int) != 0):=e;subst e';exact PySem.W.truthy_bytes (by omega) ⟨H,I.tok _,q⟩
 |ref p=>
  cases rx;have e':(∃xs,cJ X.K H p xs/\k=!xs.isEmpty)\/(∃xs,lO X.K H p xs/\k=!xs.isEmpty)\/∃aE,H p=some (.dK aE)/\k=!aE.isEmpty:=e;rcases e' with⟨xs,hx,e'⟩|⟨xs,hx,e'⟩|⟨aE,hx,e'⟩
  ·subst e'
   obtain⟨aF,r,pl,hz⟩:=I.list hx;have dD:=r.length;exact wpAny_truthy_list pl.isList (by simp only[cQ];omega) ⟨H,I.tok _,by rw[mJ r];exact q⟩
  ·subst e'
   obtain⟨aF,r,pl,hz⟩:=I.tuple hx;have dD:=r.length;exact truthy_tuple pl (by simp only[cQ];omega) ⟨H,I.tok _,by rw[mJ r];exact q⟩
  ·subst e'
   obtain⟨hz,hS,vs,r,m⟩:aE.length<=sizeLine/\(p == sysModules)=false/\∃vs,KV aE vs/\s.heap.DictOf (bj X.prog X.w) p vs:=I.bG p _ hx;have dD:aE.length=vs.length:=Paired.length r;exact wpAny_truthy_dict hS m (by omega) ⟨H,I.tok _,by rw[vH r];exact q⟩
 |_=>exact(show False from e).elim
def BQ(ha:PE X a ta)(he:∀ie,isTrue a X.env ie=(do let v <- ie;standAt a.pos;holding [v] (truthy v))) :
  PT X a (λσ H Q=>ta σ H λx H'=>∃k,L8 X.K x H' k/\Q k H'):=by
 intro ae s σ H Q I h;exact isTrue_plain (bJ (ha ae s σ H _ I h) λv s1 ⟨x,H1,I1,r1,q1⟩=>L_ ae s1 σ H1 x v Q I1 r1 q1) (he _)
def vI:gk X (binaryOp .Add) (λx y H Q=>∃i j,x=.str i/\y=.str j/\i.length+j.length<=sizeLine/\Q (.str (i++j)) H):=by
 intro ae s σ H x y v u Q I rx ry h;obtain⟨i,j,rfl,rfl,hz,q⟩:=h;obtain⟨t,rfl⟩:=rx;obtain⟨t',rfl⟩:=ry;exact add_str (λt' tk=>⟨.str (i++j),H,I.tok _,⟨_,rfl⟩,q⟩) hz
def vals1{x:V}{us:Bz}(r:Vals [x] us):∃u,us=[u]/\RelV x u:=by
 cases r with
 |cons r1 r2=>cases r2;exact⟨_,rfl,r1⟩
def vals2{x y:V}{us:Bz}(r:Vals [x,y] us):∃u w',us=[u,w']/\RelV x u/\RelV y w':=by
 cases r with
 |cons r1 r2=>
  cases r2 with
  |cons r3 r4=>cases r4;exact⟨_,_,rfl,r1,r3⟩
def zJ(hc:X.calm=true):eV X (.builtin "max") (λxs H Q=>∃i j,xs=[.int i,.int j]/\Q (.int (if j > i then j else i)) H):=by
 intro ae s σ H xs us Q I r h;obtain⟨i,j,rfl,q⟩:=h;obtain⟨u,w',rfl,⟨t,rfl⟩,⟨t',rfl⟩⟩:=vals2 r;refine max_two_ints (I.ok.hd hc) λh' tk k=>⟨_,H,I.kept k,?_,q⟩;by_cases hj:j > i
 ·rw[if_pos hj,if_pos hj];exact⟨_,rfl⟩
 ·rw[if_neg hj,if_neg hj];exact⟨_,rfl⟩
def zK(hc:X.calm=true):eV X (.builtin "min") (λxs H Q=>∃i j,xs=[.int i,.int j]/\Q (.int (if j<i then j else i)) H):=by
 intro ae s σ H xs us Q I r h;obtain⟨i,j,rfl,q⟩:=h;obtain⟨u,w',rfl,⟨t,rfl⟩,⟨t',rfl⟩⟩:=vals2 r;refine min_two_ints (I.ok.hd hc) λh' tk k=>⟨_,H,I.kept k,?_,q⟩;by_cases hj:j<i
 ·rw[if_pos hj,if_pos hj];exact⟨_,rfl⟩
 ·rw[if_neg hj,if_neg hj];exact⟨_,rfl⟩
def qO:eV X (.type "str") (λxs H Q=>∃i,xs=[.int i]/\i.natAbs.log2<1920/\Q (.str (toString i)) H):=by
 intro ae s σ H xs us Q I r h;obtain⟨i,rfl,hz,q⟩:=h;obtain⟨u,rfl,t,rfl⟩:=vals1 r;exact PySem.P.str_of_int hz ⟨.str _,H,I.tok _,⟨_,rfl⟩,q⟩
def Qh(K:bD)(x:V)(H:Hp)(n:Nat):Prop:=
 match x with
 |.str y=>y.length<=sizeLine/\n=y.length
 |.byt y=>y.size<=sizeLine/\n=y.size
 |.ref p=>(∃xs,cJ K H p xs/\n=xs.length)\/∃xs,lO K H p xs/\n=xs.length
 |_=>False
def mK:eV X (.builtin "len") (λxs H Q=>∃x n,xs=[x]/\Qh X.K x H n/\Q (.int n) H):=by
 intro ae s σ H xs us Q I r h;obtain⟨x,n,rfl,e,q⟩:=h;obtain⟨u,rfl,rx⟩:=vals1 r;have hl:=kD;have hs:sizeLine=16777216:=sizeLine_eq;cases x with
 |str y=>
  obtain⟨t,rfl⟩:=rx;obtain⟨hy,e'⟩:y.length<=sizeLine/\n=y.length:=e;subst e';exact len_str (by omega) ⟨.int _,H,I.tok _,⟨_,rfl⟩,q⟩
 |byt y=>
  obtain⟨t,rfl⟩:=rx;obtain⟨hy,e'⟩:y.size<=sizeLine/\n=y.size:=e;subst e';exact PySem.W.len_bytes (by omega) ⟨.int _,H,I.tok _,⟨_,rfl⟩,q⟩
 |ref p=>
  cases rx;have e':(∃xs,cJ X.K H p xs/\n=xs.length)\/∃xs,lO X.K H p xs/\n=xs.length:=e;rcases e' with⟨xs,hx,e'⟩|⟨xs,hx,e'⟩
  ·subst e'
   obtain⟨aF,r',pl,hz⟩:=I.list hx;have dD:=r'.length;exact Calls.call_len_list pl.isList (by simp only[cQ];omega) ⟨.int xs.length,H,I.tok _,⟨_,by simp only[cQ];rw[dD]⟩,q⟩
  ·subst e'
   obtain⟨aF,r',pl,hz⟩:=I.tuple hx;have dD:=r'.length;exact len_tuple pl (by simp only[cQ];omega) ⟨.int xs.length,H,I.tok _,⟨_,by simp only[cQ];rw[dD]⟩,q⟩
 |_=>exact(show False from e).elim
end
structure vJ(h:Heap)(x dx C:Addr)(mA:Str->Dx):Prop where
 obj:h.get? x=some (sC C dx)
 ns:h.Ns1 dx mA
 ne:dx≠x
def zL{h:Heap}{dx:Addr}{mA:Str->Dx}(n:h.Ns1 dx mA):∃od,h.get? dx=some od/\∀name,Fi name od=some (mA name):=by
 obtain⟨o,es,ep,ho,hd,hk,_,hm⟩:=n;refine⟨o,ho,λname=>?_⟩;have e:=hm name;unfold nsFind findBy at e;rw[<- Array.find?_toList]at e;unfold Fi;rw[hd];dsimp only;split
 ·rename_i y q
  rw[q]at e;exact congrArg some e
 ·rename_i q
  rw[q]at e;have a:es.toList.any (·.refKey)=false:=by
   rw[List.any_eq_false];intro y hy;obtain⟨z,t,VW⟩:=hk y (Array.mem_toList_iff.mp hy);simp[DictEntry.refKey,VW]
  have a':¬ es.toList.any (·.refKey)=true:=by rw[a];exact fL
  rw[if_neg a'];exact congrArg some e
def vJ.look{h:Heap}{x dx C:Addr}{mA:Str->Dx}(I:vJ h x dx C mA):∃od,PySem.W.InstAt h x (sC C dx) C (some od)/\∀name,Fi name od=some (mA name):=
 let⟨od,ho,hl⟩:=zL I.ns
 ⟨od,⟨I.obj,rfl,rfl,ho⟩,hl⟩
section
variable{prog:Program}{K:bD}{mA:Str->Dx}{name:Str}{v:Value}
def get_map{expr:Bool}{Q:Value->Shared->Prop}(X:K.In s.heap)(I:vJ s.heap x dx C mA)(hg:AO K C name=true)(hh:Fj K C=true)
  (ha:ir K (.ref C) name=some none) (hv:mA name=some v) (VX:Jf v=true) (h:Q v {s with toks:=s.toks+1}) :
  wpAny (model prog w) A (getAttr (.ref x) name expr) Q E s:=by
 obtain⟨od,J,hl⟩:=I.look;exact PySem.W.get_value X J (AS hg).1 (PySem.W.findObj_own hh ha rfl (by rw[hl,hv])) VX h
def BR{pl:Sem Bool}{Q:Value×Bz->Shared->Prop}(X:K.In s.heap)(I:vJ s.heap x dx C mA)(hg:AO K C name=true)
  (hf:ir K (.ref C) name=some (some (.ref f))) (ht:AQ K (.ref f)=true) (hv:mA name=none) (h:Q (.ref f,[.ref x]) s) :
  wpAny (model prog w) A (getMethod (.ref x) name pl) Q E s:=by
 obtain⟨od,J,hl⟩:=I.look;exact PySem.W.method_fn X J (AS hg).1 (AS hg).2 hf (beq_iff_eq.mp ht) (by show(Fi name od).map (·.isSome)=some false;rw[hl,hv];rfl) h
def FY{ns:BM}{Q:Unit->Shared->Prop}(X:K.In s.heap)(I:vJ s.heap x dx C mA)
  (hs:ir K (.ref C) "__setattr__" = some (some (.builtin "object.__setattr__"))) (hp:AU K C=true) (ht:AV K C name=some none) (hh:Fj K C=true)
  (hw:PySem.Within mA ns) (hsz:ns.length<=sizeLine)
  (h:∀h',vJ h' x dx C (λy=>if y=name then some v else mA y)->Heap.SameBut dx s.heap h'->Q () {s with heap:=h',toks:=s.toks+2}) :
  wpAny (model prog w) A (setAttr (.ref x) name v) Q E s:=by
 obtain⟨od,J,hl⟩:=I.look;refine PySem.W.set_plain X J hs (PySem.W.osa_open (s:={s with toks:=s.toks+1}) (r:=none) X J hp ht λb=>?_)
 obtain⟨cd,hc,VA⟩:=PySem.W.any_some hh;have hx:s.heap.get? x=some ⟨.ref C,some dx,.plain,#[]⟩:=I.obj;refine wpAny_bind (wpAny_pure (wpAny_bind (wpAny_bind (wpAny_loadPart hx (wpAny_bind (PySem.W.Looks.here (s:={s with toks:=s.toks+1}) (PySem.W.looks_clsIn X hc) ?_))))))
 rw[VA];refine wpAny_pure (a:=some dx) (wpAny_bind (wpAny_pure (wpAny_bind ?_)));refine wpAny_nsSet1 (s:={s with toks:=s.toks+1}) I.ns λh' UM u9=>?_
 obtain⟨oD,esD,epD,Ë,Ì,Í⟩:=UM.count (PySem.Within.cons name v hw);refine wpAny_bind (wpAny_lookBehind Ë (by rw[Ì];exact pastItsLine_dict (fK Í (by rw[eT];omega))) ?_)
 exact wpAny_pure (h _ ⟨(u9.2 _ (Ne.symm I.ne)).trans I.obj,UM,I.ne⟩ u9)
def BS{R:Result->Shared->Prop}{vs:Bz}{kw:List (Str×Value)}(X:K.In s.heap)(hm:AW K C=true)
  (hi:ir K (.ref C) "__init__" = some (some (.ref f))) (hf:PySem.W.typeIn K (.ref f)=some (.type "function"))
  (h:codeAny (model prog w) (A.under (.builtin "type.__call__" ⟨.ref C::vs,kw⟩)) (.call (.ref f) ⟨.ref (s.heap.objs.size+1)::vs,kw⟩) (PySem.W.InitBack (s.heap.objs.size+1) R)
   {s with heap:=(s.heap.push qD).push (sC C s.heap.objs.size)}) :
  codeAny (model prog w) A (.call (.ref C) ⟨vs,kw⟩) R s:=by
 obtain⟨hh,g,d,t,os⟩:=s;exact PySem.W.make_core (PySem.W.makes_of X hm) (PySem.W.looks_findIn X hi) (λself=>PySem.W.bind_fn X self hf) (.inl rfl) h
end
def cU(f:Str)(v:V):List (Str×V)->List (Str×V)
 |[]=>[(f,v)]
 |(g,x)::r=>if g=f then(g,v)::r else(g,x)::cU f v r
theorem kX(f g:Str)(v:V):∀fs:List (Str×V),(cU f v fs).lookup g=if g=f then some v else fs.lookup g
 |[]=>by
  show lJ g [(f,v)]=_;by_cases h:g=f
  ·have hb:(g == f)=true:=beq_iff_eq.mpr h
   simp only[lJ,hb,if_pos h]
  ·have hb:(g == f)=false:=beq_eq_false_iff_ne.mpr h
   simp only[lJ,hb,if_neg h]
 |(k,x)::r=>by
  have ih:=kX f g v r;rw[show cU f v ((k,x)::r)=(if k=f then(k,v)::r else(k,x)::cU f v r)from rfl]
  by_cases hk:k=f
  ·rw[if_pos hk]
   by_cases h:g=k
   ·have hb:(g == k)=true:=beq_iff_eq.mpr h
    simp only[lJ,hb,if_pos (h.trans hk)]
   ·have hb:(g == k)=false:=beq_eq_false_iff_ne.mpr h
    simp only[lJ,hb,if_neg (λe:g=f=>h (e.trans hk.symm))]
  ·rw[if_neg hk]
   by_cases h:g=k
   ·have hb:(g == k)=true:=beq_iff_eq.mpr h
    simp only[lJ,hb,if_neg (λe:g=f=>hk (h.symm.trans e))]
   ·have hb:(g == k)=false:=beq_eq_false_iff_ne.mpr h
    simp only[lJ,hb];exact ih
theorem kE(f:Str)(v:V):∀fs:List (Str×V),f∈(cU f v fs).map (·.1)/\∀g,g∈fs.map (·.1)->g∈(cU f v fs).map (·.1)
 |[]=>⟨by simp[cU],λg h=>by simp at h⟩
 |(k,x)::r=>by
  obtain⟨i1,i2⟩:=kE f v r;rw[show cU f v ((k,x)::r)=(if k=f then(k,v)::r else(k,x)::cU f v r)from rfl]
  by_cases hk:k=f
  ·rw[if_pos hk]
   subst hk;exact⟨by simp,λg h=>by simpa using h⟩
  ·rw[if_neg hk]
   refine⟨?_,λg h=>?_⟩
   ·rw[dZ]
    exact bW _ i1
   ·rw[dZ]at h ⊢
    rcases gh.mp h with e|e
    ·exact gh.mpr (.inl e)
    ·exact bW _ (i2 g e)
theorem kY(f:Str)(v:V):∀fs:List (Str×V),(cU f v fs).length<=fs.length+1
 |[]=>by simp[cU]
 |(k,x)::r=>by
  have ih:=kY f v r;rw[show cU f v ((k,x)::r)=(if k=f then(k,v)::r else(k,x)::cU f v r)from rfl]
  by_cases hk:k=f
  ·rw[if_pos hk,eT,eT];omega
  ·rw[if_neg hk,eT,eT];omega
def iw.some_of{v:V}{o:Dx}(r:iw (some v) o):∃u,o=some u/\RelV v u:=by
 cases o with
 |none=>exact(show False from r).elim
 |some u=>exact⟨u,rfl,r⟩
def iw.none_of{o:Dx}(r:iw none o):o=none:=by
 cases o with
 |none=>rfl
 |some u=>exact(show False from r).elim
def zM{v:V}{u:Value}(r:RelV v u):Jf u=true:=by
 cases v with
 |non=>cases(show u=Value.none from r);rfl
 |bl b=>cases(show u=Value.bool b from r);rfl
 |int i=>obtain⟨t,e⟩:=(show ∃t,u=Value.int i t from r);cases e;rfl
 |str x=>obtain⟨t,e⟩:=(show ∃t,u=Value.str x t from r);cases e;rfl
 |byt b=>obtain⟨t,e⟩:=(show ∃t,u=Value.bytes b t from r);cases e;rfl
 |flt b=>obtain⟨t,e⟩:=(show ∃t,u=Value.float b t from r);cases e;rfl
 |ref a=>cases(show u=Value.ref a from r);rfl
 |ty n=>cases(show u=Value.type n from r);rfl
section
variable{fs pK:List (Str×V)}
def mf(bG:jO P w H h)(e:H a=some (.ins C dx fs)):∃mA,vJ h a dx C mA/\(∀f,iw (fs.lookup f) (mA f))/\PySem.Within mA (fs.map (·.1))/\fs.length<=1000/\H dx=some (.own a):=by
 obtain⟨d,z,ne,ob,mA,n,r,q⟩:=(show ck P w H h a (.ins C dx fs)from bG a _ e);exact⟨mA,⟨ob,n,ne⟩,r,q,z,d⟩
end
structure pQ(K:bD)(C:Addr):Prop where
 pg:AO K C Str.empty=true
 hd:Fj K C=true
 po:AU K C=true
 sa:ir K (.ref C) "__setattr__" = some (some (.builtin "object.__setattr__"))
def pQ.get{K:bD}{C:Addr}(c:pQ K C)(f:Str):AO K C f=true:=c.pg
def eG(K:bD)(C:Addr)(f:Str):Prop:=ir K (.ref C) f=some none
def eG.Qi{K:bD}{C:Addr}{f:Str}(n:eG K C f):AV K C f=some none:=by
 unfold AV;rw[show ir K (.ref C) f=some none from n];rfl
structure Meth(K:bD)(C:Addr)(m:Str)(f:Addr):Prop where
 at_:ir K (.ref C) m=some (some (.ref f))
 fn:AQ K (.ref f)=true
 kp:sD K (.ref f)=true
section
variable{X:Cx}{σ:St}{fs:List (Str×V)}{f:Str}{v:V}
def mL{b:Bool}{Q:Value->Shared->Prop}(I:Inv X ae σ H s)(e:H a=some (.ins C dx fs))(c:pQ X.K C)(n:eG X.K C f)(l:fs.lookup f=some v)
  (h:∀u s',Inv X ae σ H s'->RelV v u->Q u s'):wpAny (model X.prog X.w) A (getAttr (.ref a) f b) Q E s:=by
 obtain⟨mA,O,r,_,_,_⟩:=mf I.bG e;obtain⟨u,hu,ru⟩:=iw.some_of (v:=v) (o:=mA f) (by rw[<- l];exact r f)
 exact get_map I.kW O (c.get f) c.hd n hu (zM ru) (h u _ (I.tok _) ru)
def mO{m:Str}{g:Addr}{pl:Sem Bool}{Q:Value×Bz->Shared->Prop}(I:Inv X ae σ H s)(e:H a=some (.ins C dx fs))(c:pQ X.K C)(k:Meth X.K C m g)(l:fs.lookup m=none)
  (h:Q (.ref g,[.ref a]) s):wpAny (model X.prog X.w) A (getMethod (.ref a) m pl) Q E s:=by
 obtain⟨mA,O,r,_,_,_⟩:=mf I.bG e;have hn:mA m=none:=iw.none_of (by rw[<- l];exact r m)
 exact BR I.kW O (c.get m) k.at_ k.fn hn h
def mQ{y:V}{u:Value}{Q:Unit->Shared->Prop}(I:Inv X ae σ H s)(e:H a=some (.ins C dx fs))(c:pQ X.K C)(n:eG X.K C f)(hl:fs.length<1000)(ry:RelV y u)
  (h:∀s',Inv X ae σ (upd H a (.ins C dx (cU f y fs))) s'->Q () s'):wpAny (model X.prog X.w) A (setAttr (.ref a) f u) Q E s:=by
 obtain⟨mA,O,r,wi,_,ho⟩:=mf I.bG e;have hz:(fs.map (·.1)).length<=sizeLine:=by rw[b_,sizeLine_eq];omega
 refine FY I.kW O c.sa c.po n.Qi c.hd wi hz λh' O' sb=>h _ ?_;have hd:∃o,h'.get? dx=some o:=let⟨o,_,_,e',_⟩:=O'.ns;⟨o,e'⟩;refine I.write (x:=a) (e:=dx) (by rw[e];exact True.intro) (.inr ho) (λb q hb z=>(sb.2 b hb).trans z) hd ?_
 refine⟨by rw[aq O.ne];exact ho,?_,O.ne,O'.obj,_,O'.ns,λg=>?_,λg hg=>?_⟩
 ·have:=kY f y fs;omega
 ·show iw ((cU f y fs).lookup g) (if g=f then some u else mA g)
  rw[kX];by_cases q:g=f
  ·rw[if_pos q,if_pos q];exact ry
  ·rw[if_neg q,if_neg q];exact r g
 ·by_cases q:g=f
  ·rw[q];exact(kE f y fs).1
  ·refine(kE f y fs).2 g (wi g λz=>hg ?_)
   show(if g=f then some u else mA g)=none
   rw[if_neg q];exact z
def Inv.made(I:Inv X ae σ H s):Inv X ae σ (upd (upd H s.heap.objs.size (.own (s.heap.objs.size+1))) (s.heap.objs.size+1) (.ins C s.heap.objs.size []))
  {s with heap:=(s.heap.push qD).push (sC C s.heap.objs.size)}:=by
 have e1:(s.heap.push qD).get? s.heap.objs.size=some qD:=Heap.get?_push_size s.heap rfl;have e2:((s.heap.push qD).push (sC C s.heap.objs.size)).get? (s.heap.objs.size+1)=some (sC C s.heap.objs.size):=by
  have:=Heap.get?_push_size (s.heap.push qD) (o:=sC C s.heap.objs.size) rfl
  rwa [Heap.size_push]at this
 have e3:(s.heap.push qD).Ns s.heap.objs.size (λ_=>none):=⟨qD,#[],_,e1,rfl,(λe he=>absurd he (by simp)),λ_=>rfl⟩
 have I1:=I.laid (a:=s.heap.objs.size) (o:=.own (s.heap.objs.size+1)) (h':=s.heap.push qD) (t':=s.toks) (λb u q=>Heap.get?_push_of_some _ q) (bV _) ⟨_,e1⟩;refine I1.laid (a:=s.heap.objs.size+1) (o:=.ins C s.heap.objs.size []) (t':=s.toks) (λb u q=>Heap.get?_push_of_some _ q) (zc (Heap.size_push _ _)) ?_;have ne:s.heap.objs.size≠s.heap.objs.size+1:=fG (vj _);refine⟨by rw[aq ne,ai],jb _,ne,e2,λ_=>none,(Heap.Ns1.of_empty e3).at λo q=>Heap.get?_push_of_some _ q,λ_=>True.intro,λy hy=>absurd rfl hy⟩
def FZ{prog:Program}{w:World}{env:Env}{e:Expr}{f:Str}{pos:Pos}{s:Shared}{Q:Value->Shared->Prop}(hb:attributeBase e f env (eval e env)=eval e env)
  (h:wpAny (model prog w) A (eval e env) (λo s₁=>wpAny (model prog w) A (getAttr o f true) Q E s₁) E s):wpAny (model prog w) A (eval (.Attribute e f pos) env) Q E s:=
 Attribute_any_ h (by rw[arm_eval_Attribute,hb])
end
def VY(K:bD)(ta:TE)(f:Str):TE:=λσ H Q=>ta σ H λx H1=>∃a C dx fs v,x=.ref a/\H1 a=some (.ins C dx fs)/\pQ K C/\eG K C f/\fs.lookup f=some v/\Q v H1
def Qj(K:bD)(ta tv:TE)(f:Str):TS:=λD σ H=>tv σ H λy H1=>ta σ H1 λx H2=>∃a C dx fs,x=.ref a/\H2 a=some (.ins C dx fs)/\pQ K C/\eG K C f/\fs.length<1000 /\
 D.nx σ (upd H2 a (.ins C dx (cU f y fs)))
def Qk(X:Cx)(op:Operator)(rd:V->V->Hp->VK->Prop):Prop:=
 ∀(ae:dm)(s:Shared)(σ:St)(H:Hp)(x y:V)(u v:Value)(Q:VK),Inv X ae σ H s->RelV x u->RelV y v->rd x y H Q->wpAny (model X.prog X.w) X.A (inplaceOp op u v) (EP X ae σ Q) X.xe s
def F8(K:bD)(ta tv:TE)(rd:V->V->Hp->VK->Prop)(f:Str):TS:=λD σ H=>ta σ H λx H1=>∃a C dx fs v,x=.ref a/\H1 a=some (.ins C dx fs)/\pQ K C/\eG K C f/\fs.lookup f=some v /\
 tv σ H1 λy H2=>rd v y H2 λz H3=>∃UN pK,H3 a=some (.ins C UN pK)/\pK.length<1000/\D.nx σ (upd H3 a (.ins C UN (cU f z pK)))
section
variable{X:Cx}{value:Expr}{f:Str}{bU oV:Pos}{ta tv:TE}
def BU(he:PE X e ta)(hb:attributeBase e f X.env (eval e X.env)=eval e X.env):PE X (.Attribute e f pos) (VY X.K ta f):=by
 intro ae s σ H Q I h;refine FZ hb (bJ (he ae s σ H _ I h) λu s1 zz=>?_);obtain⟨x,H1,I1,rx,a,C,dx,fs,v,ex,ea,c,n,l,q⟩:=zz;subst ex
 obtain rfl:u=Value.ref a:=rx
 exact mL I1 ea c n l λu' s2 I2 ru=>⟨v,H1,I2,ru,q⟩
def vK(ha:PE X o ta)(hv:PE X value tv)(hs:swapsWith value (some (.Attribute o f bU)) pos.line X.env=pure false):PS X (.Assign [.Attribute o f bU] value pos) (Qj X.K ta tv f):=by
 intro ae s σ H D I h;refine plainObj_wpAny_Assign_Attribute (bJ (hv ae s σ H _ I h) λu s1 ⟨y,H1,I1,ry,q⟩=>bJ (ha ae s1 σ H1 _ I1 q) λov s2 ⟨x,H2,I2,rx,a,C,dx,fs,ex,ea,c,n,l,q2⟩=>?_) hs;subst ex
 obtain rfl:ov=Value.ref a:=rx
 exact mQ I2 ea c n l ry λs3 I3=>⟨σ,_,I3,q2⟩
def zN{op:Operator}{rd:V->V->Hp->VK->Prop}(ha:PE X o ta)(hv:PE X value tv)(Î:Qk X op rd):PS X (.AugAssign (.Attribute o f oV) op value pos) (F8 X.K ta tv rd f):=by
 intro ae s σ H D I h;refine wpAny_AugAssign_AttributeAny (bJ (ha ae s σ H _ I h) λov s1 zz=>?_);obtain⟨x,H1,I1,rx,a,C,dx,fs,v,ex,ea,c,n,l,q⟩:=zz;subst ex
 obtain rfl:ov=Value.ref a:=rx
 refine mL I1 ea c n l λu s2 I2 ru=>bJ (hv ae s2 σ H1 _ I2 q) λw3 s3 ⟨y,H2,I3,ry,q3⟩=>bJ (Î ae s3 σ H2 v y u w3 _ I3 ru ry q3) λw4 s4 zz=>?_;obtain⟨z,H3,I4,rz,UN,pK,Ï,l',q4⟩:=zz;exact mQ I4 Ï c n l' rz λs5 I5=>⟨σ,_,I5,q4⟩
def VZ:V->V->Hp->VK->Prop:=λx y H Q=>∃i j,x=.int i/\y=.int j/\Q (.int (i+j)) H
def Ma:Qk X .Add VZ:=by
 rintro ae s σ H x y u v Q I rx ry ⟨i,j,rfl,rfl,q⟩
 obtain⟨t,rfl⟩:=(show ∃t,u=Value.int i t from rx);obtain⟨t',rfl⟩:=(show ∃t',v=Value.int j t' from ry);exact PyProof.Rows.iadd_int ⟨.int (i+j),H,I.tok _,⟨_,rfl⟩,q⟩
end
section
variable{X:Cx}{σ:St}{Q:Value->Shared->Prop}{c:Value}{b:Bool}
inductive jd(K:bD)(H:Hp):V->Value->Prop where
 |non:jd K H .non (.type "NoneType")
 |bl (x:Bool):jd K H (.bl x) (.type "bool")
 |int (i:Int):jd K H (.int i) (.type "int")
 |str (x:Str):jd K H (.str x) (.type "str")
 |flt (x:UInt64):jd K H (.flt x) (.type "float")
 |lst {a:Addr} {xs:List V} (e:H a=some (.lst xs)):jd K H (.ref a) (.type "list")
 |i6 {a:Addr} {o:Obj} {xs:List V} (e:H a=some (.i6 o (.lst xs))):jd K H (.ref a) (.type "list")
 |tup {a:Addr} {xs:List V} (e:lO K H a xs):jd K H (.ref a) (.type "tuple")
 |dK {a:Addr} {aE:List (Key×V)} (e:H a=some (.dK aE)):jd K H (.ref a) (.type "dict")
 |dT {a:Addr} {aE:List (List Key×V)} (e:H a=some (.dT aE)):jd K H (.ref a) (.type "dict")
 |ins {a C dx:Addr} {fs:List (Str×V)} (e:H a=some (.ins C dx fs)) (cl:pQ K C) (ha:ir K (.ref C) "__class__" = some (some (.builtin "object.__class__")))
   (hn:AX K (.builtin "object.__class__") "__get__" = some (some (.builtin "getset_descriptor.__get__"))) (UO:AY K (.builtin "object.__class__")=some true)
   (hm:AZ K C (.type "object")=some true):jd K H (.ref a) (.ref C)
def pR{x:V}{u t:Value}(I:Inv X ae σ H s)(rx:RelV x u)(ty:jd X.K H x t)(e:sE X.K t c=some b)(h:∀tk,Q (.bool b) {s with toks:=tk}) :
  wpAny (model X.prog X.w) A (call (.builtin "isinstance") [u,c]) Q E s:=by
 cases ty with
 |non=>cases(show u=Value.none from rx);exact mz PySem.W.kitx_none I.kW True.intro e (λz=>nomatch z) h
 |bl y=>cases(show u=Value.bool y from rx);exact mz PySem.W.kitx_bool I.kW True.intro e (λz=>nomatch z) h
 |int i=>obtain⟨t,q⟩:=(show ∃t,u=Value.int i t from rx);cases q;exact mz PySem.W.kitx_int I.kW True.intro e (λz=>nomatch z) h
 |str y=>obtain⟨t,q⟩:=(show ∃t,u=Value.str y t from rx);cases q;exact mz PySem.W.kitx_str I.kW True.intro e (λz=>nomatch z) h
 |flt y=>obtain⟨t,q⟩:=(show ∃t,u=Value.float y t from rx);cases q;exact mz PySem.W.kitx_float I.kW True.intro e (λz=>nomatch z) h
 | @lst a xs ea=>
  cases(show u=Value.ref a from rx);obtain⟨_,_,n,_,h1⟩:=(show ck X.prog X.w H s.heap a (.lst xs)from I.bG a _ ea);exact mz Jg I.kW ⟨_,h1,rfl⟩ e (λz=>nomatch z) h
 | @i6 a ob xs ea=>
  cases(show u=Value.ref a from rx);obtain⟨_,_,_,n,_,h1⟩:=(show ck X.prog X.w H s.heap a (.i6 ob (.lst xs))from I.bG a _ ea);exact mz Jg I.kW ⟨_,h1,rfl⟩ e (λz=>nomatch z) h
 | @tup a xs ea=>
  cases(show u=Value.ref a from rx);obtain⟨_,_,p,_⟩:=I.tuple ea;obtain⟨o,h1,h2,_⟩:=p;exact mz PySem.W.kitx_tuple I.kW ⟨o,h1,h2⟩ e (λz=>nomatch z) h
 | @dK a aE ea=>
  cases(show u=Value.ref a from rx);obtain⟨_,_,vs,_,p⟩:=(show ck X.prog X.w H s.heap a (.dK aE)from I.bG a _ ea);obtain⟨o,es,ep,h1,h2,_⟩:=p;exact mz Jh I.kW ⟨o,h1,h2.1⟩ e (λz=>nomatch z) h
 | @dT a aE ea=>
  cases(show u=Value.ref a from rx);obtain⟨_,_,xs,_,o,es,ep,h1,h2,_⟩:=(show ck X.prog X.w H s.heap a (.dT aE)from I.bG a _ ea);exact mz Jh I.kW ⟨o,h1,h2.1⟩ e (λz=>nomatch z) h
 | @ins a C dx fs ea cl ha hn UO hm=>
  cases(show u=Value.ref a from rx);obtain⟨mA,O,_⟩:=mf I.bG ea;obtain⟨od,J,_⟩:=O.look;exact mz (PySem.W.kitx_own (cl.get _) cl.hd ha hn UO hm) I.kW J e (λz=>nomatch z) h
end
structure bM(k:Nat)(A:Around):Prop where
 hd:A.handled=none
 dp:A.depth+3*k+5<recursionLimit
 un:A.units+16*k+200<cLine
def bM.mono{j k:Nat}{A:Around}(r:bM k A)(h:j<=k):bM j A:=⟨r.hd,by have:=r.dp;omega,by have:=r.un;omega⟩
theorem bM.deeper{k:Nat}{A:Around}(r:bM (k+1) A)(env:Env):bM k (A.deeper env):=
 ⟨r.hd,by have:=r.dp;show A.depth+1+3*k+5<_;omega,by have:=r.un;show A.units+3+16*k+200<_;omega⟩
def vL{A:Around}{C:Addr}{us:Bz}{kw:List (Str×Value)}:(A.under (.builtin "type.__call__" ⟨.ref C::us,kw⟩)).depth=A.depth+1:=by
 first|rfl|simp[Around.under,Code.weight,Code.isCreation,Code.isGuard,Code.isCaller,Code.frames,Code.isFrame,guardIds]
def vM{A:Around}{C:Addr}{us:Bz}{kw:List (Str×Value)}:(A.under (.builtin "type.__call__" ⟨.ref C::us,kw⟩)).units=A.units+1:=by
 first|rfl|simp[Around.under,Code.cUnits,Code.frames,Code.isFrame]
def bM.make{k:Nat}{A:Around}(r:bM (k+1) A)(C:Addr)(us:Bz)(kw:List (Str×Value)):bM k (A.under (.builtin "type.__call__" ⟨.ref C::us,kw⟩)):=
 ⟨r.hd,by have:=r.dp;rw[vL];omega,by have:=r.un;rw[vM];omega⟩
theorem bM.depth{k:Nat}{A:Around}(r:bM k A):A.depth<recursionLimit:=by have:=r.dp;omega
theorem bM.units{k:Nat}{A:Around}(r:bM k A):A.units+64<cLine:=by have:=r.un;omega
def F9:TA:=λ_ H Q=>Q [] H
def Ql(ta:TE)(tr:TA):TA:=λσ H Q=>ta σ H λx H1=>tr σ H1 λxs H2=>Q (x::xs) H2
section
variable{X:Cx}{te:TE}{t:TA}
def cu:PA X [] F9:=λ_ _ _ _ H Q I h=>Calls.spliced_nil ⟨[],H,I,.nil,h⟩
def aV(ha:PE X e te)(hr:PA X es t)(hs:starEach (e::es) X.env=(false,eval e X.env)::starEach es X.env:=by rfl):PA X (e::es) (Ql te t):=by
 intro pos ae s σ H Q I h;rw[hs];show wpAny _ _ (spliced ((false,eval e X.env)::backTo pos (starEach es X.env))) _ _ s;refine Calls.spliced_cons (bJ (ha ae s σ H _ I h) λu s1 zz=>?_);obtain⟨x,H1,I1,r1,q1⟩:=zz;exact bJ (hr pos ae s1 σ H1 _ I1 q1) λus s2 ⟨xs,H2,I2,r2,q2⟩=>⟨x::xs,H2,I2,.cons r1 r2,q2⟩
def V0(t:TA):TE:=λσ H Q=>t σ H λxs H1=>xs.length<=sizeLine/\∀p,H1 p=none->Q (.ref p) (upd H1 p (.tup xs))
def V1(t:TA):TE:=λσ H Q=>t σ H λxs H1=>xs.length<=sizeLine/\∀p,H1 p=none->Q (.ref p) (upd H1 p (.lst xs))
def Mb{x1}(h:PA X es t):PE X (.Tuple es x1 pos) (V0 t):=by
 intro ae s σ H Q I hq;refine wpAny_Tuple_spliced (bJ (h pos ae s σ H _ I hq) λus s1 ⟨xs,H1,I1,r,z,q⟩=>⟨by rw[<- r.length];exact z,?_⟩)
 have hf:H1 s1.heap.objs.size=none:=I1.bG.fresh (bV _);refine⟨.ref s1.heap.objs.size,upd H1 s1.heap.objs.size (.tup xs),I1.laid (t':=s1.toks) (λb u e=>Heap.get?_push_of_some _ e) (bV _) ?_,rfl,q _ hf⟩;exact⟨z,us,r,⟨_,Heap.get?_push_size _ rfl,rfl,_,rfl⟩⟩
def BV(h:PA X es t):PE X (.List es pos) (V1 t):=by
 intro ae s σ H Q I hq;refine wpAny_List_spliced (bJ (h pos ae s σ H _ I hq) λus s1 ⟨xs,H1,I1,r,z,q⟩=>⟨by rw[<- r.length];exact z,?_⟩)
 have hf:H1 s1.heap.objs.size=none:=I1.bG.fresh (bV _);refine⟨.ref s1.heap.objs.size,upd H1 s1.heap.objs.size (.lst xs),I1.laid (t':=s1.toks) (λb u e=>Heap.get?_push_of_some _ e) (bV _) ?_,rfl,q _ hf⟩;exact⟨z,us,0,r,Heap.get?_push_size _ rfl⟩
end
abbrev Sp:=List V->Hp->VK->XK->Prop
abbrev BW:=List Env->Hp->Shared->XK->Value->Shared->Prop
structure vN(P:Program)(w:World)(K:bD)(mg:Str->Dx)(base:Heap)(A:Around)(outer:List Env)(s:Shared)(H:Hp):Prop where
 frames:A.frames=some outer
 mod:Mod K mg base
 bs:∀b o,base.get? b=some o->s.heap.get? b=some o/\H b=none
 bsz:base.objs.size<=s.heap.objs.size
 kC:s.heap.FunFrames base outer
 frf:∀b∈BD outer,H b=none
 bG:jO P w H s.heap
 bare:AllBare s.gens
def CE(outer:List Env)(P:Program)(w:World)(H:Hp)(s:Shared)(Q:VK)(u:Value)(s':Shared):Prop:=
 ∃v H',s'.os=s.os/\AllBare s'.gens/\Un (BD outer) [] H H' s.heap s'.heap/\jO P w H' s'.heap/\RelV v u/\Q v H'
def CR(CX:BW)(outer:List Env)(P:Program)(w:World)(H:Hp)(s:Shared)(Q:VK)(E:XK)(r:Result)(s':Shared):Prop:=
 match r with
 |.ok (.ret u)=>CE outer P w H s Q u s'
 |.ok _=>False
 |.error e=>CX outer H s E e s'
structure dF(P:Program)(w:World)(K:bD)(mg:Str->Dx)(base:Heap)(CX:BW)(k:Nat)(f:Addr)(fd:FuncData)(ps:BM)(sp:Sp):Prop where
 len:∀vs H Q E,sp vs H Q E->vs.length=ps.length
 run:∀(A:Around)(outer:List Env)(s:Shared)(H:Hp)(args:Args)(us:Bz)(vs:List V)(Q:VK)(E:XK),bM k A->vN P w K mg base A outer s H->BindsTo s fd args (ps.zip us)->Vals vs us->sp vs H Q E ->
  codeAny (model P w) A (.call (.ref f) args) (CR CX outer P w H s Q E) s
def dF.imp{P:Program}{w:World}{K:bD}{mg:Str->Dx}{base:Heap}{CX:BW}{k:Nat}{f:Addr}{fd:FuncData}{ps:BM}{sp Yx:Sp}(F:dF P w K mg base CX k f fd ps sp)
  (h:∀vs H Q E,Yx vs H Q E->sp vs H Q E):dF P w K mg base CX k f fd ps Yx:=
 ⟨λvs H Q E q=>F.len vs H Q E (h _ _ _ _ q),λA outer s H args us vs Q E hr he hb hv hs=>F.run A outer s H args us vs Q E hr he hb hv (h _ _ _ _ hs)⟩
def vN.make{P:Program}{w:World}{K:bD}{mg:Str->Dx}{base:Heap}{A:Around}{outer:List Env}{s:Shared}{H:Hp}(e:vN P w K mg base A outer s H)(C:Addr)(us:Bz)(kw:List (Str×Value)) :
  vN P w K mg base (A.under (.builtin "type.__call__" ⟨.ref C::us,kw⟩)) outer s H:=⟨by first|exact e.frames|(simpa[Around.under,Code.envs,Code.isFrame,pushEnvs]using e.frames),e.mod,e.bs,e.bsz,e.kC,e.frf,e.bG,e.bare⟩
section
variable{X:Cx}{σ:St}{s':Shared}
def Inv.Qm(I:Inv X ae σ H s):vN X.prog X.w X.K X.mg X.base X.A X.stack s H:=
 ⟨I.ok.frames,I.ok.mod,I.bs,fK I.ok.bsz I.sz,I.stack,I.xq,I.bG,I.bare⟩
def Inv.after{Q:VK}{u:Value}(I:Inv X ae σ H s)(h:CE X.stack X.prog X.w H s Q u s'):EP X ae σ Q u s':=by
 obtain⟨v,H',os,bare,un,bG,r,q⟩:=h;obtain⟨hh,g,d,t,Ð⟩:=s'
 obtain rfl:Ð=s.os:=os
 exact⟨v,H',I.call (h':=hh) (g':=g) (d':=d) (t':=t) (ch:=[]) un bG bare (λb z=>absurd z (by simp)),r,q⟩
end
def Kc(sp:Sp)(gn:List V)(E:XK)(t:TA):TE:=λσ H Q=>t σ H λvs H1=>sp (vs++gn) H1 Q E
def xA(C:Addr)(m:Str)(sp:Sp)(gn:List V)(E:XK)(ta:TE)(t:TA):TE:=λσ H Q=>ta σ H λx H1=>∃a dx fs,x=.ref a/\H1 a=some (.ins C dx fs)/\fs.lookup m=none /\
 t σ H1 λvs H2=>sp (x::(vs++gn)) H2 Q E
def Qn(C:Addr)(sp:Sp)(gn:List V)(E:XK)(t:TA):TE:=λσ H Q=>t σ H λvs H1=>∀x dx,H1 x=none->H1 dx=none->dx≠x ->
 sp (.ref x::(vs++gn)) (upd (upd H1 dx (.own x)) x (.ins C dx [])) (λv H2=>v=.non/\Q (.ref x) H2) E
def Binds(K:bD)(fd:FuncData)(ps:BM)(ds:Bz):Prop:=
 ∀(s:Shared)(us:Bz),K.In s.heap->(us++ds).length=ps.length->BindsTo s fd ⟨us,[]⟩ (ps.zip (us++ds))
def Binds.all{K:bD}{fd:FuncData}{ps:BM}(h:∀us:Bz,us.length=ps.length->bindArgs fd ⟨us,[]⟩=pure (ps.zip us)):Binds K fd ps []:=λs us _ hl=>by
 rw[dc]at hl ⊢;exact .of_eq (h us hl)
def Passes(CX:BW)(X:Cx)(E:XK):Prop:=∀(ae:dm)(σ:St)(H:Hp)(s:Shared)(e:Value)(s':Shared),Inv X ae σ H s->CX X.stack H s E e s'->X.xe e s'
section
variable{X:Cx}{CX:BW}{k:Nat}{fd:FuncData}{ps:BM}{sp:Sp}{gn:List V}{ds:Bz}{E:XK}{x m:Str}{bF:Pos}{ta:TE}{t:TA}
def qP{ae:dm}{σ:St}{H:Hp}{s:Shared}{Q:VK}{us:Bz}{vs:List V}(F:dF X.prog X.w X.K X.mg X.base CX k f fd ps sp)(hr:bM k X.A)(hb:Binds X.K fd ps ds)(hd:Vals gn ds)(hx:Passes CX X E)
  (I:Inv X ae σ H s) (r:Vals vs us) (h:sp (vs++gn) H Q E):wpAny (model X.prog X.w) X.A (call (.ref f) us) (EP X ae σ Q) X.xe s:=by
 have r2:Vals (vs++gn) (us++ds):=r.append hd;have hl:(us++ds).length=ps.length:=by rw[<- r2.length];exact F.len _ _ _ _ h
 refine wpAny_call (codeAny_mono (F.run X.A X.stack s H ⟨us,[]⟩ (us++ds) (vs++gn) Q E hr I.Qm (hb s us I.kW hl) r2 h) λr s' hq=>?_);cases r with
 |error e=>exact hx ae σ H s e s' I hq
 |ok fl=>
  cases fl with
  |ret u=>exact I.after hq
  |next=>exact False.elim hq
  |brk=>exact False.elim hq
  |cont=>exact False.elim hq
def F_(F:dF X.prog X.w X.K X.mg X.base CX k f fd ps sp)(hr:bM k X.A)(hg:Gl X x)(hm:X.mg x=some (.ref f))(hk:sD X.K (.ref f)=true)(hb:Binds X.K fd ps ds)(hd:Vals gn ds)(hx:Passes CX X E)
  (ha:PA X (e::es) t) (qQ:df x:=by decide) (he:starEach (e::es) X.env=(false,eval e X.env)::starEach es X.env:=by rfl) (hpl:(backTo pos (starEach es X.env)).any (·.1)=false:=by rfl) :
  PE X (.Call (.Name x p) (e::es) [] pos) (Kc sp gn E t):=by
 intro ae s σ H Q I h;refine wpAny_Call_Name_kw (l_ I hg hm ?_ qQ);refine A0 (h₀:=X.base) I.ok.mod.kin hk (bJ (ha pos ae s σ H _ I h) λus s1 ⟨vs,H1,I1,r,q⟩=>⟨I1.kW,?_⟩) he hpl;exact qP F hr hb hd hx I1 r q
def BY(F:dF X.prog X.w X.K X.mg X.base CX k f fd ps sp)(hr:bM k X.A)(hg:Gl X x)(hm:X.mg x=some (.ref f))(hk:sD X.K (.ref f)=true)(hb:Binds X.K fd ps ds)(hd:Vals gn ds)(hx:Passes CX X E)
  (qQ:df x:=by decide):PE X (.Call (.Name x p) [] [] pos) (Kc sp gn E F9):=by
 intro ae s σ H Q I h;refine wpAny_Call_Name_kw (l_ I hg hm ?_ qQ);exact Ji I.kW hk (qP (us:=[]) F hr hb hd hx I .nil h)
def Ga{pl:Sem Bool}(he:PE X o ta)(c:pQ X.K C)(hm:Meth X.K C m f)(F:dF X.prog X.w X.K X.mg X.base CX k f fd ps sp)(hr:bM k X.A)(hb:Binds X.K fd ps ds)(hd:Vals gn ds)(hx:Passes CX X E)(ha:PA X (e::es) t)
  (AH:starEach (e::es) X.env=(false,eval e X.env)::starEach es X.env:=by rfl) (hpl:(backTo pos (starEach es X.env)).any (·.1)=false:=by rfl)
  (ht:eval (.Call (.Attribute o m bF) (e::es) [] pos) X.env=(do
   let ov <- eval o X.env
   standAt bF.atName
   let(f,first) <- holding [ov] (getMethod ov m pl)
   callWith pos f first (backTo pos (starEach (e::es) X.env)) (backToKw pos (keywordEach [] X.env))):=by rfl) :
  PE X (.Call (.Attribute o m bF) (e::es) [] pos) (xA C m sp gn E ta t):=by
 intro ae s σ H Q I h;refine Jj (pl:=pl) (bJ (he ae s σ H _ I h) λu s1 ⟨x,H1,I1,rx,a,dx,fs,ex,ea,l,q⟩=>?_) ht;subst ex
 obtain rfl:u=Value.ref a:=rx
 refine mO I1 ea c hm l ?_;refine A0 (first:=[.ref a]) (h₀:=X.base) I.ok.mod.kin hm.kp (bJ (ha pos ae s1 σ H1 _ I1 q) λus s2 ⟨vs,H2,I2,r,q2⟩=>⟨I2.kW,?_⟩) AH hpl
 exact qP (us:=.ref a::us) (vs:=.ref a::vs) F hr hb hd hx I2 (.cons rfl r) q2
def BZ{pl:Sem Bool}(he:PE X o ta)(c:pQ X.K C)(hm:Meth X.K C m f)(F:dF X.prog X.w X.K X.mg X.base CX k f fd ps sp)(hr:bM k X.A)(hb:Binds X.K fd ps ds)(hd:Vals gn ds)(hx:Passes CX X E)
  (ht:eval (.Call (.Attribute o m bF) [] [] pos) X.env=(do
   let ov <- eval o X.env
   standAt bF.atName
   let(f,first) <- holding [ov] (getMethod ov m pl)
   callWith pos f first (backTo pos (starEach [] X.env)) (backToKw pos (keywordEach [] X.env))):=by rfl) :
  PE X (.Call (.Attribute o m bF) [] [] pos) (xA C m sp gn E ta F9):=by
 intro ae s σ H Q I h;refine Jj (pl:=pl) (bJ (he ae s σ H _ I h) λu s1 ⟨x,H1,I1,rx,a,dx,fs,ex,ea,l,q⟩=>?_) ht;subst ex
 obtain rfl:u=Value.ref a:=rx
 refine mO I1 ea c hm l ?_;exact Ji (first:=[.ref a]) I1.kW hm.kp (qP (us:=[.ref a]) (vs:=[.ref a]) F hr hb hd hx I1 (.cons rfl .nil) q)
structure Mk(K:bD)(C f:Addr):Prop where
 makes:AW K C=true
 init:ir K (.ref C) "__init__" = some (some (.ref f))
 fn:AQ K (.ref f)=true
 kp:sD K (.ref C)=true
def B0{ae:dm}{σ:St}{H:Hp}{s:Shared}{Q:VK}{us:Bz}{vs:List V}(M:Mk X.K C f)(F:dF X.prog X.w X.K X.mg X.base CX k f fd ps sp)(hr:bM (k+1) X.A)(hb:Binds X.K fd ps ds)(hd:Vals gn ds)
  (hx:Passes CX X E) (I:Inv X ae σ H s) (r:Vals vs us)
  (h:∀x dx,H x=none->H dx=none->dx≠x->sp (.ref x::(vs++gn)) (upd (upd H dx (.own x)) x (.ins C dx [])) (λv H2=>v=.non/\Q (.ref x) H2) E) :
  wpAny (model X.prog X.w) X.A (call (.ref C) us) (EP X ae σ Q) X.xe s:=by
 have hq:=h (s.heap.objs.size+1) s.heap.objs.size (I.bG.fresh (oK _)) (I.bG.fresh (bV _)) (fG (vj _));have I2:=Inv.made (C:=C) I;have r2:Vals (V.ref (s.heap.objs.size+1)::(vs++gn)) (Value.ref (s.heap.objs.size+1)::(us++ds)):=.cons rfl (r.append hd);have hl:(Value.ref (s.heap.objs.size+1)::us++ds).length=ps.length:=by
  have e:=r2.length;rw[F.len _ _ _ _ hq]at e;exact e.symm
 refine wpAny_call (BS (f:=f) I.kW M.makes M.init (beq_iff_eq.mp M.fn) (codeAny_mono (F.run _ X.stack _ _ ⟨Value.ref (s.heap.objs.size+1)::us,[]⟩ (Value.ref (s.heap.objs.size+1)::(us++ds)) _ _ E (hr.make C us [])
  (I2.Qm.make C us []) (hb _ (Value.ref (s.heap.objs.size+1)::us) I2.kW hl) r2 hq) λr s' Gb=>?_))
 cases r with
 |error e=>exact hx ae σ _ _ e s' I2 Gb
 |ok fl=>
  cases fl with
  |ret u=>
   obtain⟨v,H',I3,rv,ev,q3⟩:=I2.after Gb;subst ev;exact⟨rv,⟨V.ref (s.heap.objs.size+1),H',I3,rfl,q3⟩⟩
  |next=>exact False.elim Gb
  |brk=>exact False.elim Gb
  |cont=>exact False.elim Gb
def qR(M:Mk X.K C f)(F:dF X.prog X.w X.K X.mg X.base CX k f fd ps sp)(hr:bM (k+1) X.A)(hg:Gl X x)(hm:X.mg x=some (.ref C))(hb:Binds X.K fd ps ds)(hd:Vals gn ds)(hx:Passes CX X E)
  (ha:PA X (e::es) t) (qQ:df x:=by decide) (he:starEach (e::es) X.env=(false,eval e X.env)::starEach es X.env:=by rfl) (hpl:(backTo pos (starEach es X.env)).any (·.1)=false:=by rfl) :
  PE X (.Call (.Name x p) (e::es) [] pos) (Qn C sp gn E t):=by
 intro ae s σ H Q I h;refine wpAny_Call_Name_kw (l_ I hg hm ?_ qQ);refine A0 (h₀:=X.base) I.ok.mod.kin M.kp (bJ (ha pos ae s σ H _ I h) λus s1 ⟨vs,H1,I1,r,q⟩=>⟨I1.kW,?_⟩) he hpl;exact B0 M F hr hb hd hx I1 r q
end
section
variable{X:Cx}{CX:BW}{k:Nat}{fd:FuncData}{ps ks:BM}{sp:Sp}{E:XK}{x m:Str}{bF Ñ:Pos}{kws:List Keyword}{te ta:TE}{t tk:TA}{nm:Option Str}
variable{g:Bz->Bz->Bz}{gV:List V->List V->List V}
end
structure gT(N P:BM)(sc:Scope):Prop where
 kind:sc.kind=.function
 co:sc.isCoroutine=false
 gen:sc.isGenerator=false
 nd:N.Nodup
 pre:N.take P.length=P
 par:∀x∈P,sc.names.lookup x=some .local\/sc.names.lookup x=some .cell
 nofree:∀y∈sc.names,y.2≠.free
theorem pS{kindOf:Str->Option NameKind}{x:Str}:∀{binds:List (Str×Value)}{m:Str->Dx},(∀v,(x,v)∉binds)->bindL kindOf binds m x=m x
 |[],_,_=>rfl
 |(n,v)::r,m,h=>by
  unfold bindL;rw[pS λw hw=>h w (bW _ hw)];split
  ·have:x≠n:=by rintro rfl;exact h v fY
   simp[this]
  ·rfl
theorem pU{kindOf:Str->Option NameKind}{x:Str}:∀{binds:List (Str×Value)}{m:Str->Dx},(∀v,(x,v)∉binds)->bindC kindOf binds m x=m x
 |[],_,_=>rfl
 |(n,v)::r,m,h=>by
  unfold bindC;rw[pU λw hw=>h w (bW _ hw)];split
  ·rfl
  ·have:x≠n:=by rintro rfl;exact h v fY
   simp[this]
theorem pV{kindOf:Str->Option NameKind}{x:Str}{v:Value}:∀{P:BM}{vs:Bz}{i:Nat}{m:Str->Dx},P.Nodup->P[i]?=some x->vs[i]?=some v->kindOf x=some .local ->
  bindL kindOf (P.zip vs) m x=some v
 |[],_,_,_,_,h,_,_=>by simp at h
 |_::_,[],_,_,_,_,h,_=>by simp at h
 |p::P,w::vs,0,m,nd,h1,h2,hk=>by
  simp at h1 h2;subst h1;subst h2;show bindL kindOf ((p,w)::P.zip vs) m p=_;unfold bindL;rw[pS λv hv=>(lK.mp nd).1 (Bf hv).1,if_pos hk];simp
 |p::P,w::vs,i+1,m,nd,h1,h2,hk=>by
  show bindL kindOf ((p,w)::P.zip vs) m x=_;unfold bindL;exact pV (i:=i) (lK.mp nd).2 (by simpa using h1) (by simpa using h2) hk
theorem pW{kindOf:Str->Option NameKind}{x:Str}{v:Value}:∀{P:BM}{vs:Bz}{i:Nat}{m:Str->Dx},P.Nodup->P[i]?=some x->vs[i]?=some v->kindOf x≠some .local ->
  bindC kindOf (P.zip vs) m x=some v
 |[],_,_,_,_,h,_,_=>by simp at h
 |_::_,[],_,_,_,_,h,_=>by simp at h
 |p::P,w::vs,0,m,nd,h1,h2,hk=>by
  simp at h1 h2;subst h1;subst h2;show bindC kindOf ((p,w)::P.zip vs) m p=_;unfold bindC;rw[pU λv hv=>(lK.mp nd).1 (Bf hv).1,if_neg hk];simp
 |p::P,w::vs,i+1,m,nd,h1,h2,hk=>by
  show bindC kindOf ((p,w)::P.zip vs) m x=_;unfold bindC;exact pW (i:=i) (lK.mp nd).2 (by simpa using h1) (by simpa using h2) hk
def start(N:BM)(vs:List V):St:=vs.map some++bX (N.length-vs.length) none
def oW(CX:BW)(P:Program)(w:World)(K:bD)(mg:Str->Dx)(base:Heap)(N:BM)(qual:Str)(scope:Scope)(f:Addr)(cd:Value)(A:Around)(outer:List Env)(s:Shared)(H:Hp)(E:XK):Cx where
 prog:=P
 w:=w
 K:=K
 mg:=mg
 base:=base
 A:=A.deeper (envOfC qual scope s.heap.objs.size f cd)
 N:=N
 s₀:=s
 H₀:=H
 env:=envOfC qual scope s.heap.objs.size f cd
 outer:=outer
 stack:=envOfC qual scope s.heap.objs.size f cd::outer
 ex:=[]
 calm:=true
 fn:=λ_=>true
 pn:=[]
 xe:=λe s'=>wpAny (model P w) (A.deeper (envOfC qual scope s.heap.objs.size f cd)) (leaving (envOfC qual scope s.heap.objs.size f cd) e) (λ_ Qp=>CX outer H s E e Qp) (λe' Qp=>CX outer H s E e' Qp) s'
def sR{sc:Scope}{n:Nat}{x:Str}(h:sc.names.lookup x=some .cell):∃c,(cellsFrom n sc.names []).lookup x=some c:=by
 have q:=Jk sc.names n [] (.inl h);exact JR.mp q
def zP{CX:BW}{P:Program}{w:World}{K:bD}{mg:Str->Dx}{base:Heap}{N ps:BM}{qual:Str}{scope:Scope}{f:Addr}{cd:Value}{A:Around}{outer:List Env}{s s1:Shared}{H:Hp}{E:XK}{us:Bz}{vs:List V}
  (S:gT N ps scope) (hd:A.handled=none) (e0:vN P w K mg base A outer s H) (hl:vs.length=ps.length) (r:Vals vs us)
  (x:InCallC s s.heap.objs.size (bindL (envOfC qual scope s.heap.objs.size f cd).kindOf (ps.zip us) λ_=>none) (cellsFrom (s.heap.objs.size+1) scope.names []) (bindC (envOfC qual scope s.heap.objs.size f cd).kindOf (ps.zip us) λ_=>none) s1) :
  Inv (oW CX P w K mg base N qual scope f cd A outer s H E) [] (start N vs) H s1:=by
 have hpl:ps.length<=N.length:=by have:=congrArg Bg S.pre;rw[Bh]at this;omega
 obtain⟨h1,tk,rfl,hk⟩:=x.done;have Qq:∀b:Addr,b∉(oW CX P w K mg base N qual scope f cd A outer s H E).ex:=λb z=>absurd (show b∈([]:D2)from z) (by simp)
 refine⟨⟨e0.mod,S.kind,rfl,rfl,bV _,λy z c h1 h2=>?_,λy hy=>?_,λy c _ h=>?_,λ_=>hd,Around.frames_deeper e0.frames,.inr ⟨rfl,rfl⟩,λb z=>absurd z (Qq b),e0.bs,e0.bsz,λb _ _=>Qq b,λb z=>absurd z (Qq b),e0.kC,e0.frf⟩,
  rfl,e0.bare,Un.kept hk,⟨_,x.toInCall.ns,λi y v h1 h2 h3=>?_⟩,λy c h=>⟨_,x.cell y c h⟩,e0.bG.fresh (bV _),λy c h=>?_,λp hp=>absurd (show p∈([]:dm)from hp) (by simp),e0.bG.kept hk,?_⟩
 ·exact name_of_addr x.apart (PySem.mem_of_lookup h1) (PySem.mem_of_lookup h2)
 ·have hy:scope.names.lookup y=some .cell\/scope.names.lookup y=some .free:=hy
  rcases hy with hy|hy
  ·exact sR hy
  ·exact absurd rfl (S.nofree _ (PySem.mem_of_lookup hy))
 ·exact A3 (x.above y c (PySem.mem_of_lookup h))
 ·have hi:i<vs.length:=by
   unfold start at h2;by_cases hi:i<vs.length
   ·exact hi
   ·rw[e_ (by simpa using hi)]at h2
    rw[A8]at h2;split at h2<;>cases h2
  have ha:vs[i]?=some v:=by
   unfold start at h2;rw[gi (by simpa using hi),fZ]at h2
   cases e:vs[i]? with
   |none=>rw[e]at h2;cases h2
   |some a=>rw[e]at h2;cases h2;rfl
  obtain⟨u,hu,rv⟩:=r.get ha;have hp:ps[i]?=some y:=by
   rw[<- S.pre,List.getElem?_take_of_lt (by omega)];exact h1
  have Yy:ps.Nodup:=by rw[<- S.pre];exact S.nd.sublist (List.take_sublist _ _)
  refine⟨u,rv,?_⟩;rcases S.par y (jT hp)with k|k
  ·exact .inl ⟨k,pV Yy hp hu k⟩
  ·obtain⟨c,e⟩:=sR (n:=s.heap.objs.size+1) k
   refine .inr ⟨.inl k,c,e,?_⟩;have q:=x.cell y c e;rw[pW Yy hp hu (by show scope.names.lookup y≠_;rw[k];decide)]at q
   exact q
 ·exact e0.bG.fresh (A3 (x.above y c (PySem.mem_of_lookup h)))
 ·unfold start
  show _=N.length;rw[dg,b_,vm];omega
def Qs{CX:BW}{P:Program}{w:World}{K:bD}{mg:Str->Dx}{base:Heap}{k:Nat}{f:Addr}{name qual:Str}{params:Arguments}{body:Fs}{scope:Scope}{dV kV doc pm jP ct oc:Value}{an od:Option Addr}
  {E3:Array Dx} {N ps:BM} {sp:Sp} (lk:K.lookup f=some ⟨oc,od,.func (zb name qual params body scope dV kV doc pm an jP ct),E3⟩) (pO:A1 K jP qual=true) (S:gT N ps scope)
  (len:∀vs H Q E,sp vs H Q E->vs.length=ps.length)
  (B3:∀(A:Around)(outer:List Env)(s:Shared)(H:Hp)(vs:List V)(Q:VK)(E:XK),bM k (A.deeper (envOfC qual scope s.heap.objs.size f jP))->sp vs H Q E ->
   ∃t,jx (oW CX P w K mg base N qual scope f jP A outer s H E) body t/\t {nx:=λ_ H'=>Q .non H',rt:=Q} (start N vs) H) :
  dF P w K mg base CX (k+1) f (zb name qual params body scope dV kV doc pm an jP ct) ps sp:=by
 refine⟨len,λA outer s H args us vs Q E hr e0 hb r O8=>?_⟩;have hl:=len _ _ _ _ O8;have KX:K.In s.heap:=e0.mod.kin.keeps λb o e=>(e0.bs b o e).1;have lim:s.heap.NoLimit:=e0.mod.nolimit.keeps λb o e=>(e0.bs b o e).1;have Qt:∀y∈ps.zip us,scope.names.lookup y.1=some .local\/(scope.names.lookup y.1=some .cell/\((cellsFrom (s.heap.objs.size+1) scope.names []).lookup y.1).isSome=true):=λ⟨n,v⟩ hy=>by
  rcases S.par n (Bf hy).1 with q|q
  ·exact .inl q
  ·exact .inr ⟨q,Jk _ _ _ (.inl q)⟩
 refine codeAny_call_function hr.depth (KX _ _ lk) rfl S.co S.gen rfl (PySem.W.codeRec_of KX pO) (hb _ _ _ _ ?_);refine wpAny_newFunctionEnv_cells S.kind Qt λenv he s1 x=>?_;subst he;refine⟨lim.keeps x.toInCall.keep,codeAny_func ?_⟩;obtain⟨t,ht,hq⟩:=B3 A outer s H vs Q E (hr.deeper _) O8;have I:Inv (oW CX P w K mg base N qual scope f jP A outer s H E) [] (start N vs) H s1:=zP S hr.hd e0 hl r x;refine wpAny_mono (ht [] s1 (start N vs) H _ I hq) (λfl s' hs=>?_) λe s' hs=>hs;have fin:∀{σ':St}{H':Hp}{v:V}{u:Value},Inv (oW CX P w K mg base N qual scope f jP A outer s H E) [] σ' H' s'->RelV v u->Q v H'->CE outer P w H s Q u s':=
  λ{σ' H' v u} J rv q=>⟨v,H',J.os,J.bare,J.base,J.bG,rv,q⟩
 cases fl with
 |ret u=>
  obtain⟨v,σ',H',J,rv,q⟩:=hs;exact fin J rv q
 |next=>
  obtain⟨σ',H',J,q⟩:=hs;exact fin (v:=V.non) (u:=Value.none) J rfl q
 |brk=>
  obtain⟨_,_,_,q⟩:=hs;exact False.elim q
 |cont=>
  obtain⟨_,_,_,q⟩:=hs;exact False.elim q
section
variable{X:Cx}{x:Str}{t:TA}{id T:String}{r:List V->Hp->VK->Prop}
def V2(r:List V->Hp->VK->Prop)(t:TA):TE:=λσ H Q=>t σ H λvs H1=>r vs H1 Q
def gB(hc:eV X (.builtin id) r)(hg:Gl X x)(hm:X.mg x=none)(hv:bootBuiltins x=some (.builtin id))(ha:PA X (e::es) t)(hn:x ≠ "__name__" := by decide)(qQ:df x:=by decide)
  (he:starEach (e::es) X.env=(false,eval e X.env)::starEach es X.env:=by rfl) (hpl:(backTo pos (starEach es X.env)).any (·.1)=false:=by rfl):PE X (.Call (.Name x p) (e::es) [] pos) (V2 r t):=by
 intro ae s σ H Q I h;refine wpAny_Call_Name_kw (fk I hg hm hv ?_ hn qQ);exact PyProof.Rows.callWith_builtin1 (bJ (ha pos ae s σ H _ I h) λus s1 ⟨vs,H1,I1,r1,q1⟩=>hc ae s1 σ H1 vs us Q I1 r1 q1) he hpl
def gC(hc:eV X (.type T) r)(hg:Gl X x)(hm:X.mg x=none)(hv:bootBuiltins x=some (.type T))(ha:PA X (e::es) t)(hn:x ≠ "__name__" := by decide)(qQ:df x:=by decide)
  (he:starEach (e::es) X.env=(false,eval e X.env)::starEach es X.env:=by rfl) (hpl:(backTo pos (starEach es X.env)).any (·.1)=false:=by rfl):PE X (.Call (.Name x p) (e::es) [] pos) (V2 r t):=by
 intro ae s σ H Q I h;refine wpAny_Call_Name_kw (fk I hg hm hv ?_ hn qQ);exact zo (bJ (ha pos ae s σ H _ I h) λus s1 ⟨vs,H1,I1,r1,q1⟩=>hc ae s1 σ H1 vs us Q I1 r1 q1) he hpl
end
end L2
namespace HT
open PySem PyProof.Rows
section
open PySem.SeqAt
open PySem.AutoSeq1 (wpAny_loadPart')
open PySem.MeetsSeq PySem.MeetsSeq2 PySem.MeetsSeq3
end
section
variable{prog:Program}{w:World}{A:Around}{E:Value->Shared->Prop}{s:Shared}
def gK(n d:Nat):Ee->Nat
 |none=>d
 |some v=>if v<0 then(v+(n:Int)).toNat else min v.toNat n
end
end HT
namespace L2
open PySem PySem.Spec PyProof.Rows
abbrev TO:=St->Hp->(Ee->Hp->Prop)->Prop
def PO(X:Cx)(e:Option Expr)(t:TO):Prop:=
 ∀(ae:dm)(s:Shared)(σ:St)(H:Hp)(Q:Ee->Hp->Prop),Inv X ae σ H s->t σ H Q ->
  wpAny (model X.prog X.w) X.A (evalPart e X.env) (λu s'=>∃o H',Inv X ae σ H' s'/\IsPart u o/\Q o H') X.xe s
def Gd:TO:=λ_ H Q=>Q none H
def Qu(t:TE):TO:=λσ H Q=>t σ H λx H1=>∃i,x=.int i/\Q (some i) H1
def intsAre_of{ns:Fh}:∀{us:Bz},Vals (ns.map V.int) us->IntsAre us ns:=by
 induction ns with
 |nil=>intro us r;rw[Fp]at r;cases r;exact .nil
 |cons n ns ih=>
  intro us r;rw[dZ]at r;cases r with
  |cons r1 r2=>
   obtain⟨t,e⟩:=r1;subst e;exact .cons n t (ih r2)
variable{X:Cx}
section
variable{e:Expr}{te:TE}{lo hi:Option Expr}{tl th:TO}{pos p2:Pos}
def Ge:PO X none Gd:=by
 intro ae s σ H Q I h;rw[evalPart_none];exact wpAny_pure ⟨none,H,I,.none,h⟩
def Gg(h:PE X e te):PO X (some e) (Qu te):=by
 intro ae s σ H Q I hw;rw[evalPart_some];refine bJ (h ae s σ H _ I hw) λu s1 zz=>?_;obtain⟨x,H1,I1,r1,q1⟩:=zz;obtain⟨i,rfl,q⟩:=q1;obtain⟨t,rfl⟩:=r1;exact⟨some i,H1,I1,.int i t,q⟩
def Kd(X:Cx)(r:V->Ee->Ee->Hp->VK->Prop):Prop:=
 ∀(ae:dm)(s:Shared)(σ:St)(H:Hp)(x:V)(v vl vu:Value)(lo hi:Ee)(sl:Addr)(Q:VK),Inv X ae σ H s->RelV x v->s.heap.IsSliceOf sl vl vu .none->IsPart vl lo->IsPart vu hi->r x lo hi H Q ->
  ∃T id,typeLookup (.type T) "__getitem__" = pure (some (.builtin id))/\s.TypeIs v T/\wpAny (model X.prog X.w) X.A (getItem v (.ref sl)) (EP X ae σ Q) X.xe s
def Kd.or{r r':V->Ee->Ee->Hp->VK->Prop}(h:Kd X r)(h':Kd X r'):Kd X (λx lo hi H Q=>r x lo hi H Q\/r' x lo hi H Q):=by
 intro ae s σ H x v vl vu lo hi sl Q I rx hs pl pu q;rcases q with q|q
 ·exact h ae s σ H x v vl vu lo hi sl Q I rx hs pl pu q
 ·exact h' ae s σ H x v vl vu lo hi sl Q I rx hs pl pu q
def Ò(r:V->Ee->Ee->Hp->VK->Prop)(te:TE)(tl th:TO):TE:=λσ H Q=>te σ H λx H1=>tl σ H1 λl H2=>th σ H2 λu H3=>r x l u H3 Q
def sU{r:V->Ee->Ee->Hp->VK->Prop}(hr:Kd X r)(he:PE X e te)(hl:PO X lo tl)(hu:PO X hi th):PE X (.Subscript e (.Slice lo hi none p2) pos) (Ò r te tl th):=by
 intro ae s σ H Q I h;refine Subscript_ (bJ (he ae s σ H _ I h) λv s1 zz=>?_);obtain⟨x,H1,I1,r1,q1⟩:=zz;refine wpAny_Slice (bJ (hl ae s1 σ H1 _ I1 q1) λvl s2 ⟨l,H2,I2,pl,q2⟩=>bJ (hu ae s2 σ H2 _ I2 q2) λvu s3 zz=>?_);obtain⟨u,H3,I3,pu,q3⟩:=zz;rw[evalPart_none];refine wpAny_pure ?_;have I4:Inv X ae σ H3 {s3 with heap:=s3.heap.push {cls:=.type "slice",data:=.fields #[vl,vu,.none]}}:=I3.kept (t':=s3.toks) λb ob q=>Heap.get?_push_of_some _ q
 obtain⟨T,id,hT,ht,hg⟩:=hr ae {s3 with heap:=s3.heap.push {cls:=.type "slice",data:=.fields #[vl,vu,.none]}} σ H3 x v vl vu l u s3.heap.objs.size Q I4 r1 (Heap.IsSliceOf.new ..) pl pu q3
 show wpAny (model X.prog X.w) X.A (subscriptTail e (.Slice lo hi none p2) v (.ref s3.heap.objs.size)) (EP X ae σ Q) X.xe {s3 with heap:=s3.heap.push {cls:=.type "slice",data:=.fields #[vl,vu,.none]}}
 exact tail_any (ops:=[.ref s3.heap.objs.size,v]) ht hT hg (by with_unfolding_all rfl)
def zQ(xs:List V)(lo hi:Ee):List V:=(xs.drop (HT.gK xs.length 0 lo)).take (HT.gK xs.length xs.length hi-HT.gK xs.length 0 lo)
def sV(xs:List V)(lo hi:Ee):(zQ xs lo hi).length<=xs.length:=by
 unfold zQ;rw[Bh,vn];omega
end
def Gh(n:Nat)(i:Int):Option Nat:=if 0<=i then(if i<n then some i.toNat else none)else if -(n:Int)<=i then some (i+n).toNat else none
def B5{α:Type}(xs:List α)(i:Int):Option α:=(Gh xs.length i).bind λj=>xs[j]?
def xC{n:Nat}{i:Int}{j:Nat}(h:Gh n i=some j):seqIndex? i n=some j/\j<n/\-(n:Int)<=i/\i<n:=by
 unfold Gh at h;by_cases h0:0<=i
 ·rw[if_pos h0]at h
  by_cases h1:i<n
  ·rw[if_pos h1]at h
   have e:i.toNat=j:=jX.inj h;exact⟨by rw[seqIndex_of h0 h1,e],by omega,by omega,h1⟩
  ·rw[if_neg h1]at h;cases h
 ·rw[if_neg h0]at h
  by_cases h1:-(n:Int)<=i
  ·rw[if_pos h1]at h
   have e:(i+n).toNat=j:=jX.inj h;exact⟨by rw[seqIndex_neg (by omega) h1,e],by omega,h1,by omega⟩
  ·rw[if_neg h1]at h;cases h
def qS{α:Type}{xs:List α}{i:Int}{v:α}(h:B5 xs i=some v):∃j,seqIndex? i xs.length=some j/\xs[j]?=some v/\j<xs.length/\-(xs.length:Int)<=i/\i<xs.length:=by
 unfold B5 at h;cases e:Gh xs.length i with
 |none=>rw[e]at h;cases h
 |some j=>
  rw[e]at h;obtain⟨h1,h2,h3,h4⟩:=xC e;exact⟨j,h1,h,h2,h3,h4⟩
def jY(b:Expr):Prop:=∀o i,subscripted b false o i=operate [o,i] (getItem o i)
def Gi(X:Cx)(r:R2):Prop:=
 ∀(value slice:Expr)(ae:dm)(s:Shared)(σ:St)(H:Hp)(x y:V)(v u:Value)(Q:VK),Inv X ae σ H s->RelV x v->RelV y u->r x y H Q ->
  subscripted slice false v u=operate [v,u] (getItem v u)->wpAny (model X.prog X.w) X.A (subscriptTail value slice v u) (EP X ae σ Q) X.xe s
def zR(X:Cx)(id:String)(r:V->List V->Hp->VK->Prop):Prop:=
 ∀(ae:dm)(s:Shared)(σ:St)(H:Hp)(x:V)(xs:List V)(v:Value)(us:Bz)(Q:VK),Inv X ae σ H s->RelV x v->Vals xs us->r x xs H Q ->
  wpAny (model X.prog X.w) X.A (call (.builtin id) (v::us)) (EP X ae σ Q) X.xe s
section
variable{a b:Expr}{ta tb:TE}{pos:Pos}
def Gi.or{r r':R2}(h:Gi X r)(h':Gi X r'):Gi X (λx y H Q=>r x y H Q\/r' x y H Q):=by
 intro value slice ae s σ H x y v u Q I rx ry q hs;rcases q with q|q
 ·exact h value slice ae s σ H x y v u Q I rx ry q hs
 ·exact h' value slice ae s σ H x y v u Q I rx ry q hs
def Ke{r:R2}(hr:Gi X r)(ha:PE X a ta)(hb:PE X b tb)(hs:jY b):PE X (.Subscript a b pos) (LV r ta tb):=by
 intro ae s σ H Q I h;exact Subscript_ (LW ha hb I h λv u s2 x y H2 I2 rx ry q=>hr a b ae s2 σ H2 x y v u Q I2 rx ry q (hs _ _))
def Qv(K:bD):R2:=λx y H Q=>∃p xs i v,x=.ref p/\y=.int i/\cJ K H p xs/\B5 xs i=some v/\Q v H
def Qw(K:bD):R2:=λx y H Q=>∃p xs i v,x=.ref p/\y=.int i/\lO K H p xs/\B5 xs i=some v/\Q v H
def Qx:R2:=λx y H Q=>∃z i c,x=.str z/\y=.int i/\z.length<=sizeLine/\B5 z.cps.toList i=some c/\Q (.str ⟨#[c]⟩) H
def xD:Gi X (Qv X.K):=by
 intro value slice ae s σ H x y v u Q I rx ry h hs;obtain⟨p,xs,i,z,rfl,rfl,hq,he,q⟩:=h;cases rx;obtain⟨t,rfl⟩:=ry;obtain⟨aF,r,pl,hz⟩:=I.list hq;obtain⟨j,h1,h2,h3,h4,h5⟩:=qS he;obtain⟨w,ew,qT⟩:=r.get h2;have hl:=r.length;have hn:=kD;have fin:EP X ae σ Q w s:=⟨z,H,I,qT,q⟩;by_cases h0:0<=i
 ·have hj:i.toNat=j:=by
   rw[seqIndex_of h0 h5]at h1;exact jX.inj h1
  exact item_listR pl.isList h0 (by omega) (by rw[hj];simpa using ew) fin hs
 ·have hj:(i+(aF.toArray.size:Int)).toNat=j:=by
   rw[seqIndex_neg (by omega) h4]at h1
   rw[cQ,<- hl];exact jX.inj h1
  exact subscriptTail_builtinR (x:=w) pl.isList.typeIs slot_list_getitem.lookup
   (wpAny_getItem_list_neg (Q:=λr s'=>r=w/\EP X ae σ Q r s') pl.isList (by omega) (by rw[cQ]<;>omega) (by omega) (by rw[hj];simpa using ew) ⟨rfl,fin⟩) hs
def Mc:Gi X (Qw X.K):=by
 intro value slice ae s σ H x y v u Q I rx ry h hs;obtain⟨p,xs,i,z,rfl,rfl,hq,he,q⟩:=h;cases rx;obtain⟨t,rfl⟩:=ry;obtain⟨aF,r,pl,hz⟩:=I.tuple hq;obtain⟨j,h1,h2,h3,h4,h5⟩:=qS he;obtain⟨w,ew,qT⟩:=r.get h2;have hl:=r.length;have hn:=kD;have fin:EP X ae σ Q w s:=⟨z,H,I,qT,q⟩;exact subscriptTail_builtinR (x:=w) pl.typeIs slot_tuple_getitem.lookup
  (getItem_tuple (j:=j) (Q:=λr s'=>r=w/\EP X ae σ Q r s') pl (by omega) (by omega) (by rw[cQ,<- hl];exact h1) (by simpa using ew) ⟨rfl,fin⟩) hs
def vO:Gi X Qx:=by
 intro value slice ae s σ H x y v u Q I rx ry h hs;obtain⟨z,i,c,rfl,rfl,hz,he,q⟩:=h;obtain⟨t,rfl⟩:=rx;obtain⟨t',rfl⟩:=ry;obtain⟨j,h1,h2,h3,h4,h5⟩:=qS he;have hl:z.cps.toList.length=z.length:=by simp[Str.length]
 rw[hl]at h1 h4 h5;have hn:=kD;exact tail_any (typeIs_str s z t) slot_str_getitem.lookup (getItem_str (c:=c) (by
  have e1:decide (i < -(2^63:Int))=false:=decide_eq_false (by omega)
  have e2:decide (i ≥ 2^63)=false:=decide_eq_false (by omega)
  rw[e1,e2,JK]) (by rw[h1];simpa using h2) ⟨.str ⟨#[c]⟩,H,I.tok _,⟨_,rfl⟩,q⟩) hs
def Yz(K:bD):R2:=λx y H Q=>Qv K x y H Q\/Qw K x y H Q\/Qx x y H Q
def Me:Gi X (Yz X.K):=xD.or (Mc.or vO)
def vP(aF:Bz)(n j:Nat)(u:Value):Obj.mapSeq (·.setIfInBounds j u) {cls:=.type "list",data:=.seq aF.toArray n}={cls:=.type "list",data:=.seq (aF.set j u).toArray n}:=by
 simp[Obj.mapSeq]
theorem Inv.lst{ae:dm}{σ:St}{H:Hp}{s:Shared}{p:Addr}{xs:List V}(I:Inv X ae σ H s)(h:H p=some (.lst xs)) :
  ∃(aF:Bz)(n:Nat),Vals xs aF/\s.heap.get? p=some {cls:=.type "list",data:=.seq aF.toArray n}/\xs.length<=sizeLine:=by
 obtain⟨z,aF,n,r,e⟩:=I.bG p _ h;exact⟨aF,n,r,e,z⟩
def Inv.Mf{ae:dm}{σ:St}{H:Hp}{s:Shared}{p:Addr}{xs ys:List V}{aF its':Bz}{n n':Nat}{f:Obj->Obj}(I:Inv X ae σ H s)(h:H p=some (.lst xs))
  (ho:s.heap.get? p=some {cls:=.type "list",data:=.seq aF.toArray n}) (hf:f {cls:=.type "list",data:=.seq aF.toArray n}={cls:=.type "list",data:=.seq its'.toArray n'}) (r:Vals ys its') (hz:ys.length<=sizeLine) (t:Nat) :
  Inv X ae σ (upd H p (.lst ys)) {s with heap:=s.heap.update p f,toks:=t}:=by
 have e:(s.heap.update p f).get? p=some {cls:=.type "list",data:=.seq its'.toArray n'}:=by
  rw[Heap.get?_update_self f ho (by rw[hf]<;>rfl),hf]
 refine I.write (x:=p) (e:=p) (by rw[h];trivial) (.inl rfl) (λb u hb q=>(Heap.get?_update_other _ _ (Ne.symm hb)).trans q) ⟨_,e⟩ ?_
 exact⟨hz,its',n',r,e⟩
def Qy:V->V->V->Hp->(Hp->Prop)->Prop:=λo i v H Q=>∃p xs k j,o=.ref p/\i=.int k/\H p=some (.lst xs)/\Gh xs.length k=some j/\Q (upd H p (.lst (xs.set j v)))
def set_list:P0 X Qy:=by
 intro ae s σ H o i v ov iv u Q I ro ri rv h;obtain⟨p,xs,k,j,rfl,rfl,hp,hj,q⟩:=h;cases ro;obtain⟨t,rfl⟩:=ri;obtain⟨aF,n,r,ho,hz⟩:=I.lst hp;obtain⟨h1,h2,h3,h4⟩:=xC hj;have hl:=r.length;have hn:=kD;have I':Inv X ae σ (upd H p (.lst (xs.set j v))) {s with heap:=s.heap.update p (Obj.mapSeq (·.setIfInBounds j u))}:=
  I.Mf hp ho (vP aF n j u) (r.set rv j) (by rw[fh];exact hz) s.toks
 by_cases h0:0<=k
 ·have hk:k.toNat=j:=by
   rw[seqIndex_of h0 h4]at h1;exact jX.inj h1
  exact PySem.W.ki_setAt ho h0 (by omega) (by rw[cQ,<- hl];exact h4) (by rw[hk];exact⟨_,I',q⟩)
 ·have hk:(k+(aF.toArray.size:Int)).toNat=j:=by
   rw[seqIndex_neg (by omega) h3]at h1
   rw[cQ,<- hl];exact jX.inj h1
  exact PySem.W.ki_setBack ho (by omega) (by rw[cQ,<- hl];exact h3) (by omega) (by rw[hk];exact⟨_,I',q⟩)
def qU(lo hi:Ee)(n:Nat):(sliceBounds lo hi none n).1=((HT.gK n 0 lo:Nat):Int)/\(sliceBounds lo hi none n).2.1=((HT.gK n n hi:Nat):Int)/\(sliceBounds lo hi none n).2.2=1:=by
 refine⟨?_,?_,rfl⟩
 ·cases lo with
  |none=>simp[sliceBounds,HT.gK]
  |some i=>
   simp only[sliceBounds,HT.gK,JS,show(1:Int) > 0 by decide,if_true]
   by_cases h:i<0
   ·simp only[h,if_true]<;>omega
   ·simp only[h,if_false]<;>omega
 ·cases hi with
  |none=>simp[sliceBounds,HT.gK]
  |some i=>
   simp only[sliceBounds,HT.gK,JS,show(1:Int) > 0 by decide,if_true]
   by_cases h:i<0
   ·simp only[h,if_true]<;>omega
   ·simp only[h,if_false]<;>omega
def oX(aF:Bz)(lo hi:Ee):slicePick aF.toArray lo hi none=((aF.drop (HT.gK aF.length 0 lo)).take (HT.gK aF.length aF.length hi-HT.gK aF.length 0 lo)).toArray:=by
 obtain⟨h1,h2,h3⟩:=qU lo hi aF.toArray.size;unfold slicePick;rw[h1,h2,h3];simp only[sliceRange_one,pick_run,cQ]<;>rfl
def Qz(K:bD):V->Ee->Ee->Hp->VK->Prop:=λx lo hi H Q=>∃a xs,x=.ref a/\cJ K H a xs/\∀p,H p=none->Q (.ref p) (upd H p (.lst (zQ xs lo hi)))
def Gj:Kd X (Qz X.K):=by
 intro ae s σ H x v vl vu lo hi sl Q I rx hs pl pu h;obtain⟨a,xs,rfl,hx,q⟩:=h;cases rx;obtain⟨aF,r,ht,hz⟩:=I.list hx;have dD:=r.length;refine⟨"list",_,slot_list_getitem.lookup,ht.isList.typeIs,?_⟩;refine wpAny_getItem_list_slice ht.isList hs pl pu .none (by simp) ?_ (by rw[cQ]<;>omega)
 rw[oX,<- dD];refine⟨.ref s.heap.objs.size,_,I.laid (t':=s.toks) (o:=.lst (zQ xs lo hi)) (λb ob q=>Heap.get?_push_of_some _ q) (bV _) ?_,rfl,q _ (I.bG.fresh (bV _))⟩;exact⟨fK (sV xs lo hi) hz,_,0,(r.drop (HT.gK xs.length 0 lo)).take (HT.gK xs.length xs.length hi-HT.gK xs.length 0 lo),Heap.get?_push_size _ rfl⟩
def eW:V->Bool
 |.non=>true
 |.bl _=>true
 |.int _=>true
 |.str _=>true
 |_=>false
def E4:V->V->Bool
 |.non,.non=>true
 |.bl a,.bl b=>a == b
 |.bl a,.int b=>(if a then 1 else 0) == b
 |.int a,.bl b=>a == (if b then 1 else 0)
 |.int a,.int b=>a == b
 |.str a,.str b=>a == b
 |_,_=>false
def B6{A:Around}{s:Shared}{y x:V}{u v:Value}(ry:RelV y u)(rx:RelV x v)(fy:eW y=true)(fx:eW x=true):SeqAt.EqAt A s u v (E4 y x):=by
 cases y with
 |non=>
  cases ry;cases x with
  |non=>cases rx;exact SeqAt.EqAt.same _
  |bl b=>cases rx;exact SeqAt.EqAt.none_bool b
  |int b=>obtain⟨t,rfl⟩:=rx;exact SeqAt.EqAt.none_int b t
  |str b=>obtain⟨t,rfl⟩:=rx;exact SeqAt.EqAt.none_str b t
  |_=>exact absurd (show false=true from fx) fL
 |bl a=>
  cases ry;cases x with
  |non=>cases rx;exact SeqAt.EqAt.bool_none a
  |bl b=>cases rx;exact SeqAt.EqAt.bool_bool a b
  |int b=>obtain⟨t,rfl⟩:=rx;exact SeqAt.EqAt.bool_int a b t
  |str b=>obtain⟨t,rfl⟩:=rx;exact SeqAt.EqAt.bool_str a b t
  |_=>exact absurd (show false=true from fx) fL
 |int a=>
  obtain⟨t',rfl⟩:=ry;cases x with
  |non=>cases rx;exact SeqAt.EqAt.int_none a t'
  |bl b=>cases rx;exact SeqAt.EqAt.int_bool a t' b
  |int b=>obtain⟨t,rfl⟩:=rx;exact SeqAt.EqAt.int_int a t' b t
  |str b=>obtain⟨t,rfl⟩:=rx;exact SeqAt.EqAt.int_str a t' b t
  |_=>exact absurd (show false=true from fx) fL
 |str a=>
  obtain⟨t',rfl⟩:=ry;cases x with
  |non=>cases rx;exact SeqAt.EqAt.str_none a t'
  |bl b=>cases rx;exact SeqAt.EqAt.str_bool a t' b
  |int b=>obtain⟨t,rfl⟩:=rx;exact SeqAt.EqAt.str_int a t' b t
  |str b=>obtain⟨t,rfl⟩:=rx;exact SeqAt.EqAt.str_str a t' b t
  |_=>exact absurd (show false=true from fx) fL
 |_=>exact absurd (show false=true from fy) fL
def vQ(x:V)(u:Value):Bool:=match u with
 |.none=>E4 .non x
 |.bool b=>E4 (.bl b) x
 |.int i _=>E4 (.int i) x
 |.str z _=>E4 (.str z) x
 |_=>false
def B7{x y:V}{u:Value}(r:RelV y u)(f:eW y=true):vQ x u=E4 y x:=by
 cases y with
 |non=>cases r;rfl
 |bl b=>cases r;rfl
 |int i=>obtain⟨t,rfl⟩:=r;rfl
 |str z=>obtain⟨t,rfl⟩:=r;rfl
 |_=>exact absurd (show false=true from f) fL
theorem jZ{x:V}:∀{xs:List V}{us:Bz},Vals xs us->xs.all eW=true->us.any (vQ x)=xs.any λy=>E4 y x
 |_,_,.nil,_=>rfl
 |y::xs,u::us,.cons r t,f=>by
  rw[eU,dh]at f;rw[qE,qE,B7 r f.1,jZ t f.2]
theorem iF{A:Around}{s:Shared}{x:V}{v:Value}(rx:RelV x v)(fx:eW x=true):∀{xs:List V}{us:Bz},Vals xs us->xs.all eW=true->∀u∈us,SeqAt.EqAt A s u v (vQ x u)
 |_,_,.nil,_=>λu hu=>by cases hu
 |y::xs,u::us,.cons r t,f=>λu' hu=>by
  rw[eU,dh]at f;rcases gh.mp hu with rfl|hu
  ·rw[B7 r f.1];exact B6 r rx f.1 fx
  ·exact iF rx fx t f.2 u' hu
def V3(x:V)(xs:List V):Bool:=xs.any λy=>E4 y x
def UQ(K:bD)(neg:Bool):R2:=λx y H Q=>∃p xs,y=.ref p/\(cJ K H p xs\/lO K H p xs)/\eW x=true/\xs.all eW=true/\Q (.bl (if neg then !V3 x xs else V3 x xs)) H
def zS:gk X (compareOp .In) (UQ X.K false):=by
 intro ae s σ H x y v u Q I rx ry h;obtain⟨p,xs,rfl,hq,fx,fs,q⟩:=h;cases ry;rcases hq with hq|hq
 ·obtain⟨aF,r,pl,hz⟩:=I.list hq
  refine SeqAt.in_listAt (vQ x) pl.isList (λw hw=>iF rx fx r fs w (by simpa using hw)) ⟨.bl _,H,I,rfl,?_⟩
  rw[show aF.toArray.any (vQ x)=aF.any (vQ x) by simp,jZ r fs]
  exact q
 ·obtain⟨aF,r,pl,hz⟩:=I.tuple hq
  refine SeqAt.in_tupleAt (vQ x) pl (λw hw=>iF rx fx r fs w (by simpa using hw)) ⟨.bl _,H,I,rfl,?_⟩
  rw[show aF.toArray.any (vQ x)=aF.any (vQ x) by simp,jZ r fs]
  exact q
def qV:gk X (compareOp .NotIn) (UQ X.K true):=by
 intro ae s σ H x y v u Q I rx ry h;obtain⟨p,xs,rfl,hq,fx,fs,q⟩:=h;cases ry;rcases hq with hq|hq
 ·obtain⟨aF,r,pl,hz⟩:=I.list hq
  refine SeqAt.notIn_listAt (vQ x) pl.isList (λw hw=>iF rx fx r fs w (by simpa using hw)) ⟨.bl _,H,I,rfl,?_⟩
  rw[show aF.toArray.any (vQ x)=aF.any (vQ x) by simp,jZ r fs]
  exact q
 ·obtain⟨aF,r,pl,hz⟩:=I.tuple hq
  refine SeqAt.notIn_tupleAt (vQ x) pl (λw hw=>iF rx fx r fs w (by simpa using hw)) ⟨.bl _,H,I,rfl,?_⟩
  rw[show aF.toArray.any (vQ x)=aF.any (vQ x) by simp,jZ r fs]
  exact q
def gU:eV X (.type "list") (λxs H Q=>∃p ys,xs=[.ref p]/\(cJ X.K H p ys\/lO X.K H p ys)/\∀l,H l=none->Q (.ref l) (upd H l (.lst ys))):=by
 intro ae s σ H xs us Q I r h;obtain⟨p,ys,rfl,hq,q⟩:=h;obtain⟨u,rfl,rx⟩:=vals1 r;cases rx;have fin:∀(aF:Bz),Vals ys aF->ys.length<=sizeLine->∀(h':Heap)(c':Nat),(∀b o',s.heap.get? b=some o'->h'.get? b=some o') ->
   h'.get? s.heap.objs.size=some {cls:=.type "list",dict:=none,data:=.seq aF.toArray c',slots:=#[]}->EP X ae σ Q (.ref s.heap.objs.size) {s with heap:=h'}:=λaF r' hz h' c' kp e=>
  ⟨.ref s.heap.objs.size,_,I.laid (t':=s.toks) kp (bV _) (show ck X.prog X.w _ h' _ (.lst ys)from⟨hz,aF,c',r',e⟩),rfl,q _ (I.bG.fresh (bV _))⟩
 rcases hq with hq|hq
 ·obtain⟨aF,r',pl,hz⟩:=I.list hq
  have dD:=r'.length;obtain⟨o,ho,hc,n,hd⟩:=pl.isList;exact call_list_seq p (.inl rfl) ho hc hd (λh' c' kp e=>fin aF r' hz h' c' kp e) (by simp only[cQ]<;>omega)
 ·obtain⟨aF,r',pl,hz⟩:=I.tuple hq
  have dD:=r'.length;obtain⟨o,ho,hc,n,hd⟩:=pl;exact call_list_seq p (.inr rfl) ho hc hd (λh' c' kp e=>fin aF r' hz h' c' kp e) (by simp only[cQ]<;>omega)
def YA(K:bD)(T:String)(x:V)(H:Hp):Prop:=match x with
 |.str _=>T = "str"
 |.int _=>T = "int"
 |.ref p=>(T = "list" /\ ∃xs,cJ K H p xs)\/(T = "tuple" /\ ∃o,K.lookup p=some o/\o.cls=.type "tuple" /\ o.dict=none) \/
   (T = "dict" /\ ((∃aE,H p=some (.dK aE))\/∃aE,H p=some (.dT aE)))\/(T = "set" /\ ∃S n,H p=some (.set S n))
 |_=>False
def Mg{ae:dm}{σ:St}{H:Hp}{s:Shared}{T:String}{x:V}{v:Value}(I:Inv X ae σ H s)(r:RelV x v)(ty:YA X.K T x H) :
  s.TypeIs v T/\∀a,v=.ref a->∃ob,s.heap.get? a=some ob/\ob.dict=none:=by
 cases x with
 |str z=>
  obtain⟨t,rfl⟩:=r;cases(show T = "str"from ty);exact⟨typeIs_str s z t,λ_ e=>nomatch e⟩
 |int i=>
  obtain⟨t,rfl⟩:=r;cases(show T = "int"from ty);exact⟨typeIs_int s i t,λ_ e=>nomatch e⟩
 |ref p=>
  cases r;rcases ty with⟨rfl,xs,hq⟩|⟨rfl,o,hk,hc,hd⟩|⟨rfl,hk⟩|⟨rfl,S,n,hk⟩
  ·obtain⟨aF,_,pl,_⟩:=I.list hq
   refine⟨pl.isList.typeIs,λa e=>?_⟩;cases e;obtain⟨o,n,e,c,hd,_⟩:=pl;exact⟨o,e,hd⟩
  ·refine⟨⟨o,I.kW p o hk,hc⟩,λa e=>?_⟩
   cases e;exact⟨o,I.kW _ o hk,hd⟩
  ·have z:∃o,s.heap.get? p=some o/\o.ExactDict:=by
    rcases hk with⟨aE,hk⟩|⟨aE,hk⟩
    ·obtain⟨_,_,_,_,o,_,_,e,ex,_⟩:=I.bG p _ hk
     exact⟨o,e,ex⟩
    ·obtain⟨_,_,_,_,o,_,_,e,ex,_⟩:=I.bG p _ hk
     exact⟨o,e,ex⟩
   obtain⟨o,e,ex⟩:=z;refine⟨⟨o,e,ex.1⟩,λa e2=>?_⟩;cases e2;exact⟨o,e,ex.2.1⟩
  ·obtain⟨o,_,_,_,e,ex,_⟩:=I.bG p _ hk
   refine⟨⟨o,e,ex.1⟩,λa e2=>?_⟩;cases e2;exact⟨o,e,ex.2.1⟩
 |_=>exact False.elim ty
def YB(K:bD)(T:String)(r:V->List V->Hp->VK->Prop)(to:TE)(t:TA):TE:=λσ H Q=>to σ H λx H1=>YA K T x H1/\t σ H1 λxs H2=>r x xs H2 Q
variable{o e:Expr}{es:D1}{to:TE}{t:TA}{name:Str}{bF bP:Pos}{T id:String}{r:V->List V->Hp->VK->Prop}
def xE(pa:PlainAttrs T)(slot:Slot T name id)(V4:typeOf (.builtin id)=pure (.type "method_descriptor"))(hm:zR X id r)(ho:PE X o to)(ha:PA X (e::es) t)
  (B8:attributeBase o name X.env (eval o X.env)=eval o X.env:=by rfl)
  (V5:((backTo bP (starEach (e::es) X.env)).all (λx=>!x.1)&&(backToKw bP (keywordEach [] X.env)).all (λx=>x.1.isSome)
   && decide ((e::es).length+([]:List Keyword).length+(if([]:List Keyword).isEmpty then 0 else 1)<30))=true:=by rfl)
  (gD:(bF.endLine == bP.line)=true:=by rfl) (hs:starEach (e::es) X.env=(false,eval e X.env)::starEach es X.env:=by rfl) (Mh:(backTo bP (starEach es X.env)).any (·.1)=false:=by rfl) :
  PE X (.Call (.Attribute o name bF) (e::es) [] bP) (YB X.K T r to t):=by
 intro ae s σ H Q I h;refine wpAny_Call_method_late B8 V5 gD rfl (bJ (ho ae s σ H _ I h) λv s1 zz=>?_);obtain⟨x,H1,I1,r1,ty,q1⟩:=zz;obtain⟨h1,h2⟩:=Mg I1 r1 ty;refine⟨T,id,pa,slot,V4,h1,h2,?_⟩;have hA:=ha bP ae s1 σ H1 _ I1 q1;rw[hs]at hA ⊢;refine Calls.callWith_builtin (by show(false ||(backTo bP (starEach es X.env)).any (·.1))=false;rw[Mh]<;>rfl) (Calls.evalArgs_plain ?_)
 exact bJ hA λus s2 ⟨vs,H2,I2,r2,q2⟩=>hm ae s2 σ H2 x vs v us Q I2 r1 r2 q2
end
def YC(X:Cx)(id:String)(r:V->List V->Hp->VK->Prop):Prop:=
 ∀(ae:dm)(s:Shared)(σ:St)(H:Hp)(x:V)(xs:List V)(v:Value)(us:Bz)(Q:VK),Inv X ae σ H s->RelV x v->Vals xs us->r x xs H Q ->
  wpAny (model X.prog X.w) X.A (call (.builtin id) (v::us)) (EP X ae σ Q) X.xe s
def Vals.one:∀{x:V}{us:Bz},Vals [x] us->∃u,us=[u]/\RelV x u
 |_,_,.cons r .nil=>⟨_,rfl,r⟩
def Vals.two:∀{x y:V}{us:Bz},Vals [x,y] us->∃u v,us=[u,v]/\RelV x u/\RelV y v
 |_,_,_,.cons r (.cons q .nil)=>⟨_,_,rfl,r,q⟩
theorem Vals.eraseIdx:∀{xs:List V}{us:Bz}(i:Nat),Vals xs us->Vals (xs.eraseIdx i) (us.eraseIdx i)
 |_,_,_,.nil=>.nil
 |_,_,0,.cons _ t=>t
 |_,_,i+1,.cons r t=>.cons r (Vals.eraseIdx i t)
theorem Vals.rep{xs:List V}{us:Bz}(h:Vals xs us):∀k:Nat,Vals (bX k xs).flatten (bX k us).flatten
 |0=>.nil
 |k+1=>by
  rw[sG,sG,vo,vo];exact Vals.append h (Vals.rep h k)
theorem pX{α:Type}:∀(l:List α)(i:Nat),(l.eraseIdx i).length<=l.length
 |[],_=>bV _
 |_::_,0=>oK _
 |_::r,i+1=>Nat.succ_le_succ (pX r i)
theorem foldl_rep(aF:Bz):∀(k:Nat)(gW:Bz),
  Bj (λx1 x2=>x1++x2) gW.toArray (bX k aF.toArray)=(gW++(bX k aF).flatten).toArray
 |0,gW=>by simp
 |k+1,gW=>by
  have e:gW.toArray++aF.toArray=(gW++aF).toArray:=by simp
  have e2:(gW++aF)++(bX k aF).flatten=gW++(bX (k+1) aF).flatten:=by
   rw[sG,vo,gQ]
  rw[<- e2,<- foldl_rep aF k (gW++aF),<- e,sG,zd]
section
variable{ae:dm}{σ:St}{H:Hp}{s:Shared}{l b:Addr}{xs ys zs:List V}
def Inv.QA{aF its':Bz}{n:Nat}{f:Array Value->Array Value}{t':Nat}(I:Inv X ae σ H s)(hH:H l=some (.lst xs))
  (e:s.heap.get? l=some {cls:=.type "list",data:=.seq aF.toArray n}) (hf:f aF.toArray=its'.toArray) (hv:Vals ys its') (hz:ys.length<=sizeLine) :
  Inv X ae σ (upd H l (.lst ys)) {s with heap:=s.heap.update l (Obj.mapSeq f),toks:=t'}:=by
 have q:=PySem.IsL.update e f;rw[hf]at q;refine I.write (x:=l) (e:=l) (by rw[hH];exact trivial) (.inl rfl) (λb' u hb hu=>(Heap.get?_update_other s.heap (Obj.mapSeq f) (Ne.symm hb)).trans hu) ⟨_,q⟩ ?_
 exact⟨hz,its',_,hv,q⟩
def Inv.zT{aF:Bz}{t':Nat}(I:Inv X ae σ H s)(hv:Vals ys aF)(hz:ys.length<=sizeLine) :
  Inv X ae σ (upd H s.heap.objs.size (.lst ys)) {s with heap:=s.heap.push {cls:=.type "list",data:=.seq aF.toArray},toks:=t'}:=
 I.laid (λ_ _ q=>Heap.get?_push_of_some _ q) (bV _) ⟨hz,aF,0,hv,Heap.get?_push_size _ rfl⟩
theorem Inv.fresh(I:Inv X ae σ H s):H s.heap.objs.size=none:=I.bG.fresh (bV _)
def Inv.B9(I:Inv X ae σ H s)(hH:H l=some (.lst xs)):xs.length<=sizeLine/\∃(aF:Bz)(n:Nat),Vals xs aF/\xs.length=aF.length/\s.heap.get? l=some {cls:=.type "list",data:=.seq aF.toArray n}:=by
 obtain⟨z,aF,n,r,e⟩:=I.bG l _ hH;exact⟨z,aF,n,r,r.length,e⟩
def B_{n:Nat}(h:n<=sizeLine):Builtin.List.listTooLong n=false:=by
 unfold Builtin.List.listTooLong;exact decide_eq_false (by omega)
end
section
def Gk:V->List V->Hp->VK->Prop:=λx vs H Q=>∃l xs y,x=.ref l/\vs=[y]/\H l=some (.lst xs)/\xs.length<sizeLine/\Q .non (upd H l (.lst (xs++[y])))
def kF:YC X "list.append" Gk:=by
 intro ae s σ H x vs v us Q I rx rv h;obtain⟨l,xs,y,rfl,rfl,hH,hz,q⟩:=h;cases rx;obtain⟨u,rfl,ru⟩:=rv.one;obtain⟨z,aF,n,r,hl,e⟩:=I.B9 hH;refine call_meets F.slot_list_append ⟨_,e,rfl⟩ F.entry_list_append (F.args_list_append_2 _ _) (PySem.list_append l aF.toArray n u (by rw[cQ];omega)) ⟨e,?_⟩
 refine⟨.non,_,I.QA (its':=aF++[u]) hH e (by simp) (r.append (.cons ru .nil)) ?_,rfl,q⟩
 rw[dg,oN];omega
def Mi:V->List V->Hp->VK->Prop:=λx vs H Q=>∃l xs i k y,x=.ref l/\vs=[.int i]/\H l=some (.lst xs)/\-(2^63)<=i/\i<2^63/\seqIndex? i xs.length=some k/\xs[k]?=some y/\Q y (upd H l (.lst (xs.eraseIdx k)))
def Cb:YC X "list.pop" Mi:=by
 intro ae s σ H x vs v us Q I rx rv h;obtain⟨l,xs,i,k,y,rfl,rfl,hH,h1,h2,hk,hy,q⟩:=h;cases rx;obtain⟨u,rfl,ru⟩:=rv.one;obtain⟨t,rfl⟩:=ru;obtain⟨z,aF,n,r,hl,e⟩:=I.B9 hH;obtain⟨w,hw,qT⟩:=r.get hy;refine call_meets F.slot_list_pop ⟨_,e,rfl⟩ F.entry_list_pop (F.args_list_pop_2 _ _)
  (MeetsSeq.list_pop_at l aF.toArray n i t k w (fitsIndex_both h1 h2) (by rw[cQ,<- hl];exact hk) (by rw[<- Array.getElem?_toList];exact hw) (by rw[cQ];omega)) ⟨e,?_⟩
 refine⟨y,_,I.QA (its':=aF.eraseIdx k) hH e ?_ (r.eraseIdx k) ?_,qT,q⟩
 ·show aF.toArray.eraseIdxIfInBounds k=(aF.eraseIdx k).toArray
  rw[List.eraseIdxIfInBounds_toArray]
 ·have:=pX xs k
  omega
def QC:R2:=λx y H Q=>∃l b xs zs,x=.ref l/\y=.ref b/\H l=some (.lst xs)/\H b=some (.lst zs)/\xs.length+zs.length<=sizeLine/\∀p,H p=none->Q (.ref p) (upd H p (.lst (xs++zs)))
def Cc:gk X (binaryOp .Add) QC:=by
 intro ae s σ H x y v u Q I rx ry h;obtain⟨l,b,xs,zs,rfl,rfl,hH,hB,hz,q⟩:=h;cases rx;cases ry;obtain⟨z,aF,n,r,hl,e⟩:=I.B9 hH;obtain⟨z2,QD,n2,r2,O9,e2⟩:=I.B9 hB;refine PySem.P.add_list e e2 ?_ (by rw[cQ,cQ];omega)
 have ea:aF.toArray++QD.toArray=(aF++QD).toArray:=by simp
 rw[ea];exact⟨.ref _,_,I.zT (t':=s.toks) (r.append r2) (by rw[dg];omega),rfl,q _ I.fresh⟩
def QE:R2:=λx y H Q=>∃l k xs,x=.ref l/\y=.int k/\H l=some (.lst xs)/\-(2^63)<=k/\k<2^63/\xs.length*k.toNat<=sizeLine /\
 ∀p,H p=none->Q (.ref p) (upd H p (.lst (bX k.toNat xs).flatten))
def len_rep{α:Type}(xs:List α)(k:Nat):(bX k xs).flatten.length=k*xs.length:=by
 induction k with
 |zero=>simp
 |succ k ih=>rw[sG,vo,dg,ih,A4,Nat.add_comm]
def Cd:gk X (binaryOp .Mult) QE:=by
 intro ae s σ H x y v u Q I rx ry h;obtain⟨l,k,xs,rfl,rfl,hH,h1,h2,hz,q⟩:=h;cases rx;obtain⟨t,rfl⟩:=ry;obtain⟨z,aF,n,r,hl,e⟩:=I.B9 hH;have dD:aF.toArray.size*k.toNat<=sizeLine:=by rw[cQ,<- hl];exact hz
 have V6:¬ aF.toArray.size*k.toNat > (2^63-1)/8:=by
  have:(sizeLine:Nat)<=(2^63-1)/8:=by decide
  omega
 have V7:¬ (!Builtin.List.listFitsIndex k)=true:=by
  rw[fitsIndex_both h1 h2];exact fL
 have QF:¬ Builtin.List.listTooLong (aF.toArray.size*k.toNat)=true:=by
  rw[B_ dD];exact fL
 have V8:Bj (λx1 x2=>x1++x2) #[] (bX (if aF.toArray.isEmpty=true then 0 else k.toNat) aF.toArray)=(bX k.toNat aF).flatten.toArray:=by
  have f0:∀m:Nat,Bj (λx1 x2=>x1++x2) #[] (bX m aF.toArray)=(bX m aF).flatten.toArray:=λm=>by
   have:=foldl_rep aF m []
   rw[lL]at this;exact this
  rw[f0];cases aF with
  |nil=>simp
  |cons a r'=>rw[if_neg (by simp)]
 refine wpAny_binaryOp_repeat_ref (T := "list") (U := "int") (by decide) ⟨_,e,rfl⟩ (λs'=>typeIs_int s' k t) noFill_list_mul F.fills_int_mul F.slot_int_rmul repeat_list F.slot_int_index.lookup
  (call_meets F.slot_int_rmul (typeIs_int s k t) F.entry_int_rmul (F.args_int_rmul_2 _ _) (int___rmul___int_list k t l aF.toArray n)
   ⟨e,rfl,⟨_,e,rfl⟩,call_meets F.slot_list_mul ⟨_,e,rfl⟩ F.entry_list_mul (F.args_list_mul_2 _ _) (AutoListH.list___mul___list_int_3 l aF.toArray n k t V7 V6 QF) ⟨e,?_⟩⟩)
 rw[V8];exact⟨.ref _,_,I.zT (t':=s.toks) (r.rep k.toNat) (by rw[len_rep,Nat.mul_comm];exact hz),rfl,q _ I.fresh⟩
end
section
variable{prog:Program}{w:World}{A:Around}{E:Value->Shared->Prop}{s:Shared}
set_option maxRecDepth 100000 in
end
section
end
end L2
namespace Att
open PySem PySem.W PySem.Calls PyProof.Rows
def lQ{P:Params}{h:Heap}:∀(ns:Fh)(vs:Bz),WellAll P h vs (ns.map WData.int)->IntsAre vs ns:=by
 intro ns
 induction ns with
 |nil=>
  intro vs w;rw[Fp]at w;cases w;exact .nil
 |cons n ns ih=>
  intro vs w;rw[dZ]at w;cases w with
  |cons a b=>
   cases a;exact .cons _ _ (ih _ b)
def zU{l:OpenLaw}{n:Nat}(hn:l.most=some n){P:Params}{h:Heap}{args:List WData}{vals:Bz}
  (Gn:l.row.toRowW.claim.pre args=true) (V9:WellAll P h vals args) :
  ∃a vs ns,vals=[Value.ref a]/\args=[WData.list (ns.map WData.int)]/\h.get? a=some {cls:=.type "list",data:=.seq vs.toArray}/\IntsAre vs ns/\ns.length<=n:=by
 have UR:WShape.hasAll [] args [.list .int]=true:=(pre_splitW Gn).1;have hc:l.pre.holds [] {args:=args}=true:=(pre_splitW Gn).2;obtain⟨d,r,rfl,h1,h2⟩:=hasAllW_cons UR
 obtain rfl:=hasAllW_nil h2
 obtain⟨xs,rfl,h3⟩:=hasW_list h1;obtain⟨ns,rfl⟩:=items_int h3;have dD:ns.length<=n:=by
  unfold OpenLaw.pre at hc;have h4:(WTm.not (.lt (.lit (.int (n:Int))) (.len (.arg 0)))).holds [] {args:=[.list (ns.map .int)]}=true:=by
   have h4:=(holds_andW hc).1;rw[hn]at h4;exact h4
  have h5:=condW_of h4 (w_not (w_lt w_lit (w_len_list (w_arg rfl))));rw[b_]at h5;refine Nat.le_of_not_lt λq=>?_;have q':(n:Int)<((ns.length:Nat):Int):=by omega
  first
   |(rw[decide_eq_true q']at h5;exact absurd h5 (by decide))
   |(simp at h5;omega)
 cases V9 with
 |cons w1 w2=>
  cases w2;cases w1 with
  |list ho Mj=>exact⟨_,_,ns,rfl,rfl,ho,lQ ns _ Mj,dD⟩
def zV(l:OpenLaw)(args:List WData):l.row.toRowW.claim.post args (.bool true) args=true:=
 postW_of (r:=l.row.toRowW) (X:=(true == true))
  (show WShape.has [] (.bool true) .bool=true by first|rfl|decide|simp[WShape.has,WShape.arms,WShape.armsAll])
  (show(WTm.eq .res (.lit (.bool true))).value [] {args:=args,res:=some (.bool true),after:=args}=some (.bool (true == true))from w_eq_bool (w_res rfl) w_lit) rfl
section
variable{prog:Program}{w:World}{A:Around}{E:Value->Shared->Prop}{s:Shared}{K:Frag}
end
end Att
namespace L2
open PySem PySem.Spec PyProof.Rows
theorem pY:∀{vs:Bz}{ns:Fh},IntsAre vs ns->Vals (ns.map V.int) vs
 |_,_,.nil=>.nil
 |_,_,.cons n t h=>.cons ⟨t,rfl⟩ (pY h)
def Ml(H:Hp):Prop:=∀b,H b=none\/∃o xs,H b=some (.i6 o (.lst xs))
def Ce{P:Program}{w:World}{K:bD}{mg mb:Str->Dx}{CX:BW}{k:Nat}{fa a:Addr}{fd:FuncData}{x:Str}{sp:Sp}{s₁:Shared}{vs:Bz}{ns:Fh}
  (KX:K.In s₁.heap) (u_:s₁.heap.Ns mainGlobals mg) (hb:s₁.heap.Ns builtinsNs mb) (Ó:∀x:Str,x ≠ "__name__" -> mb x=bootBuiltins x) (V_:s₁.heap.NoLimit) (hg:s₁.gens=#[])
  (ha:s₁.heap.get? a=some {cls:=.type "list",data:=.seq vs.toArray}) (hi:IntsAre vs ns) (hl:ns.length<=sizeLine) (hr:bM k callerA)
  (F:∀base:Heap,K.In base->base.Ns mainGlobals mg->dF P w K mg base CX k fa fd [x] sp) (QG:∀(s:Shared)(u:Value),BindsTo s fd ⟨[u],[]⟩ [(x,u)])
  (O8:∀H:Hp,Ml H->cJ K H a (ns.map V.int)->sp [.ref a] H (λv _=>v=.bl true) λ_ _ _=>False)
  (Ô:∀H e s',CX [] H s₁ (λ_ _ _=>False) e s'->False) :
  codeAny (model P w) callerA (.call (.ref fa) ⟨[.ref a],[]⟩) (λr s'=>r=.ok (.ret (.bool true))/\OldK s₁.heap s'.heap/\s'.os=s₁.os/\AllBare s'.gens) s₁:=by
 have rv:=pY hi;have Wa:=hi.length;have core:∀H:Hp,Ml H->cJ K H a (ns.map V.int)->jO P w H s₁.heap->(∀b,H b≠none->b=a)->(H a≠none->K.lookup a=none) ->
   codeAny (model P w) callerA (.call (.ref fa) ⟨[.ref a],[]⟩) (λr s'=>r=.ok (.ret (.bool true))/\OldK s₁.heap s'.heap/\s'.os=s₁.os/\AllBare s'.gens) s₁:=by
  intro H hO hS bG hA hK;have xF:∀{b:Addr}{o:Obj},s₁.heap.get? b=some o->H b=none->(qG s₁.heap H).get? b=some o:=λe n=>BC e n;have Qq:∀{b:Addr}{o:Obj}{es:Array DictEntry}{ep:Nat},s₁.heap.get? b=some o->o.data=.dict es ep->H b=none:=λ{b o es ep} e d=>by
   cases q:H b with
   |none=>rfl
   |some u=>
    have e':b=a:=hA b (by rw[q];simp)
    subst e';rw[ha]at e;cases e;have d':Data.seq vs.toArray _=Data.dict es ep:=d;cases d'
  have UT:∀{b:Addr}{m:Str->Dx},s₁.heap.Ns b m->(qG s₁.heap H).Ns b m:=λ{b m} ⟨o,es,ep,e,d,r⟩=>⟨o,es,ep,xF e (Qq e d),d,r⟩;have YD:K.In (qG s₁.heap H):=λb o e=>xF (KX b o e) (by
   cases q:H b with
   |none=>rfl
   |some u=>
    have e':b=a:=hA b (by rw[q];simp)
    subst e';rw[hK (by rw[q];simp)]at e;cases e)
  have hM:Mod K mg (qG s₁.heap H):=⟨YD,UT u_,⟨mb,UT hb,Ó⟩,let⟨mc,h1,h2⟩:=V_;⟨mc,UT h1,h2⟩⟩;have e0:vN P w K mg (qG s₁.heap H) callerA [] s₁ H:=⟨rfl,hM,λb o e=>Fw e,zc (zw _ _),trivial,λb hb=>absurd (show b∈([]:D2)from hb) (by simp),bG,.of_eq hg⟩
  refine codeAny_mono ((F _ YD (UT u_)).run callerA [] s₁ H ⟨[.ref a],[]⟩ [.ref a] [.ref a] _ _ hr e0 (QG s₁ (.ref a)) (.cons rfl .nil) (O8 H hO hS)) λr s' h=>?_;cases r with
  |error e=>exact(Ô H e s' h).elim
  |ok fl=>
   cases fl with
   |next=>exact False.elim h
   |brk=>exact False.elim h
   |cont=>exact False.elim h
   |ret u=>
    obtain⟨v,H',os,bare,un,Wb,r',q⟩:=h;have q':v=.bl true:=q;subst q'
    obtain rfl:u=Value.bool true:=r'
    refine⟨rfl,OldK.of_keep λb o e=>?_,os,bare⟩;cases q:H b with
    |none=>exact un.keep b o e q (by intro z;exact absurd (show b∈([]:D2)from z) (by simp)) (by simp)
    |some u=>
     rcases hO b with z|⟨ob,xs,z⟩
     ·rw[q]at z;cases z
     ·have z2:=un.mC b ob _ z
      obtain⟨e1,_⟩:=bG b _ z;obtain⟨e2,_⟩:=Wb b _ z2;rw[e]at e1;cases e1;exact e2
 cases hk:K.lookup a with
 |some o=>
  have e:=KX a o hk;rw[ha]at e;cases e;refine core (λ_=>none) (λ_=>.inl rfl) (.inr ⟨_,vs.toArray,_,hk,rfl,rfl,rfl,by rw[cQ,Wa];exact hl,by simpa using rv⟩) (λb u z=>by have z':(none:Option HO)=some u:=z;cases z') (λb z=>absurd rfl z) λz=>absurd rfl z
 |none=>
  refine core (λb=>if b=a then some (.i6 {cls:=.type "list",data:=.seq vs.toArray} (.lst (ns.map V.int)))else none) (λb=>?_) (.inl (.inr ⟨{cls:=.type "list",data:=.seq vs.toArray},if_pos rfl⟩)) (λb u z=>?_) (λb z=>?_) λ_=>hk
  ·by_cases hb:b=a
   ·exact .inr ⟨_,_,if_pos hb⟩
   ·exact .inl (if_neg hb)
  ·by_cases hb:b=a
   ·have z':=(if_pos hb).symm.trans z
    cases z';subst hb;exact⟨ha,by rw[b_];exact hl,vs,_,rv,ha⟩
   ·have z':=(if_neg hb).symm.trans z
    cases z'
  ·by_cases hb:b=a
   ·exact hb
   ·exact absurd (if_neg hb) z
def inClass(s:Stmt)(j:Nat):Stmt:=match s with
 |.ClassDef _ _ _ body _ _ _ _ _ _ _=>body.getD j (.Pass ⟨0,0,0,0⟩)
 |_=>.Pass ⟨0,0,0,0⟩
def j0(s:Stmt):Arguments:=match s with
 |.FunctionDef _ a _ _ _ _ _ _ _ _=>a
 |_=>{posonlyargs:=[],args:=[],vararg:=none,kwonlyargs:=[],kw_defaults:=[],kwarg:=none,defaults:=[]}
def cK(s:Stmt):Fs:=match s with
 |.FunctionDef _ _ b _ _ _ _ _ _ _=>b
 |_=>[]
def aH(s:Stmt):Scope:=match s with
 |.FunctionDef _ _ _ _ _ _ sc _ _ _=>sc
 |_=>{kind:=.function,names:=[],isGenerator:=false,isCoroutine:=false}
abbrev lR:BW:=λ_ _ _ _ _ _=>False
abbrev E0:XK:=λ_ _ _=>False
def mR{X:Cx}:Passes lR X E0:=λ_ _ _ _ _ _ _ h=>h.elim
section
variable{P:Program}{w:World}{K:bD}{mg:Str->Dx}{base:Heap}
end
section
variable{X:Cx}
end
def qW{A B:Prop}(h:B):if false=true then A else B:=by
 rw[if_neg fL];exact h
def qX{A B:Prop}(h:A):if true=true then A else B:=by
 rw[if_pos rfl];exact h
def aO(H H':Hp):Prop:=∀b o,H b=some o->H' b=some o
def aO.refl(H:Hp):aO H H:=λ_ _ h=>h
def aO.trans{H H1 H2:Hp}(a:aO H H1)(b:aO H1 H2):aO H H2:=λc o h=>b c o (a c o h)
def aO.free{H H':Hp}(e:aO H H'){l:Addr}(h:H' l=JT):H l=JT:=by
 cases q:H l with
 |none=>rfl
 |some o=>
  rw[e l o q]at h;cases h
def aO.seq{K:bD}{H H':Hp}{a:Addr}{xs:List V}(e:aO H H')(h:cJ K H a xs):cJ K H' a xs:=by
 rcases h with(h|⟨o,h⟩)|h
 ·exact .inl (.inl (e _ _ h))
 ·exact .inl (.inr ⟨o,e _ _ h⟩)
 ·exact .inr h
end L2
set_option maxHeartbeats 400000
namespace L2
open PySem PySem.Spec PyProof.Rows
def zW{prog:Program}{w:World}{A:Around}{R:Result->Shared->Prop}{s:Shared}{elt target iter:Expr}{ifs:D1}{scope:Scope}{pos:Pos}{it gW:Value}{env:Env}(I:Nat->Shared->Prop)
  (turn:∀n s,I n s->wpAny (model prog w) A (pyNext it) (λr s₁=>match r with
   |none=>R (.ok .next) s₁
   |some v=>wpAny (model prog w) A (letOwnedTupleGo target it v) (λ_ s₀=>wpAny (model prog w) A (assign target env v) (λ_ s₂=>
     wpAny (model prog w) A (forIn ifs true λc r=>if r=true then do let ok <- isTrue c env (eval c env);pure (ForInStep.yield ok)else pure (ForInStep.yield r)) (λok s₃=>
      if ok=true then wpAny (model prog w) A (eval elt env) (λx s₄=>
       wpAny (model prog w) A (call (.builtin "list.append") [gW,x]) (λ_ s₅=>∃m,m<n/\I m s₅) (λ_ _=>False) s₄) (λ_ _=>False) s₃
      else ∃m,m<n/\I m s₃) (λ_ _=>False) s₂) (λ_ _=>False) s₀) (λ_ _=>False) s₁) (λ_ _=>False) s)
  (n:Nat) (h:I n s):codeAny (model prog w) A (.compLoop (.ListComp elt [⟨target,iter,ifs,0⟩] scope pos) 0 it gW env) R s:=by
 refine codeAny_loop rfl I (λn s hI=>?_) n h;show wpAny _ A ((compTurn (.ListComp elt [⟨target,iter,ifs,0⟩] scope pos) 0 it gW env).onRaise (λx=>do noteFrame x env;theTreesLotGoes x)) _ _ s
 refine wpAny_noted ?_;rw[compTurn_list];refine wpAny_bind (wpAny_standAt (wpAny_bind (wpAny_mono (turn n s hI) (λr s₁ h₁=>?_) λ_ _ h'=>h'.elim)));cases r with
 |none=>exact wpAny_pure h₁
 |some v=>
  refine wpAny_bind (wpAny_mono h₁ (λ_ s₀ h₀=>wpAny_bind (wpAny_mono h₀ (λ_ s₂ h₂=>wpAny_bind (wpAny_mono h₂ (λok s₃ h₃=>?_) λ_ _ h'=>h'.elim)) λ_ _ h'=>h'.elim)) λ_ _ h'=>h'.elim);cases ok with
  |false=>exact wpAny_pure ⟨rfl,h₃⟩
  |true=>
   exact wpAny_bind (wpAny_bind (wpAny_mono h₃ (λx s₄ h₄=>wpAny_bind (wpAny_mono h₄ (λ_ s₅ h₅=>wpAny_pure (wpAny_pure ⟨rfl,h₅⟩)) λ_ _ h'=>h'.elim)) λ_ _ h'=>h'.elim))
theorem gp(env:Env):∀(names:List (Str×NameKind))(gW:List (Str×Addr)),(∀p∈names,p.2=.free->∃c,env.cells.lookup p.1=some c)->(∀x c,gW.lookup x=some c->env.cells.lookup x=some c) ->
  ∃cl,(forIn names gW λ(p:Str×NameKind) (cs:List (Str×Addr))=>if p.2 == .free then do let c <- cellOf env p.1;pure (ForInStep.yield ((p.1,c)::cs))else pure (ForInStep.yield cs):Sem (List (Str×Addr)))=pure cl /\
   (∀x c,cl.lookup x=some c->env.cells.lookup x=some c)/\(∀x c,gW.lookup x=some c->∃c',cl.lookup x=some c')/\(∀p∈names,p.2=.free->∃c,cl.lookup p.1=some c)
 |[],gW,_,ha=>⟨gW,rfl,ha,λx c e=>⟨c,e⟩,λ_ h=>nomatch h⟩
 |(n,k)::r,gW,hn,ha=>by
  by_cases hk:k=.free
  ·subst hk
   obtain⟨c,hc⟩:=hn (n,.free) fY rfl;have UU:∀x d,((n,c)::gW).lookup x=some d->env.cells.lookup x=some d:=λx d e=>by
    rw[ju]at e;cases hx:x == n with
    |true=>rw[hx]at e;have hx:=eq_of_beq hx;subst hx;cases e;exact hc
    |false=>rw[hx]at e;exact ha x d e
   obtain⟨cl,e,h1,h2,h3⟩:=gp env r ((n,c)::gW) (λp hp=>hn p (bW _ hp)) UU;have self:∃c',cl.lookup n=some c':=h2 n c (by rw[ju];simp)
   refine⟨cl,?_,h1,λx d hx=>?_,λp hp hf=>?_⟩
   ·rw[Fq]
    show((do let c <- cellOf env n;pure (ForInStep.yield ((n,c)::gW))) >>= _)=_
    unfold cellOf;rw[hc];exact e
   ·cases hx':x == n with
    |true=>have:=eq_of_beq hx';subst this;exact self
    |false=>exact h2 x d (by rw[ju,hx'];exact hx)
   ·rcases gh.mp hp with rfl|hp
    ·exact self
    ·exact h3 p hp hf
  ·obtain⟨cl,e,h1,h2,h3⟩:=gp env r gW (λp hp=>hn p (bW _ hp)) ha
   refine⟨cl,?_,h1,h2,λp hp hf=>?_⟩
   ·rw[Fq]
    have hb:(k == NameKind.free)=false:=by simpa using hk
    show((if(k == NameKind.free)=true then _ else pure (ForInStep.yield gW)) >>= _)=_
    rw[hb];exact e
   ·rcases gh.mp hp with rfl|hp
    ·exact absurd hf hk
    ·exact h3 p hp hf
def oY{scope:Scope}{env:Env}(h:∀p∈scope.names,p.2=.free->∃c,env.cells.lookup p.1=some c) :
  ∃cl,closureFor scope env=pure cl/\(∀x c,cl.lookup x=some c->env.cells.lookup x=some c)/\∀p∈scope.names,p.2=.free->∃c,cl.lookup p.1=some c:=by
 obtain⟨cl,e,h1,_,h3⟩:=gp env scope.names [] h (λ_ _ e=>nomatch e);refine⟨cl,?_,h1,h3⟩;unfold closureFor;exact(congrArg (λz:Sem (List (Str×Addr))=>z >>= λcs=>pure cs) e)
abbrev Cx.block(X:Cx)(N:BM)(scope:Scope)(cl:List (Str×Addr))(C:Addr)(fp:D2)(s:Shared)(H:Hp):Cx where
 prog:=X.prog
 w:=X.w
 K:=X.K
 mg:=X.mg
 base:=X.base
 A:=X.A
 N:=N
 s₀:=s
 H₀:=H
 env:=compEnvC scope cl C X.env
 outer:=X.stack
 stack:=X.stack
 ex:=fp
 fn:=λ_=>false
 calm:=X.calm
 pn:=[]
 xe:=λ_ _=>False
inductive fM(X:Cx)(scope:Scope):Bi->BM->Prop where
 |nil:fM X scope [] []
 |cons {j:Nat} {x:Str} {js:Bi} {xs:BM}:X.N[j]?=some x->scope.names.lookup x=some .free->X.env.kindOf x=some .cell->fM X scope js xs->fM X scope (j::js) (x::xs)
theorem fM.get{X:Cx}{scope:Scope}:∀{js:Bi}{xs:BM},fM X scope js xs->∀{i:Nat}{x:Str},xs[i]?=some x->∃j,js[i]?=some j/\X.N[j]?=some x/\scope.names.lookup x=some .free/\X.env.kindOf x=some .cell
 |_,_,.nil,_,_,e=>by simp at e
 |_,_,.cons h1 h2 h3 _,0,_,e=>by simp at e;subst e;exact⟨_,rfl,h1,h2,h3⟩
 |_,_,.cons _ _ _ t,i+1,_,e=>by
  obtain⟨j,a,b⟩:=t.get (i:=i) (by simpa using e)
  exact⟨j,by simpa using a,b⟩
theorem fM.length{X:Cx}{scope:Scope}:∀{js:Bi}{xs:BM},fM X scope js xs->js.length=xs.length
 |_,_,.nil=>rfl
 |_,_,.cons _ _ _ t=>by simp[t.length]
def cL(k:Nat)(js:Bi)(σ:St):St:=bX k none++js.map λj=>(σ[j]?).join
theorem fB{env:Env}(hk:env.scope.kind=.function):∀{names:List (Str×NameKind)}{x:Str},names.lookup x=some .free->env.kindOf x=some .cell ->
  (names.map λ(n,k)=>if(k == NameKind.free&&env.scope.kind == .function&&env.kindOf n == some .cell)then(n,NameKind.cell)else(n,k)).lookup x=some .cell
 |[],_,h,_=>by simp at h
 |(n,k)::r,x,h,hc=>by
  have ih:=@fB env hk r x;show lJ x ((if(k == NameKind.free&&env.scope.kind == .function&&env.kindOf n == some .cell)=true then(n,NameKind.cell)else(n,k))::_)=_
  cases hx:x == n with
  |true=>
   have e:=eq_of_beq hx;subst e;simp only[ju,hx]at h;cases h;rw[if_pos (by rw[hk,hc];rfl)]
   simp[ju]
  |false=>
   simp only[ju,hx]at h;by_cases hq:(k == NameKind.free&&env.scope.kind == .function&&env.kindOf n == some .cell)=true
   ·rw[if_pos hq];simp only[ju,hx];exact ih h hc
   ·rw[if_neg hq];simp only[ju,hx];exact ih h hc
theorem fP{env:Env}:∀{names:List (Str×NameKind)}{x:Str},(∀p∈names,p.2≠.cell) ->
  ((names.map λ(n,k)=>if(k == NameKind.free&&env.scope.kind == .function&&env.kindOf n == some .cell)then(n,NameKind.cell)else(n,k)).lookup x=some .cell \/
   (names.map λ(n,k)=>if(k == NameKind.free&&env.scope.kind == .function&&env.kindOf n == some .cell)then(n,NameKind.cell)else(n,k)).lookup x=some .free)->∃p∈names,p.1=x/\p.2=.free
 |[],_,_,h=>by simp at h
 |(n,k)::r,x,hn,h=>by
  have ih:=@fP env r x (λp hp=>hn p (bW _ hp));have h:lJ x ((if(k == NameKind.free&&env.scope.kind == .function&&env.kindOf n == some .cell)=true then(n,NameKind.cell)else(n,k))::(r.map λ(n,k)=>if(k == NameKind.free&&env.scope.kind == .function&&env.kindOf n == some .cell)then(n,NameKind.cell)else(n,k)))=some .cell \/
   lJ x ((if(k == NameKind.free&&env.scope.kind == .function&&env.kindOf n == some .cell)=true then(n,NameKind.cell)else(n,k))::(r.map λ(n,k)=>if(k == NameKind.free&&env.scope.kind == .function&&env.kindOf n == some .cell)then(n,NameKind.cell)else(n,k)))=some .free:=h
  cases hx:x == n with
  |true=>
   have e:=eq_of_beq hx;subst e;refine⟨(x,k),fY,rfl,?_⟩;by_cases hq:(k == NameKind.free&&env.scope.kind == .function&&env.kindOf x == some .cell)=true
   ·cases k<;>first|rfl|(simp at hq)
   ·rw[if_neg hq]at h
    simp only[ju,beq_self_eq_true]at h;rcases h with h|h
    ·cases h;exact absurd rfl (hn (x,.cell) fY)
    ·cases h;rfl
  |false=>
   have h':lJ x (r.map λ(n,k)=>if(k == NameKind.free&&env.scope.kind == .function&&env.kindOf n == some .cell)then(n,NameKind.cell)else(n,k))=some .cell \/
    lJ x (r.map λ(n,k)=>if(k == NameKind.free&&env.scope.kind == .function&&env.kindOf n == some .cell)then(n,NameKind.cell)else(n,k))=some .free:=by
    by_cases hq:(k == NameKind.free&&env.scope.kind == .function&&env.kindOf n == some .cell)=true
    ·rw[if_pos hq]at h;simp only[ju,hx]at h;exact h
    ·rw[if_neg hq]at h;simp only[ju,hx]at h;exact h
   obtain⟨p,hp,e1,e2⟩:=ih h';exact⟨p,bW _ hp,e1,e2⟩
structure f_(X:Cx)(scope:Scope):Prop where
 kind:scope.kind=.function
 nocell:∀p∈scope.names,p.2≠.cell
 names:∀p∈scope.names,p.2=.local->scope.names.lookup p.1=some .local
 frees:∀p∈scope.names,p.2=.free->X.env.kindOf p.1=some .cell
variable{X:Cx}{tg:Expr}
section
variable{ae:dm}{σ:St}{H:Hp}{s:Shared}
def Inv.enter{ls fs:BM}{js:Bi}{scope:Scope}{cl:List (Str×Addr)}{fp:D2}{h₁:Heap}{tk:Nat}(I:Inv X ae σ H s)(S:f_ X scope)(F:fM X scope js fs)
  (AJ:∀x c,cl.lookup x=some c->X.env.cells.lookup x=some c) (YE:∀p∈scope.names,p.2=.free->∃c,cl.lookup p.1=some c)
  (hf:∀b∈fp,lP X ae H b) (Õ:∀b∈fp,b<s.heap.objs.size) (u_:h₁.Ns s.heap.objs.size (λ_=>none)) (hk:∀b o,s.heap.get? b=some o->h₁.get? b=some o) :
  Inv (X.block (ls++fs) scope cl s.heap.objs.size fp s H) [] (cL ls.length js σ) H {s with heap:=h₁,toks:=tk}:=by
 have Ö:∀x c,cl.lookup x=some c->c<s.heap.objs.size:=λx c e=>by
  obtain⟨v,q⟩:=I.cell x c (AJ x c e);exact q.lt
 refine⟨⟨I.ok.mod,?_,I.ok.glob,I.ok.blt,bV _,λx y c h1 h2=>I.ok.inj x y c (AJ x c h1) (AJ y c h2),λx hx=>?_,(λx c hx=>by cases hx),I.ok.hd,I.ok.frames,.inl rfl,λb hb=>⟨fG (Õ b hb),λx c e=>(hf b hb).2.2.2.2.1 x c (AJ x c e)⟩,
  I.bs,fK I.ok.bsz I.sz,λb o e hb=>?_,λb hb z=>?_,I.stack,I.xq⟩,rfl,I.bare,Un.kept hk,⟨_,u_,λi x v e1 e2 e3=>?_⟩,λx c e=>?_,I.bG.fresh (bV _),λx c e=>I.freeC x c (AJ x c e),λp hp=>absurd hp (by simp),I.bG.kept hk,?_⟩
 ·show(relabel scope X.env).kind=.function
  exact S.kind
 ·obtain⟨p,hp,e1,e2⟩:=fP (env:=X.env) S.nocell hx
  obtain⟨c,e⟩:=YE p hp e2;exact⟨c,by rw[<- e1];exact e⟩
 ·rcases(hf b hb).2.2.2.1 with z|z
  ·exact I.ok.noex b o e z
  ·exact absurd (gP (Heap.lt_size (I.ok.bs b o e).1) z) (lG _)
 ·rcases gh.mp (I.qH b z)with e|e
  ·exact(hf b hb).2.1 e
  ·exact(hf b hb).2.2.1 e
 ·-- a name of the block that has a value: one from around
  have hi:ls.length<=i:=by
   by_cases hi:i<ls.length
   ·unfold cL at e2
    rw[gi (by simpa using hi),A8]at e2
    split at e2<;>cases e2
   ·omega
  have Ø:fs[i-ls.length]?=some x:=by
   have q:(ls++fs)[i]?=some x:=e1;rw[e_ hi]at q;exact q
  obtain⟨j,hj,hN,YF,Wc⟩:=F.get Ø;have O_:(σ[j]?).join=some v:=by
   unfold cL at e2;rw[e_ (by simpa using hi),fZ]at e2
   simp only[vm]at e2;rw[hj]at e2;simpa using e2
  have hσ:σ[j]?=some (some v):=by
   cases q:σ[j]? with
   |none=>rw[q]at O_;cases O_
   |some z=>rw[q]at O_;have O_:z=some v:=O_;rw[O_]
  obtain⟨m,_,hl⟩:=I.loc;obtain⟨u,r,l⟩:=hl j x v hN hσ (.inr (.inl Wc));refine⟨u,r,.inr ⟨.inl (fB I.ok.kind YF Wc),?_⟩⟩;rcases l with⟨z,_⟩|⟨_,c,e,q⟩
  ·have z':X.env.kindOf x=some .local:=z
   rw[Wc]at z';cases z'
  ·obtain⟨c',e'⟩:=YE (x,.free) (PySem.mem_of_lookup YF) rfl
   have ec:=AJ x c' e';rw[e]at ec;have ec:=jX.inj ec;rw[<- ec]at e';obtain⟨o,ho,hd⟩:=q;exact⟨c,e',o,hk _ _ ho,hd⟩
 ·obtain⟨v,o,ho,hd⟩:=I.cell x c (AJ x c e)
  exact⟨v,o,hk _ _ ho,hd⟩
 ·unfold cL
  show _=(ls++fs).length;rw[dg,vm,b_,dg,F.length]
end
section
def E5(X:Cx)(ifs:D1)(t:TT):Prop:=
 ∀(ae:dm)(s:Shared)(σ:St)(H:Hp)(Q:Bool->Hp->Prop),Inv X ae σ H s->t σ H Q ->
  wpAny (model X.prog X.w) X.A (forIn ifs true λc r=>if r=true then do let ok <- isTrue c X.env (eval c X.env);pure (ForInStep.yield ok)else pure (ForInStep.yield r)) (TP X ae σ Q) X.xe s
def Wd:TT:=λ_ H Q=>Q true H
def Gp:E5 X [] Wd:=λ_ _ _ H _ I h=>wpAny_tests_nil ⟨H,I,h⟩
def Gq{c:Expr}{t:TT}(h:PT X c t):E5 X [c] t:=λae s σ H Q I hw=>wpAny_tests_one (h ae s σ H Q I hw)
def c8:St->St->Prop
 |[],[]=>True
 |none::a,_::b=>c8 a b
 |some v::a,some w::b=>v=w/\c8 a b
 |_,_=>False
theorem c8.len:∀{a b:St},c8 a b->a.length=b.length
 |[],[],_=>rfl
 |[],_::_,h=>h.elim
 |none::a,[],h=>h.elim
 |some _::a,[],h=>h.elim
 |none::a,x::b,h=>by simp[c8.len (a:=a) (b:=b) h]
 |some _::a,none::b,h=>h.elim
 |some _::a,some _::b,h=>by simp[c8.len (a:=a) (b:=b) h.2]
theorem c8.get:∀{a b:St},c8 a b->∀(i:Nat)(v:V),a[i]?=some (some v)->b[i]?=some (some v)
 |[],[],_,_,_,e=>e
 |[],_::_,h,_,_,_=>h.elim
 |none::a,[],h,_,_,_=>h.elim
 |some _::a,[],h,_,_,_=>h.elim
 |none::a,x::b,h,0,v,e=>by simp at e
 |none::a,x::b,h,i+1,v,e=>by
  have:=c8.get (a:=a) (b:=b) h i v (by simpa using e)
  simpa using this
 |some _::a,none::b,h,_,_,_=>h.elim
 |some y::a,some z::b,h,0,v,e=>by have e1:=h.1;subst e1;simpa using e
 |some y::a,some z::b,h,i+1,v,e=>by
  have:=c8.get (a:=a) (b:=b) h.2 i v (by simpa using e)
  simpa using this
@[irreducible] def tComp(wi:TI)(k:Nat)(js:Bi)(g:TG)(tt:TT)(te:TE):TE:=λσ H Q=>wi σ H λJ H1=>∀D,H1 D=none->∃W:Nat->Nat->List V->Hp->Prop,(∃m,W 0 m [] (upd H1 D (.lst []))) /\
 ∀i m ys H,W i m ys H->(J.stop i H/\Q (.ref D) H)\/(J.go i H/\∀x H',J.yld i H x H'->g x (cL k js σ) H' λσ2 H2=>c8 (cL k js σ) σ2/\tt σ2 H2 λb H3=>
  if b=true then te σ2 H3 λy H4=>H4 D=some (.lst ys)/\ys.length<sizeLine/\∃m',m'<m/\W (i+1) m' (ys++[y]) (upd H4 D (.lst (ys++[y])))
  else ∃m',m'<m/\W (i+1) m' ys H3)
def pZ{scope:Scope}{ls fs:BM}{js:Bi}{tg iter elt:Expr}{ifs:D1}{pos bU:Pos}{wi:TI}{g:TG}{tt:TT}{te:TE}{use:Option (Value->Sem Unit)}{Qo:Value->Shared->Prop}
  (hc:X.calm=true) (S:f_ X scope) (F:fM X scope js fs) (hi:PI X tg iter wi)
  (hg:∀cl C fp s H,PG (X.block (ls++fs) scope cl C fp s H) tg g) (ht:∀cl C fp s H,E5 (X.block (ls++fs) scope cl C fp s H) ifs tt) (he:∀cl C fp s H,PE (X.block (ls++fs) scope cl C fp s H) elt te)
  {ae:dm} {s:Shared} {σ:St} {H:Hp} {Q:VK} (I:Inv X ae σ H s) (h:tComp wi ls.length js g tt te σ H Q)
  (fin:∀D C s' H' m,Inv X ae σ H' s'->lP X ae H' C->s'.heap.Ns C m->Q (.ref D) H'->compPost (model X.prog X.w) X.A X.xe use Qo (.ref D) C (.ok .next) s')
  (hs:∀x,foldedSetIterable iter X.env x=pure x) :
  wpAny (model X.prog X.w) X.A (comprehension (.ListComp elt [⟨tg,iter,ifs,0⟩] scope pos) scope X.env bU (newList []) false (eval iter X.env) use) Qo X.xe s:=by
 unfold tComp at h;obtain⟨cl,Ù,h1,h2⟩:=oY (scope:=scope) (env:=X.env) (λp hp hf=>I.ok.has p.1 (.inl (S.frees p hp hf)));refine wpAny_comprehension_free rfl hs Ù S.kind S.names (bJ (hi ae s σ H _ I h) λv s1 q1=>bJ q1 λVO s2 q2=>?_);obtain⟨it,fp,tn,J,H2,e,I2,T,FJ,f2,q⟩:=q2;subst e;refine wpAny_newObj_type (wpAny_newFunctionEnv S.nocell (by intro y hy;simp at hy) (λh₁ hns₁ hsb₁=>?_) S.kind)
 have I3:Inv X ae σ (upd H2 s2.heap.objs.size (.lst [])) {s2 with heap:=s2.heap.push {cls:=.type "list",dict:=none,data:=.seq ([]:Bz).toArray}}:=I2.zT (t':=s2.toks) .nil (jb _)
 obtain⟨W,⟨m0,w0⟩,step⟩:=q s2.heap.objs.size I2.fresh;dsimp only at hns₁ hsb₁ ⊢
 generalize hs3:({s2 with heap:=s2.heap.push {cls:=.type "list",dict:=none,data:=.seq ([]:Bz).toArray}}:Shared)=s3 at I3
 have YG:s3.heap=s2.heap.push {cls:=.type "list",dict:=none,data:=.seq ([]:Bz).toArray}:=by rw[<- hs3]
 rw[<- YG]at hns₁ hsb₁ ⊢;have old:∀b o,s3.heap.get? b=some o->h₁.get? b=some o:=λb o e=>hsb₁.extBut b o (fG (Heap.lt_size e)) (Heap.get?_push_of_some _ e);have up:∀b o,s2.heap.get? b=some o->s3.heap.get? b=some o:=λb o e=>by rw[YG];exact Heap.get?_push_of_some _ e
 have Ú:∀b∈fp,b<s2.heap.objs.size:=λb hb=>by
  obtain⟨o,e,_⟩:=T.obj 0 _ FJ b hb;exact Heap.lt_size e
 have f3:∀b∈fp,lP X ae (upd H2 s2.heap.objs.size (.lst [])) b:=λb hb=>⟨by rw[aq (fG (Ú b hb))];exact(f2 b hb).1,(f2 b hb).2⟩
 have YH:∀b∈fp,b<s3.heap.objs.size:=λb hb=>by
  obtain⟨o,e,_⟩:=T.obj 0 _ FJ b hb;exact Heap.lt_size (up b o e)
 have I4:=I3.enter (ls:=ls) (h₁:=h₁) (tk:=s2.toks+([]:List (Str×Value)).length) S F h1 h2 f3 YH (by simpa using hns₁) old
 have YI:tn 0 h₁:=T.keep 0 _ _ FJ λb _ o e=>old b o (up b o e)
 generalize hC:s3.heap.objs.size=C at I4 hns₁ hsb₁ ⊢
 generalize hH3:upd H2 s2.heap.objs.size (.lst [])=H3 at I3 I4 f3 w0
 have vG:∀{H':Hp},(∀b∈fp,H' b=none)->∀b∈fp,lP (X.block (ls++fs) scope cl C fp s3 H3) [] H' b:=λhn b hb=>
  ⟨hn b hb,by rw[<- hC];exact fG (YH b hb),λz=>(gh.mp (I3.qH b z)).elim (f3 b hb).2.1 (f3 b hb).2.2.1,.inl hb,λx c e=>(f3 b hb).2.2.2.2.1 x c (h1 x c e),λp hp=>absurd hp (by simp)⟩
 have AG:∀b∈fp,(b∈X.ex\/X.s₀.heap.objs.size<=b)/\b≠X.env.locals/\(∀x c,X.env.cells.lookup x=some c->c≠b)/\∀p∈X.pn++ae,p.1≠b:=λb hb=>⟨(f3 b hb).2.2.2.1,(f3 b hb).2.1,(f3 b hb).2.2.2.2.1,(f3 b hb).2.2.2.2.2⟩;have loop:∀s4:Shared,s4={s3 with heap:=h₁,toks:=s2.toks+([]:List (Str×Value)).length} ->
   codeAny (model X.prog X.w) X.A (.compLoop (.ListComp elt [⟨tg,iter,ifs,0⟩] scope pos) 0 (.ref it) (.ref s2.heap.objs.size) (compEnvC scope cl C X.env)) (compPost (model X.prog X.w) X.A X.xe use Qo (.ref s2.heap.objs.size) C) s4:=by
  rintro s4 rfl
  refine zW (λn s'=>∃i ys H',Inv (X.block (ls++fs) scope cl C fp s3 H3) [] (cL ls.length js σ) H' s'/\tn i s'.heap/\(∀b∈fp,H' b=none)/\W i n ys H') ?_ m0 ⟨0,[],H3,I4,YI,λb hb=>(f3 b hb).1,w0⟩
  rintro n s5 ⟨i,ys,H5,I5,FN,UL,w5⟩
  rcases step i n ys H5 w5 with⟨stop,qf⟩|⟨go,nxt⟩
  ·refine bJ (T.done (X.block (ls++fs) scope cl C fp s3 H3) rfl rfl rfl hc i [] s5 _ H5 (λ_ _=>False) I5 (vG UL) FN stop) λr s6 zz=>?_
   obtain⟨hr,I6⟩:=zz;subst hr;obtain⟨m,hm,_⟩:=id I6.loc;have J6:Inv X ae σ H5 s6:=I3.PJ (ch:=fp) I6.os I6.base I6.bG I6.bare AG;exact fin _ C s6 H5 m J6 (I3.oU (zc hC) I6.free) hm qf
  ·refine bJ (T.item (X.block (ls++fs) scope cl C fp s3 H3) rfl rfl rfl hc i [] s5 _ H5 (λ_ _=>False) I5 (vG UL) FN go) λr s6 zz=>?_
   obtain⟨u,hr,h6⟩:=zz;subst hr;refine bJ h6 λ_ s7 zz=>?_;obtain⟨x,H7,I7,r7,y7,We,Û⟩:=zz;have Ü:=I7.pinned (vG Û) (T.obj _ _ We);refine bJ (hg cl C fp s3 H3 _ s7 _ H7 x u _ Ü r7 (nxt x H7 y7)) λ_ s8 zz=>?_;obtain⟨σ8,H8,I8,kp,q8⟩:=zz;have again:∀{s9:Shared}{H9:Hp},Inv (X.block (ls++fs) scope cl C fp s3 H3) ([]++mG fp s7.heap) σ8 H9 s9 ->
     Inv (X.block (ls++fs) scope cl C fp s3 H3) [] (cL ls.length js σ) H9 s9/\tn (i+1) s9.heap/\∀b∈fp,H9 b=none:=λ{s9 H9} I9=>by
    refine⟨I9.iD.weak kp.len kp.get,T.keep _ _ _ We λb hb o e=>(I9.pin (b,o) (jt _ (jt _ (gS hb e)))).1,λb hb=>?_⟩;obtain⟨o,e,d⟩:=T.obj _ _ We b hb;exact(I9.pin (b,o) (jt _ (jt _ (gS hb e)))).2.1
   refine bJ (ht cl C fp s3 H3 _ s8 σ8 H8 _ I8 q8) λb s9 zz=>?_;obtain⟨H9,I9,q9⟩:=zz;cases b with
   |false=>
    obtain⟨m',hm,w9⟩:=q9;obtain⟨a1,a2,a3⟩:=again I9;exact⟨m',hm,i+1,ys,H9,a1,a2,a3,w9⟩
   |true=>
    refine bJ (he cl C fp s3 H3 _ s9 σ8 H9 _ I9 q9) λxv Ý zz=>?_;obtain⟨y,YJ,Þ,ß,hD,hz,m',hm,Wf⟩:=zz;refine bJ (kF (X:=X.block (ls++fs) scope cl C fp s3 H3) _ Ý σ8 YJ (.ref s2.heap.objs.size) [y] (.ref s2.heap.objs.size) [xv] (λ_ YK=>YK=upd YJ s2.heap.objs.size (.lst (ys++[y]))) Þ rfl (.cons ß .nil)
     ⟨_,ys,y,rfl,rfl,hD,hz,rfl⟩) λ_ s11 ⟨z,YK,I11,_,e11⟩=>?_
    subst e11;obtain⟨a1,a2,a3⟩:=again I11;exact⟨m',hm,i+1,ys++[y],_,a1,a2,a3,Wf⟩
 have à:({newEnv scope C X.env.globals cl X.env.qual none .none (some X.env) builtinsNs with scope:=relabel scope X.env}:Env)=compEnvC scope cl C X.env:=rfl
 exact codeAny_compStart_list (loop _ (by rw[<- hs3])) (T.self X.A 0 _ _ _ YI (loop _ (by rw[<- hs3])))
variable{scope:Scope}{ls fs:BM}{js:Bi}{iter elt:Expr}{ifs:D1}{pos:Pos}{wi:TI}{g:TG}{tt:TT}{te:TE}
def Gs(ls:BM)(hc:X.calm=true)(S:f_ X scope)(F:fM X scope js fs)(hi:PI X tg iter wi)
  (hg:∀cl C fp s H,PG (X.block (ls++fs) scope cl C fp s H) tg g) (ht:∀cl C fp s H,E5 (X.block (ls++fs) scope cl C fp s H) ifs tt) (he:∀cl C fp s H,PE (X.block (ls++fs) scope cl C fp s H) elt te)
  (hs:∀x,foldedSetIterable iter X.env x=pure x:=by intro _;rfl):PE X (.ListComp elt [⟨tg,iter,ifs,0⟩] scope pos) (tComp wi ls.length js g tt te):=by
 intro ae s σ H Q I h;rw[eval_ListComp];refine pZ (use:=none) hc S F hi hg ht he I h ?_ hs;intro D C s' H' m J fC hm q;exact⟨m,hm,λh' Gu=>⟨.ref D,H',J.turned (t':=s'.toks) (it:=C) (λb o hb e=>(Gu.2 b hb).trans e) fC.1 fC.2.1 fC.2.2.2.1 fC.2.2.2.2.1 fC.2.2.2.2.2,rfl,q⟩⟩
def xG{i:Nat}{x:Str}{px zX:Pos}(ls:BM)(hc:X.calm=true)(hN:X.N.Nodup)(á:X.N[i]?=some x)(hx:Loc X.env.scope x)(S:f_ X scope)(F:fM X scope js fs)(hi:PI X tg iter wi)
  (hg:∀cl C fp s H,PG (X.block (ls++fs) scope cl C fp s H) tg g) (ht:∀cl C fp s H,E5 (X.block (ls++fs) scope cl C fp s H) ifs tt) (he:∀cl C fp s H,PE (X.block (ls++fs) scope cl C fp s H) elt te)
  (hs:∀x,foldedSetIterable iter X.env x=pure x:=by intro _;rfl) (hf:X.fn x=true\/X.env.scope.names.lookup x=some .local:=by first|exact .inl rfl|exact .inr rfl|assumption)
  (UW:swapsWith (.ListComp elt [⟨tg,iter,ifs,0⟩] scope pos) (some (.Name x px)) zX.line X.env=pure true:=by rfl) :
  PS X (.Assign [.Name x px] (.ListComp elt [⟨tg,iter,ifs,0⟩] scope pos) zX) (λD σ H=>tComp wi ls.length js g tt te σ H λv H1=>D.nx (σ.set i (some v)) H1):=by
 intro ae s σ H D I h;rw[exec_Assign_Name_used _ _ _ _ UW];refine wpAny_bind (wpAny_standAt (wpAny_bind ?_));show wpAny _ X.A (do let _ <- comprehension (.ListComp elt [⟨tg,iter,ifs,0⟩] scope pos) scope X.env _ (newList []) false (eval iter X.env) (some (assign (.Name x px) X.env))) _ _ s
 refine wpAny_bind (wpAny_mono (pZ (use:=some (assign (.Name x px) X.env)) (Qo:=λ_ s'=>SP X ae D .next s') hc S F hi hg ht he I h ?_ hs) (λ_ s' hq=>wpAny_pure (wpAny_pure hq)) λ_ _ e=>e)
 intro D' C s' H' m J fC hm q;show wpAny _ X.A (assign (.Name x px) X.env (.ref D')) _ _ _;refine wpAny_assign_Name (pL J hN á hx (show RelV (.ref D') (.ref D')from rfl) (λQp J' ⟨a,hsb,ha⟩=>?_) hf);have ne:C≠a:=by
  rcases ha with e|e
  ·rw[e];exact fC.2.1
  ·exact Ne.symm (fC.2.2.2.2.1 x a e)
 refine⟨m,hm.sameBut hsb ne,λh' Gu=>?_⟩;exact⟨_,H',J'.turned (t':=Qp.toks) (it:=C) (λb o hb e=>(Gu.2 b hb).trans e) fC.1 fC.2.1 fC.2.2.2.1 fC.2.2.2.2.1 fC.2.2.2.2.2,q⟩
end
section
def Cf{P:Program}{w:World}{K:bD}{x:Str}{px:Pos}{it:Addr}{n:Nat}{Pv:Nat->Value->Prop}{St:Nat->Heap->Prop}(val:Nat->V->Prop)
  (W:∀A:Around,A.handled=none->Walks P w A it [it] [it] n Pv St) (hv:∀i v,Pv i v->∃y,RelV y v/\val i y)
  (ho:∀i h,St i h->∃o,h.get? it=some o/\∀v,o.data≠.cell v) (hk:∀i(h h':Heap),St i h->(∀o,h.get? it=some o->h'.get? it=some o)->St i h')
  (QH:∀(A:Around)(i:Nat)(s:Shared)(Q:Value->Shared->Prop)(E:Value->Shared->Prop),St i s.heap->Q (.ref it) s->wpAny (model P w) A (pyIter (.ref it)) Q E s) :
  Turn P w K (.Name x px) ⟨λi _=>i<n,λi H y H'=>H'=H/\val i y,λi _=>i=n⟩ [it] it St where
 mem:=by simp
 obj:=λi h st b hb=>by
  have e:b=it:=by simpa using hb
  subst e;exact ho i h st
 keep:=λi h h' st k=>hk i h h' st (k it (by simp))
 item:=by
  intro X hP hw hK hc i ae s σ H E I hf st hg;subst hP hw hK;obtain⟨f0,f1,f2,f3,f4,f5⟩:=hf it (by simp)
  refine(W X.A (I.ok.hd hc)).item i s _ _ hg st λv h' tk â mF kk=>?_;obtain⟨y,ry,vy⟩:=hv i v â;have I1:Inv X ae σ H {s with heap:=h',toks:=tk}:=I.turned (λb o hb e=>kk b o (by simpa using hb) e) f0 f1 f3 f4 f5
  exact⟨v,rfl,wpAny_pure ⟨y,H,I1,ry,⟨rfl,vy⟩,mF,λb hb=>(hf b hb).1⟩⟩
 done:=by
  intro X hP hw hK hc i ae s σ H E I hf st hg;subst hP hw hK;obtain⟨f0,f1,f2,f3,f4,f5⟩:=hf it (by simp)
  have hg:i=n:=hg;rw[hg]at st;exact(W X.A (I.ok.hd hc)).done s _ _ st λh' tk kk=>⟨rfl,I.turned (λb o hb e=>kk b o (by simpa using hb) e) f0 f1 f3 f4 f5⟩
 self:=QH
def YL(z:Str):It:=⟨λi _=>i<z.cps.size,λi H y H'=>H'=H/\∃c,z.cps[i]?=some c/\y=.str ⟨#[c]⟩,λi _=>i=z.cps.size⟩
def Wg(tl:TE):TI:=λσ H R=>tl σ H λv H1=>∃z,v=.str z/\R (YL z) H1
def Mm{l:Expr}{tl:TE}{x:Str}{px:Pos}(hl:PE X l tl):PI X (.Name x px) l (Wg tl):=by
 intro ae s σ H R I h;refine bJ (hl ae s σ H _ I h) λv s1 zz=>?_;obtain⟨y,H1,I1,r1,q1⟩:=zz;obtain⟨z,rfl,q⟩:=q1;obtain⟨t,rfl⟩:=r1;have YM:∀b∈[s1.heap.objs.size],lP X ae H1 b:=λb hb=>by
  have e:b=s1.heap.objs.size:=by simpa using hb
  subst e;exact I1.oU (bV _) (I1.bG.fresh (bV _))
 have hv:∀i v,SignAt z i v->∃y,RelV y v/\∃c,z.cps[i]?=some c/\y=.str ⟨#[c]⟩:=λi v ⟨c,u,e,ev⟩=>⟨.str ⟨#[c]⟩,⟨u,ev⟩,c,e,rfl⟩;have Cg:∀(ty:String)(i:Nat)(h:Heap),h.IsStrIter s1.heap.objs.size ty z t i->∃o,h.get? s1.heap.objs.size=some o/\∀v,o.data≠.cell v:=λty i h ⟨o,e,_,d⟩=>⟨o,e,λv q=>by rw[d]at q;cases q⟩
 have kp:∀(ty:String)(i:Nat)(h h':Heap),h.IsStrIter s1.heap.objs.size ty z t i->(∀o,h.get? s1.heap.objs.size=some o->h'.get? s1.heap.objs.size=some o)->h'.IsStrIter s1.heap.objs.size ty z t i:=λty i h h' ⟨o,e,r⟩ k=>⟨o,k o e,r⟩;cases ha:z.cps.all (· < 128)
 ·refine wpAny_pyIter_wide ha ?_
  exact⟨s1.heap.objs.size,[s1.heap.objs.size],_,_,H1,rfl,I1.kept (t':=s1.toks) λb o e=>Heap.get?_push_of_some _ e,
   Cf (λi y=>∃c,z.cps[i]?=some c/\y=.str ⟨#[c]⟩) (λA hA=>Walks.strWide hA _ z t) hv (Cg _) (kp _) (λ_ _ _ _ _ st h=>wpAny_pyIter_striter_wide st h),⟨_,Heap.get?_push_size _ rfl,rfl,rfl⟩,YM,q⟩
 ·refine wpAny_pyIter_ascii ha ?_
  exact⟨s1.heap.objs.size,[s1.heap.objs.size],_,_,H1,rfl,I1.kept (t':=s1.toks) λb o e=>Heap.get?_push_of_some _ e,
   Cf (λi y=>∃c,z.cps[i]?=some c/\y=.str ⟨#[c]⟩) (λA hA=>Walks.strAscii hA _ z t) hv (Cg _) (kp _) (λ_ _ _ _ _ st h=>wpAny_pyIter_striter_ascii st h),⟨_,Heap.get?_push_size _ rfl,rfl,rfl⟩,YM,q⟩
def Wh(hi:Int)(n:Nat):It:=⟨λi _=>i<n,λi H x H'=>H'=H/\x=.int (hi-i),λi _=>n<=i⟩
def zY{P:Program}{w:World}{K:bD}(it:Addr)(hi:Int)(n:Nat):Turn P w K tg (Wh hi n) [it] it (λi h=>IsRangeIter h it (hi+(i:Nat)*(-1)) ((n:Int)-(i:Nat)) (-1)) where
 mem:=by simp
 obj:=λi h st b hb=>by
  have e:b=it:=by simpa using hb
  subst e;exact⟨_,st,λv z=>by
   have z':Data.fields _=Data.cell v:=z;cases z'⟩
 keep:=λi h h' st k=>k it (by simp) _ st
 item:=by
  intro X hP hw hK hc i ae s σ H E I hf st hg;subst hP hw hK;obtain⟨f0,f1,f2,f3,f4,f5⟩:=hf it (by simp)
  have W:=Walks.range (prog:=X.prog) (w:=X.w) (I.ok.hd hc) it hi (-1) n;refine W.item i s _ _ hg st λv h' tk hv mF kk=>?_;obtain⟨t,rfl⟩:=hv;have I1:Inv X ae σ H {s with heap:=h',toks:=tk}:=I.turned (λb o hb e=>kk b o (by simpa using hb) e) f0 f1 f3 f4 f5
  refine⟨_,rfl,pP (s:={s with heap:=h',toks:=tk}) (n := "range_iterator") mF rfl rfl (by decide) ⟨.int (hi-i),H,I1,⟨t,?_⟩,⟨rfl,rfl⟩,mF,λb hb=>(hf b hb).1⟩⟩
  have e:hi+(i:Int)*(-1)=hi-i:=by omega
  rw[e]
 done:=by
  intro X hP hw hK hc i ae s σ H E I hf st hg;subst hP hw hK;obtain⟨f0,f1,f2,f3,f4,f5⟩:=hf it (by simp)
  exact wpAny_pyNext_range_end (I.ok.hd hc) st (by have:n<=i:=hg;omega) λh' eb=>⟨rfl,I.turned (t':=s.toks) (λb o hb e=>eb b o hb e) f0 f1 f3 f4 f5⟩
 self:=λ_ _ _ _ _ st h=>wpAny_pyIter_rangeiter st h
def QI(ta:TA):TI:=λσ H R=>ta σ H λvs H1=>∃i:Int,vs=[.int i,.int (-1),.int (-1)]/\-1<=i/\i<2^30/\R (Wh i (i+1).toNat) H1
def Gv{a b c:Expr}{ta:TA}{p pos:Pos}(hg:Gl X "range")(hm:X.mg "range" = none)(ha:PA X [a,b,c] ta)(hs:starEach [a,b,c] X.env=[(false,eval a X.env),(false,eval b X.env),(false,eval c X.env)]:=by rfl)
  (u9:starEach [b,c] X.env=[(false,eval b X.env),(false,eval c X.env)]:=by rfl):PI X tg (.Call (.Name "range" p) [a,b,c] [] pos) (QI ta):=by
 intro ae s σ H R I h;refine Call_ (fk I hg hm boot_range (zo (bJ (ha pos ae s σ H _ I h) λus s1 ⟨vs,H1,I1,r1,q1⟩=>?_) (by rw[hs,u9]) (by rw[u9];rfl)))
 obtain⟨i,e,q1,q2,q⟩:=q1;subst e;cases r1 with
 |cons r rr=>
  cases rr with
  |cons r' rr=>
   cases rr with
   |cons r'' rr=>
    cases rr;obtain⟨t,rfl⟩:=r;obtain⟨t',rfl⟩:=r';obtain⟨YN,rfl⟩:=r'';refine call_range_3 (by decide) ?_ (.inl (PyProof.noPylong_small (by decide)))
    have YO:Builtin.Range.rangeSize i (-1) (-1)=i+1:=by
     unfold Builtin.Range.rangeSize;rw[if_neg (by decide)]
     split
     ·have e:-(-1:Int)=1:=rfl
      rw[e,Int.ediv_one];omega
     ·omega
    have ã:Builtin.Range.small i (-1) (-1)=true:=by
     unfold Builtin.Range.small;rw[YO];simp[Builtin.Range.rangeFitsLong];omega
    refine wpAny_pyIter_range (IsRange.new ..) ã ?_
    generalize hh:s1.heap.push {cls:=.type "range",data:=.fields #[.int i t,.int (-1) t',.int (-1) YN]}=h2
    have I2:Inv X ae σ H1 {s1 with heap:=h2}:=I1.kept (t':=s1.toks) λb o e=>by rw[<- hh];exact Heap.get?_push_of_some _ e
    refine⟨h2.objs.size,[h2.objs.size],_,_,H1,rfl,I2.kept (t':=s1.toks) λb o e=>Heap.get?_push_of_some _ e,zY _ i (i+1).toNat,?_,λb hb=>?_,q⟩
    ·have e1:i+((0:Nat):Int)*(-1)=i:=by omega
     have e2:(((i+1).toNat:Nat):Int)-((0:Nat):Int)=Builtin.Range.rangeSize i (-1) (-1):=by
      rw[YO];omega
     show IsRangeIter _ _ (i+((0:Nat):Int)*(-1)) ((((i+1).toNat:Nat):Int)-((0:Nat):Int)) (-1);rw[e1,e2];exact Heap.get?_push_size _ rfl
    ·have e:b=h2.objs.size:=by simpa using hb
     subst e;exact I2.oU (bV _) (I2.bG.fresh (bV _))
end
structure UY(J:It)(src:List V)(I:Hp->Prop):Prop where
 go:∀i H,I H->i<src.length->J.go i H
 yld:∀i H x H',I H->i<src.length->J.yld i H x H'->H'=H/\src[i]?=some x
 stop:∀i H,I H->i=src.length->J.stop i H
def Gw(z:Str):UY (YL z) (z.cps.toList.map λc=>V.str ⟨#[c]⟩) (λ_=>True):=
 ⟨λi H _ h=>by have h:i<(z.cps.toList.map λc=>V.str ⟨#[c]⟩).length:=h;rw[b_,Array.length_toList]at h;exact h,
  λi H x H' _ _ y=>by
  obtain⟨e,c,hc,ex⟩:=y;refine⟨e,?_⟩;rw[fZ,Array.getElem?_toList,hc,ex];rfl,
  λi H _ h=>by rw[b_,Array.length_toList]at h;exact h⟩
def p9(lo:Int)(n:Nat):UY (P5 lo n) ((cP n).map λk=>V.int (lo+(k:Nat))) (λ_=>True):=
 ⟨λi H _ h=>by have h:i<((cP n).map λk=>V.int (lo+(k:Nat))).length:=h;rw[b_,jU]at h;exact h,
  λi H x H' _ hi y=>by
  obtain⟨e,ex⟩:=y;refine⟨e,?_⟩;have hi:i<n:=by rw[b_,jU]at hi;exact hi
  rw[fZ,Fv hi,ex];rfl,
  λi H _ h=>by rw[b_,jU]at h;exact zc h.symm⟩
section
def YQ(K:bD)(a:Addr)(xs:List V):It:=⟨λi H=>i<xs.length/\cJ K H a xs,λi H y H'=>H'=H/\xs[xs.length-1-i]?=some y,λi _=>i=xs.length⟩
def Ci{P:Program}{w:World}{K:bD}(a it:Addr)(xs:List V):Turn P w K tg (YQ K a xs) [it] it (λi h=>h.IsRevIter it a ((xs.length:Int)-1-(i:Int))) where
 mem:=by simp
 obj:=λi h st b hb=>by
  have e:b=it:=by simpa using hb
  subst e;obtain⟨o,e,c,d⟩:=st;exact⟨o,e,λv z=>by rw[d]at z;cases z⟩
 keep:=λi h h' st k=>st.at λo e=>k it (by simp) o e
 item:=by
  intro X hP hw hK hc i ae s σ H E I hf st hg;subst hP hw hK;obtain⟨hi,hq⟩:=hg;obtain⟨aF,rv,p,hz⟩:=I.list hq;have hx:xs[xs.length-1-i]?=some (xs[xs.length-1-i]'(by omega)):=fj (by omega)
  obtain⟨u,hu,ru⟩:=rv.get hx;obtain⟨f0,f1,f2,f3,f4,f5⟩:=hf it (by simp)
  have e:(xs.length:Int)-1-(i:Int)=((xs.length-1-i:Nat):Int):=by omega
  rw[e]at st;refine wpAny_pyNext_rev_item st p.isList (x:=u) (by simpa using hu) λh' mF sb=>?_
  have I1:Inv X ae σ H {s with heap:=h'}:=I.turned (t':=s.toks) (λb o hb e=>(sb.2 b hb).trans e) f0 f1 f3 f4 f5
  have e2:((xs.length-1-i:Nat):Int)-1=(xs.length:Int)-1-((i+1:Nat):Int):=by omega
  rw[e2]at mF;obtain⟨o,eo,c,d⟩:=id mF;exact⟨u,rfl,pP (s:={s with heap:=h'}) eo c d (by decide) ⟨_,H,I1,ru,⟨rfl,hx⟩,mF,λb hb=>(hf b hb).1⟩⟩
 done:=by
  intro X hP hw hK hc i ae s σ H E I hf st hg;subst hP hw hK;obtain⟨f0,f1,f2,f3,f4,f5⟩:=hf it (by simp)
  have hg:i=xs.length:=hg;have e:(xs.length:Int)-1-(i:Int)=-1:=by omega
  rw[e]at st;exact wpAny_pyNext_rev_end (I.ok.hd hc) st λh' eb=>⟨rfl,I.turned (t':=s.toks) (λb o hb e=>eb b o hb e) f0 f1 f3 f4 f5⟩
 self:=λ_ _ _ _ _ st h=>wpAny_pyIter_revIter st h
def Wi(K:bD)(ta:TA):TI:=λσ H R=>ta σ H λvs H1=>∃a xs,vs=[.ref a]/\cJ K H1 a xs/\R (YQ K a xs) H1
def Mn{a:Expr}{ta:TA}{p pos:Pos}(hg:Gl X "reversed")(hm:X.mg "reversed" = none)(ha:PA X [a] ta)(hs:starEach [a] X.env=[(false,eval a X.env)]:=by rfl):PI X tg (.Call (.Name "reversed" p) [a] [] pos) (Wi X.K ta):=by
 intro ae s σ H R I h;refine Call_ (fk I hg hm JY (zo (bJ (ha pos ae s σ H _ I h) λus s1 ⟨vs,H1,I1,r1,q1⟩=>?_) hs rfl));obtain⟨l,xs,e,hq,q⟩:=q1;subst e;cases r1 with
 |cons r rr=>
  cases rr;cases r;obtain⟨aF,rv,pl,hz⟩:=I1.list hq;have dD:=rv.length;refine call_reversed_list pl.isList (wpAny_pyIter_revIter ⟨_,Heap.get?_push_size _ rfl,rfl,rfl⟩ ?_);refine⟨s1.heap.objs.size,[s1.heap.objs.size],_,_,H1,rfl,I1.kept (t':=s1.toks) λb o e=>Heap.get?_push_of_some _ e,Ci l _ xs,?_,λb hb=>?_,q⟩
  ·refine⟨_,Heap.get?_push_size _ rfl,rfl,?_⟩
   have e:((aF.toArray.size:Nat):Int)-1=(xs.length:Int)-1-((0:Nat):Int):=by rw[cQ,<- dD];omega
   rw[<- e];rfl
  ·have e:b=s1.heap.objs.size:=by simpa using hb
   subst e;exact I1.oU (bV _) (I1.bG.fresh (bV _))
end
section
def oZ:zR X "str.startswith" (λx vs H Q=>∃a b,x=.str a/\vs=[.str b]/\Q (.bl (Txt.startswith a b)) H):=by
 intro ae s σ H x vs v us Q I rx rv h;obtain⟨a,b,rfl,rfl,q⟩:=h;obtain⟨t,rfl⟩:=rx;obtain⟨u,rfl,⟨t',rfl⟩⟩:=rv.one;exact SC.startswith ⟨.bl _,H,I,rfl,q⟩
def sW:zR X "str.endswith" (λx vs H Q=>∃a b,x=.str a/\vs=[.str b]/\Q (.bl (Txt.endswith a b)) H):=by
 intro ae s σ H x vs v us Q I rx rv h;obtain⟨a,b,rfl,rfl,q⟩:=h;obtain⟨t,rfl⟩:=rx;obtain⟨u,rfl,⟨t',rfl⟩⟩:=rv.one;exact SC.endswith ⟨.bl _,H,I,rfl,q⟩
def Cj:zR X "str.find" (λx vs H Q=>∃a b i,x=.str a/\vs=[.str b,.int i]/\Q (.int (Txt.find3 a b i)) H):=by
 intro ae s σ H x vs v us Q I rx rv h;obtain⟨a,b,i,rfl,rfl,q⟩:=h;obtain⟨t,rfl⟩:=rx;obtain⟨u,u',rfl,⟨t',rfl⟩,⟨YN,rfl⟩⟩:=rv.two;exact SC.find3 ⟨.int _,H,I.tok _,⟨_,rfl⟩,q⟩
theorem mS:∀{ys:BM}{us:Bz},Vals (ys.map V.str) us->StrsAre us ys
 |[],_,.nil=>.nil
 |y::ys,_,.cons ⟨t,e⟩ r=>by
  subst e;exact .cons y t (mS (ys:=ys) r)
def Gx:zR X "str.join" (λx vs H Q=>∃sep l ys,x=.str sep/\vs=[.ref l]/\cJ X.K H l (ys.map V.str)/\(ys.map (·.length)).sum+ys.length*sep.length<=16777216/\Q (.str (Str.join sep ys)) H):=by
 intro ae s σ H x vs v us Q I rx rv h;obtain⟨sep,l,ys,rfl,rfl,hl,hz,q⟩:=h;obtain⟨t,rfl⟩:=rx;obtain⟨u,rfl,ru⟩:=rv.one;cases ru;obtain⟨aF,r,p,_⟩:=I.list hl;refine join_list p.isList (ys:=ys) (by simpa using mS r) hz λt' k=>?_
 have e:Txt.join sep ys=Str.join sep ys:=StrLaws.glued_eq_join sep ys;rw[e];exact⟨.str _,H,I.tok _,⟨_,rfl⟩,q⟩
def Mp:Kd X (λx lo hi H Q=>∃z,x=.str z/\z.length<=sizeLine/\Q (.str (Txt.slice z lo hi)) H):=by
 intro ae s σ H x v vl vu lo hi sl Q I rx hs pl pu h;obtain⟨z,rfl,hz,q⟩:=h;obtain⟨t,rfl⟩:=rx;refine⟨"str",_,F.slot_str_getitem.lookup,typeIs_str _ _ _,?_⟩;obtain⟨o,ho,hc,hd⟩:=hs;cases pl with
 |none=>
  cases pu with
  |none=>exact wpAny_getItem_str_slice (l:=none) (u:=none) (st:=none) ⟨o,ho,hc,hd⟩ rfl (post_val_or_str ⟨fK (Txt.slice_le z _ _) hz,λt' k=>⟨.str _,H,I.tok _,⟨_,rfl⟩,q⟩⟩)
  |int j tj=>exact wpAny_getItem_str_slice (l:=none) (u:=some (j,tj)) (st:=none) ⟨o,ho,hc,hd⟩ rfl (post_val_or_str ⟨fK (Txt.slice_le z _ _) hz,λt' k=>⟨.str _,H,I.tok _,⟨_,rfl⟩,q⟩⟩)
 |int i ti=>
  cases pu with
  |none=>exact wpAny_getItem_str_slice (l:=some (i,ti)) (u:=none) (st:=none) ⟨o,ho,hc,hd⟩ rfl (post_val_or_str ⟨fK (Txt.slice_le z _ _) hz,λt' k=>⟨.str _,H,I.tok _,⟨_,rfl⟩,q⟩⟩)
  |int j tj=>exact wpAny_getItem_str_slice (l:=some (i,ti)) (u:=some (j,tj)) (st:=none) ⟨o,ho,hc,hd⟩ rfl (post_val_or_str ⟨fK (Txt.slice_le z _ _) hz,λt' k=>⟨.str _,H,I.tok _,⟨_,rfl⟩,q⟩⟩)
def sX:gk X (compareOp .IsNot) (λx y H Q=>∃a b,x=.bl a/\y=.bl b/\Q (.bl (a != b)) H):=by
 intro ae s σ H x y v u Q I rx ry h;obtain⟨a,b,rfl,rfl,q⟩:=h;cases rx;cases ry;exact isnot_bool (iE I q rfl)
def kZ:eV X (.builtin "isinstance") (λxs H Q=>∃x T t b,xs=[x,.ty T]/\jd X.K H x t/\sE X.K t (.type T)=some b/\Q (.bl b) H):=by
 intro ae s σ H xs us Q I r h;obtain⟨x,T,t,b,rfl,ty,e,q⟩:=h;obtain⟨u,u',rfl,ru,Wj⟩:=vals2 r;cases Wj;exact pR I ru ty e λtk=>⟨.bl b,H,I.tok _,rfl,q⟩
def mT{ks:FC}{aF:Bz}(r:Vals (ks.map V.bl) aF)(A:Around):TruthOf X.prog X.w A (λi v=>aF.toArray[i]?=some v) (λi=>ks.getD i true):=by
 intro i v s Q E hv hQ;have hv:aF[i]?=some v:=by simpa using hv
 have hi:i<ks.length:=by
  have h1:=(c_.mp hv).1;have h2:=r.length;rw[b_]at h2;omega
 obtain⟨u,e,ru⟩:=r.get (i:=i) (x:=.bl ks[i]) (by rw[fZ,fj hi];rfl)
 rw[hv]at e;cases e;cases ru;have g:ks.getD i true=ks[i]:=by rw[ze,fj hi];rfl
 have hQ:Q (ks.getD i true) s:=hQ;rw[g]at hQ;exact wpAny_truthy_bool hQ
def range_all(ks:FC):(cP ks.length).all (λi=>ks.getD i true)=ks.all id:=by
 induction ks with
 |nil=>rfl
 |cons k ks ih=>
  rw[eT,wZ,eU,Jt,eU,<- ih];rfl
def range_any(ks:FC):(cP ks.length).any (λi=>ks.getD i true)=ks.any id:=by
 induction ks with
 |nil=>rfl
 |cons k ks ih=>
  rw[eT,wZ,qE,Ju,qE,<- ih];rfl
def Cm(hc:X.calm=true):eV X (.builtin "all") (λxs H Q=>∃(p:Addr)(ks:FC),xs=[.ref p]/\cJ X.K H p (ks.map V.bl)/\Q (.bl (ks.all id)) H):=by
 intro ae s σ H xs us Q I r h;obtain⟨p,ks,rfl,hp,q⟩:=h;obtain⟨u,rfl,ru⟩:=vals1 r;cases ru;obtain⟨aF,rv,pl,hz⟩:=I.list hp;have dD:=rv.length;rw[b_]at dD;refine call_all_walk (wpAny_pyIter_list pl.isList ?_);have kG:p≠s.heap.objs.size:=let⟨_,e,_⟩:=pl.isList;fG (Heap.lt_size e);refine⟨s.heap.objs.size,_,[s.heap.objs.size],aF.toArray.size,_,_,λi=>ks.getD i true,rfl,Walks.list (show X.A.in1.handled=none from I.ok.hd hc) s.heap.objs.size p kG aF.toArray,⟨⟨_,Heap.get?_push_size _ rfl,rfl,rfl⟩,Heap.IsList.push pl.isList _⟩,mT rv _,λh' tk kk=>?_⟩;rw[cQ,<- dD,range_all];refine⟨.bl _,H,?_,rfl,q⟩;refine I.kept λb o e=>kk b o (λz=>?_) (Heap.get?_push_of_some _ e);have hb:b=s.heap.objs.size:=by simpa using z
 rw[hb]at e;exact lG _ (Heap.lt_size e)
def Cn(hc:X.calm=true):eV X (.builtin "any") (λxs H Q=>∃(p:Addr)(ks:FC),xs=[.ref p]/\cJ X.K H p (ks.map V.bl)/\Q (.bl (ks.any id)) H):=by
 intro ae s σ H xs us Q I r h;obtain⟨p,ks,rfl,hp,q⟩:=h;obtain⟨u,rfl,ru⟩:=vals1 r;cases ru;obtain⟨aF,rv,pl,hz⟩:=I.list hp;have dD:=rv.length;rw[b_]at dD;refine call_any_walk (wpAny_pyIter_list pl.isList ?_);have kG:p≠s.heap.objs.size:=let⟨_,e,_⟩:=pl.isList;fG (Heap.lt_size e);refine⟨s.heap.objs.size,_,[s.heap.objs.size],aF.toArray.size,_,_,λi=>ks.getD i true,rfl,Walks.list (show X.A.in1.handled=none from I.ok.hd hc) s.heap.objs.size p kG aF.toArray,⟨⟨_,Heap.get?_push_size _ rfl,rfl,rfl⟩,Heap.IsList.push pl.isList _⟩,mT rv _,λh' tk kk=>?_⟩;rw[cQ,<- dD,range_any];refine⟨.bl _,H,?_,rfl,q⟩;refine I.kept λb o e=>kk b o (λz=>?_) (Heap.get?_push_of_some _ e);have hb:b=s.heap.objs.size:=by simpa using z
 rw[hb]at e;exact lG _ (Heap.lt_size e)
theorem k6:∀{xs:List V}{us:Bz},xs.length=us.length->(∀(i:Nat)x u,xs[i]?=some x->us[i]?=some u->RelV x u)->Vals xs us
 |[],[],_,_=>.nil
 |[],_::_,h,_=>by simp at h
 |_::_,[],h,_=>by simp at h
 |x::xs,u::us,h,k=>.cons (k 0 x u rfl rfl) (k6 (by simpa using h) λi y w h1 h2=>k (i+1) y w (by simpa using h1) (by simpa using h2))
def zZ:eV X (.type "range") (λxs H Q=>∃j,xs=[.int j]/\∀p,H p=none->Q (.ref p) (upd H p (.i0 0 j))):=by
 intro ae s σ H xs us Q I r h;obtain⟨j,rfl,q⟩:=h;obtain⟨u,rfl,⟨t,rfl⟩⟩:=vals1 r;refine call_range_1 ⟨.ref s.heap.objs.size,_,I.laid (o:=.i0 0 j) (λb o e=>Heap.get?_push_of_some _ e) (bV _) ⟨_,_,_,Heap.get?_push_size _ rfl⟩,rfl,q _ I.fresh⟩
def o8(hc:X.calm=true):eV X (.type "list") (λxs H Q=>∃p hi,xs=[.ref p]/\H p=some (.i0 0 hi)/\0<=hi/\hi<=2^20/\∀l,H l=none->Q (.ref l) (upd H l (.lst ((cP hi.toNat).map λk=>V.int (k:Nat))))):=by
 intro ae s σ H xs us Q I r h;obtain⟨p,hi,rfl,hp,h0,h1,q⟩:=h;obtain⟨u,rfl,ru⟩:=vals1 r;cases ru;obtain⟨t,u,v,e⟩:=I.bG p _ hp;refine call_list_range (I.ok.hd hc) (a:=0) (b:=hi) (c:=1) (n:=hi.toNat) e (small_one (by omega) (by omega) (by omega) (by omega)) (by rw[rangeSize_one];split<;>omega) (by omega) λh' tk gW c' hk hl hit=>?_
 obtain⟨hsz,hit⟩:=hit;refine⟨.ref s.heap.objs.size,_,I.laid (o:=.lst ((cP hi.toNat).map λk=>V.int (k:Nat))) (λb o e=>hk b o e) (bV _) ⟨?_,gW.toList,c',?_,by simpa using hl⟩,rfl,q _ I.fresh⟩
 ·rw[b_,jU,sizeLine_eq];omega
 ·refine k6 (by rw[b_,jU,Array.length_toList,hsz]) λi x u hx hu=>?_
  have Wk:i<hi.toNat:=by
   have:=(c_.mp hx).1
   rw[b_,jU]at this;exact this
  rw[fZ,Fv Wk]at hx;cases hx;obtain⟨t,rfl⟩:=hit i u (by simpa using hu)
  exact⟨t,by congr 1;omega⟩
end
end L2
namespace K46
open PySem L2
noncomputable abbrev top(i:Nat):Stmt:=PySem.Challenge.pw_rowblade_k46_blades_side_by_side.main.body.getD i (.Pass ⟨0,0,0,0⟩)
end K46
noncomputable section
namespace KH
open PySem PySem.W PySem.Calls PyProof.Rows L2 K46
abbrev pw:Program:=PySem.Challenge.pw_rowblade_k46_blades_side_by_side
noncomputable abbrev r(a:Nat):Value:=.ref a
noncomputable abbrev O(c:Value)(d:Option Addr)(x:Data)(s:List Dx):Obj:=⟨c,d,x,⟨s⟩⟩
abbrev W:=Params->Obj
abbrev Z:=Str×Nat×Value
noncomputable abbrev D(P:Params)(e:Z):DictEntry:=⟨PyData.keyHash P e.1,.str e.1 e.2.1,e.2.2⟩
abbrev fN(n q:Str)(s:Stmt)(g:Addr)(cl:List (Str×Addr))(dv kv doc pm:Value)(an:Option Addr)(cd ct:Value)(b:Addr):FuncData:=⟨n,q,j0 s,.stmts (cK s),aH s,g,cl,dv,kv,doc,pm,an,cd,ct,b⟩
abbrev C(n q:Str)(t u L a b c g:Nat)(x:Addr)(B:Bool)(y:Addr)(k l m o:Value):W:=λ_=>O (.type "code") none (.fields ⟨[.str n t,.str q (t+1),.str "/claim/cut.py" (t+2),.int (lN L) 0,.int (lN a) 0,.int (lN b) 0,.int (lN c) 0,.int (lN g) 0,r x,.bool B,.int (lN 181) 0,r y,k,l,m,o,.int (lN u) 0,.int (lN L) 0,.str "/claim/cut.py" (u+1)]⟩) []
abbrev cf(n q:Str)(t u L a x:Nat):W:=C n q t u L a 0 0 3 x true (x+1) .none (r (x+2)) (r (x+3)) (r (x+4))
abbrev cg(n:Str)(t u L a x:Nat):W:=cf n n t u L a x
abbrev cc(n:Str)(t L x:Nat):W:=C n n t (t+3) L 0 0 0 0 x false (x+1) .none .none .none .none
abbrev lt(b:Nat)(l:List (Nat×Nat)):W:=λ_=>O .none none (.fields ⟨(l.map λp=>[.int (lN p.1) 0,.int (lN b) 0,r p.2]).flatten⟩) []
abbrev fO(n q:Str)(s:Stmt)(m:Value)(c:Nat):W:=λ_=>O (.type "function") none (.func (fN n q s 3 [] .none .none .none m none (r c) .none 0)) []
abbrev fn(n q:Str)(s:Stmt):W:=λ_=>O .none none (.func (fN n q s 0 [] .none .none .none .none none .none .none 0)) []
def sS:Nat->BM->Bz
 |_,[]=>[]
 |k,x::l=>.str x k::sS (k+1) l
abbrev tS(k:Nat)(l:BM):W:=λ_=>O (.type "tuple") none (.seq ⟨sS k l⟩ 0) []
abbrev tV(l:Bz):W:=λ_=>O (.type "tuple") none (.seq ⟨l⟩ 0) []
abbrev di(n:Nat)(l:List Z):W:=λP=>O (.type "dict") none (.dict ⟨l.map (D P)⟩ n) []
abbrev c1(m:Value)(b:Nat)(q:Str)(L:Nat)(xs:List Z)(st sr n:Nat):W:=di n (("__module__",b,m)::("__qualname__",b+2,.str q (b+1))::("__firstlineno__",b+4,.int (lN L) (b+3))::(xs.append [("__static_attributes__",st,r sr)]))
abbrev c2(m:Value)(b L:Nat)(xs:List Z)(st sr:Nat)(ys:List Z)(dt n:Nat):W:=di n (("__module__",b,m)::("__firstlineno__",b+4,.int (lN L) (b+3))::(xs.append (("__static_attributes__",st,r sr)::(ys.append [("__doc__",dt,.none)]))))
abbrev cG(n:Str)(bs mr:Bz)(d:Nat)(su:Bz)(h:Dx)(t:Nat)(nw:String):W:=λ_=>O (.type "type") none (.cls ⟨n,bs,mr,d,n,true,[],su,false,none,false⟩) [h,none,some (.str n t),some (.str n (t+8)),some (.builtin nw),some (.bool true)]
abbrev ob:Value:=.type "object"
abbrev cB(n:Str)(d b:Nat)(su:Bz)(h t:Nat):W:=cG n [r b] [r (d+1),r b,ob] d su (some (r h)) t "object.__new__"
abbrev c0(n:Str)(d:Nat)(su:Bz)(t:Nat):W:=cG n [ob] [r (d+1),ob] d su none t "object.__new__"
abbrev fr(c l:Nat)(m:Value):W:=λ_=>O (.type "frame") none .plain [some (r c),some (r 3),some (r l),none,some m,none,some (r 0)]
abbrev is(c:Nat):W:=λ_=>O (.type "builtin_function_or_method") none (.fields ⟨[.builtin "object.__init_subclass__",r c]⟩) []
abbrev su(c:Nat):W:=λ_=>O (.type "super") none (.fields ⟨[r c,r c,r c]⟩) []
noncomputable abbrev gd(t c:Nat):W:=λ_=>O (.type "getset_descriptor") none (.fields ⟨[.str "__dict__" t,r c,.builtin "function.__dict__",.builtin "function.__dict__#set"]⟩) []
abbrev gw(t c:Nat):W:=λ_=>O (.type "getset_descriptor") none (.fields ⟨[.str "__weakref__" t,r c,.builtin "ExceptionGroup.__weakref__",.none]⟩) []
noncomputable abbrev N(o:Params->Obj)(l r:Params->BT):Params->BT:=λP=>.node (o P) (l P) (r P)
noncomputable abbrev E:Params->BT:=λ_=>.nil
abbrev L(o:Params->Obj):Params->BT:=N o E E
abbrev m0:Value:=.str "__main__" 164
abbrev m1:Value:=.str "rowblade.errors" 194
abbrev m2:Value:=.str "rowblade.lines" 348
abbrev m3:Value:=.str "rowblade.signs" 899
abbrev m4:Value:=.str "rowblade.patterns" 922
abbrev m5:Value:=.str "rowblade.stretches" 1050
abbrev m6:Value:=.str "rowblade.truths" 1108
abbrev m7:Value:=.str "rowblade.pieces" 1223
abbrev m8:Value:=.str "rowblade.walker" 1273
abbrev m9:Value:=.str "rowblade.blade" 1497
abbrev mh:Value:=.str "rowblade.linereading" 1608
abbrev ä:Value:=.str "rowblade.rows" 1826
abbrev UZ:Value:=.str "rowblade.reading" 1836
abbrev z3:Value:=.str "law_rowblade_k46_blades_side_by_side" 1879
abbrev d0:List Z:=[("__doc__",166,.none),("__package__",167,.none),("__loader__",168,(.builtin "__main__.__loader__#opaque")),("__spec__",169,.none),("__annotations__",170,(r 6)),("__builtins__",171,(r 4)),("__file__",173,(.str "/claim/cut.py" 172)),("__cached__",174,.none),("_wall",193,(r 21)),("BladeError",213,(r 31)),("NoPattern",229,(r 44)),("Finished",245,(r 56)),("NoLine",270,(r 75)),("TwoMarks",295,(r 94))]
noncomputable abbrev l0:List (Nat×Nat):=[(1,20),(5,27),(7,40),(9,52),(11,64),(15,83)]
abbrev d1:=d0.append [("NoMark",320,(r 113)),("Endless",347,(r 132)),("Program",378,(r 151)),("Line",409,(r 172)),("Cond",429,(r 186))]
abbrev l1:=l0++[(19,102),(23,121),(29,140),(33,161),(38,182)]
abbrev d2:=d1.append [("Always",445,(r 200)),("RowIs",470,(r 219)),("Last",486,(r 231)),("Like",511,(r 250)),("Soon",538,(r 269))]
abbrev l2:=l1++[(40,196),(42,208),(46,227),(48,239),(52,258)]
abbrev d3:=d2.append [("FromTo",565,(r 288)),("Not",590,(r 307)),("End",606,(r 319)),("Deed",626,(r 331)),("Mark",651,(r 352))]
abbrev l3:=l2++[(57,277),(62,296),(66,315),(68,327),(70,341)]
abbrev d4:=d3.append [("Drop",667,(r 364)),("Print",683,(r 376)),("Done",699,(r 388)),("Say",724,(r 407)),("Swap",753,(r 426))]
abbrev l4:=l3++[(74,360),(76,372),(78,384),(80,396),(84,415)]
abbrev d5:=d4.append [("Join",778,(r 445)),("Pile",805,(r 464)),("Bring",830,(r 483)),("Go",855,(r 502))]
abbrev l5:=l4++[(90,434),(94,453),(99,472),(103,491)]
abbrev d6:=(d5.append [("Add",882,(r 521)),("Tell",898,(r 533)),("SIGNS",902,(.str "abcdefghijklmnopqrstuvwxyzABCDEFGHIJKLMNOPQRSTUVWXYZ0123456789 !\"#$&'()*+,-./:;<=>?\x40[\\]^_`{|}~" 901)),("SMALL_LETTERS",904,(.str "abcdefghijklmnopqrstuvwxyz" 903)),("FIGURES",906,(.str "0123456789" 905)),("made_of",912,(r 540)),("beginning_of",921,(r 547)),("MOST_ITEMS",925,(.int (8) 924)),("MOST_SIGNS",927,(.int (12) 926)),("NEVER_PLAIN",929,(.str "^$.[]*+?/" 928)),("NEVER_IN_A_SET",931,(.str "]^/" 930)),("ONCE",933,(.str "1" 932)),("HOW_MANY",935,(.str "*+?" 934)),("may_stand_plain",942,(r 554)),("pattern",953,(r 561)),("items_of",964,(r 568)),("place_behind_core",973,(r 575)),("many_at",981,(r 582)),("item_of",989,(r 589)),("set_item",995,(r 594)),("is_written_plain",1003,(r 601)),("written",1014,(r 608)),("written_core",1022,(r 615)),("may_be_empty",1029,(r 622)),("least_length",1035,(r 627))]).append [("may_be_left_out",1042,(r 634)),("may_come_again",1049,(r 641)),("NOWHERE",1054,(.int (-1) 1053)),("stretch",1066,(r 649)),("found",1074,(r 656)),("greatest_ends",1084,(r 663)),("ends_behind_items",1092,(r 670))]
abbrev l6:=l5++[(107,510),(112,529),(118,539),(120,546),(132,553),(134,560),(146,567),(155,574),(162,581),(166,588),(174,593),(186,600),(188,607),(195,614),(203,621),(205,626),(207,633),(209,640),(213,648),(219,655),(221,662),(226,669)]
abbrev d7:=d6.append [("ends_with_item",1107,(r 677)),("TextRow",1150,(r 701)),("Truths",1206,(r 739)),("holds",1214,(r 750)),("is_row_up_to",1222,(r 757)),("MOST_FIGURES_pieces",1226,(.int (60) 1225)),("first_swapped",1236,(r 764)),("every_swapped",1249,(r 771)),("words_of",1255,(r 776)),("word_of",1264,(r 783)),("number_of",1272,(r 790))]
abbrev l7:=l6++[(230,676),(244,683),(256,711),(287,749),(293,756),(297,763),(302,770),(315,775),(317,782),(322,789)]
abbrev d8:=d7.append [("Walker",1480,(r 945)),("given_in",1486,(r 954)),("numbers_of_marks",1496,(r 961)),("ahead",1504,(r 966)),("rows_seen_by",1511,(r 973))]
abbrev l8:=l7++[(328,796),(482,953),(484,960),(491,965),(493,972)]
abbrev d9:=d8.append [("Blade",1607,(r 1046)),("COND_BEGINNINGS",1617,(r 1051)),("MOST_ROW",1619,(.int (999) 1618)),("MOST_FIGURES_linereading",1621,(.int (3) 1620)),("MOST_SOON",1623,(.int (3) 1622)),("LEAST_JOIN",1625,(.int (2) 1624)),("MOST_SMALL",1627,(.int (9) 1626)),("MOST_LETTERS",1629,(.int (8) 1628)),("MOST_TEXT",1631,(.int (40) 1630)),("Scan",1704,(r 1103)),("line_of",1714,(r 1114)),("line_next",1720,(r 1119)),("cond_next",1727,(r 1126)),("plain_cond_next",1736,(r 1133)),("row_or_pattern_next",1743,(r 1140)),("deed_next",1750,(r 1147)),("swap_next",1759,(r 1154)),("pile_next",1767,(r 1161))]
abbrev l9:=l8++[(501,979),(559,1057),(591,1113),(597,1118),(605,1125),(611,1132),(623,1139),(627,1146),(652,1153),(656,1160)]
abbrev å:=(d9.append [("add_next",1775,(r 1168)),("number_next",1786,(r 1175)),("name_next",1794,(r 1182)),("words_next",1802,(r 1189)),("pattern_next",1810,(r 1196)),("may_stand",1818,(r 1203)),("may_swap",1825,(r 1210)),("cut",1835,(r 1217)),("MOST_LINES",1839,(.int (24) 1838)),("read",1848,(r 1224)),("lines_of",1858,(r 1231)),("marks_of",1868,(r 1238)),("refuse_go_without_mark",1878,(r 1245)),("_law_cell_at",1888,(r 1252)),("_law_whole",1895,(r 1259)),("_law_signs",1903,(r 1266)),("_law_sign",1913,(r 1273)),("_law_text",1919,(r 1278)),("_law_of_parts",1931,(r 1285)),("_law_new",1937,(r 1292)),("_law_step",1950,(r 1299)),("_law_due",1962,(r 1306)),("_law_kept",1971,(r 1313)),("_law_fed",1983,(r 1320)),("_law_finished",1995,(r 1327))]).append [("law",2001,(r 1332))]
abbrev æ:=l9++[(661,1167),(665,1174),(673,1181),(678,1188),(683,1195),(689,1202),(695,1209),(700,1216),(707,1223),(712,1230),(719,1237),(727,1244),(732,1251),(736,1258),(738,1265),(741,1272),(749,1277),(758,1284),(768,1291),(770,1298),(788,1305),(797,1312),(800,1319),(809,1326),(815,1331)]
abbrev cy:=tV []
abbrev j1:W:=λP=>O .none none (.fields ⟨[]⟩) []
abbrev iz:W:=λP=>O (.type "builtin_function_or_method") none (.fields ⟨[(.builtin "type.__prepare__"),(.type "type")]⟩) []
abbrev Pa:=tV [(r 31)]
abbrev sY:=tV [(r 186)]
abbrev lT:=tV [(r 331)]
abbrev Wl:W:=λP=>O (.type "function") none (.func (fN "stretch" "stretch" (top 63) 3 [] (r 642) .none .none (.str "rowblade.stretches" 1050) none (r 648) .none 0)) []
def od:List W->List W
 |[]=>[]
 |x::r=>x::(match r with
  |[]=>[]
  |_::r=>od r)
def br:Nat->List W->Params->BT
 |0,_,_=>.nil
 |n+1,l,P=>(match l with
  |[]=>.nil
  |x::r=>.node (x P) (br n (od r) P) (br n (od r.tail) P))
def ov:List W->Nat->Nat->List (Nat×W)->List W
 |[],_,_,_=>[]
 |x::l,i,n,q=>(match n.beq i with
  |true=>[]
  |false=>(match q with
   |[]=>x::ov l (i+1) n []
   |y::r=>(match y.1.beq i with
    |true=>y.2::ov l (i+1) n r
    |false=>x::ov l (i+1) n q)))
abbrev YR:List Z:=[("__init__",1130,(r 691)),("has",1139,(r 698))]
abbrev YS:List Z:=[("__init__",1168,(r 717)),("told_of",1180,(r 724)),("truth",1186,(r 729)),("truth_of_stretch",1196,(r 736))]
abbrev YT:List Z:=[("__init__",1294,(r 804)),("want",1301,(r 811)),("take",1310,(r 818)),("take_with",1319,(r 825)),("go_on",1326,(r 832)),("meet",1336,(r 839)),("hand_over",1344,(r 846)),("finish",1352,(r 853)),("find_none",1359,(r 860)),("give",1367,(r 867)),("end_turn",1374,(r 874)),("give_hand_and_end",1381,(r 881)),("do",1390,(r 888)),("do_giving",1398,(r 895)),("do_swap",1406,(r 902)),("do_join",1414,(r 909)),("do_pile",1423,(r 916)),("do_bring",1432,(r 923)),("rows_on_shelves",1438,(r 928)),("do_add",1450,(r 935)),("do_tell",1458,(r 942))]
abbrev YU:List Z:=[("__init__",1531,(r 987)),("feed",1541,(r 994)),("finish",1548,(r 1001)),("refuse_once_finished",1555,(r 1008)),("come",1563,(r 1015)),("take_all_but",1572,(r 1022)),("boxes",1579,(r 1029)),("faults",1586,(r 1036)),("kept",1593,(r 1043))]
abbrev YV:List Z:=[("__init__",1652,(r 1065)),("refuse",1659,(r 1072)),("passes",1667,(r 1079)),("must_pass",1675,(r 1086)),("while_made_of",1684,(r 1093)),("between",1694,(r 1100))]
abbrev eK(s1:Str)(n3 n4 n5 n6 n7:Nat)(l0:BM)(m2:Value):List W:=[cy,j1,tS (n7+3) l0,cy,fn s1 s1 (top n4),cg s1 n7 (n7+l0.length+3) n5 n3 n6,fO s1 s1 (top n4) m2 (n6+5)]
abbrev Pb(s0:Str)(n1 n2 n3:Nat):List W:=[cG s0 [(r 31)] [(r (n2+1)),(r 31),(.type "ValueError"),(.type "Exception"),(.type "BaseException"),(.type "object")] n2 [] (some (r n1)) n3 "ValueError.__new__",su (n2+1),is (n2+1)]
abbrev dY(s1 s2:Str)(n4 n5 n6 n7 n8 n9:Nat)(l0:BM)(m3:Value):List W:=[cy,j1,tS (n9+3) l0,cy,fn s1 s2 (inClass (top n6) n5),cf s1 s2 n9 (n9+l0.length+3) n7 n4 n8,fO s1 s2 (inClass (top n6) n5) m3 (n8+5)]
abbrev Mq(s0:Str)(n1 n2 n3:Nat):List W:=[c0 s0 n1 [] n2,gd n3 (n1+1),gw (n3+2) (n1+1),su (n1+1),is (n1+1)]
abbrev p_(s0:Str)(n1 n2 n3 n4:Nat):List W:=[cB s0 n3 n1 [] n2 n4,su (n3+1),is (n3+1)]
abbrev a0:List W:=lM [[boot_o_0,boot_o_1,boot_o_2,di 131 (("__name__",165,(.str "law_rowblade_k46_blades_side_by_side" 1879))::å),boot_o_4,boot_o_5,boot_o_6,boot_o_7,boot_o_8,boot_o_9,boot_o_10,cy,lt 0 æ,cc "<module>" 182 1 11,fr 13 3 m0],eK "_wall" 1 0 1 15 187 ["k"] m0,[tV [(.type "ValueError")],iz,c1 m1 203 "BladeError" 5 [] 208 29 4,cy,j1,cc "BladeError" 198 5 25,fr 27 24 m1,cy,c2 m1 203 5 [] 208 29 [("__weakref__",210,(r 32))] 211 3,cG "BladeError" [(.type "ValueError")] [(r 31),(.type "ValueError"),(.type "Exception"),(.type "BaseException"),(.type "object")] 30 [(r 44),(r 56),(r 75),(r 94),(r 113),(r 132)] (some (r 22)) 196 "ValueError.__new__",gw 209 31,su 31,is 31,Pa,iz,c1 m1 221 "NoPattern" 7 [] 226 42 4,cy,j1,cc "NoPattern" 216 7 38,fr 40 37 m1,cy,c2 m1 221 7 [] 226 42 [] 227 2],Pb "NoPattern" 35 43 214,[Pa,iz,c1 m1 237 "Finished" 9 [] 242 54 4,cy,j1,cc "Finished" 232 9 50,fr 52 49 m1,cy,c2 m1 237 9 [] 242 54 [] 243 2],Pb "Finished" 47 55 230,[Pa,iz,c1 m1 253 "NoLine" 11 [("__init__",265,(r 72))] 267 73 5,cy,lt 4 [(13,71)],cc "NoLine" 248 11 62,fr 64 61 m1],dY "__init__" "NoLine.__init__" 2 0 5 13 66 258 ["self","row"] m1,[tS 266 ["row"],c2 m1 253 11 [("__init__",265,(r 72))] 267 73 [] 268 2],Pb "NoLine" 59 74 246,[Pa,iz,c1 m1 278 "TwoMarks" 15 [("__init__",290,(r 91))] 292 92 5,cy,lt 4 [(17,90)],cc "TwoMarks" 273 15 81,fr 83 80 m1],dY "__init__" "TwoMarks.__init__" 2 0 6 17 85 283 ["self","row"] m1,[tS 291 ["row"],c2 m1 278 15 [("__init__",290,(r 91))] 292 92 [] 293 2],Pb "TwoMarks" 78 93 271,[Pa,iz,c1 m1 303 "NoMark" 19 [("__init__",315,(r 110))] 317 111 5,cy,lt 4 [(21,109)],cc "NoMark" 298 19 100,fr 102 99 m1],dY "__init__" "NoMark.__init__" 2 0 7 21 104 308 ["self","row"] m1]
abbrev a1:List W:=lM [[tS 316 ["row"],c2 m1 303 19 [("__init__",315,(r 110))] 317 111 [] 318 2],Pb "NoMark" 97 112 296,[Pa,iz,c1 m1 328 "Endless" 23 [("__init__",341,(r 129))] 344 130 5,cy,lt 4 [(25,128)],cc "Endless" 323 23 119,fr 121 118 m1],dY "__init__" "Endless.__init__" 3 0 8 25 123 333 ["self","row","line"] m1,[tS 342 ["line","row"],c2 m1 328 23 [("__init__",341,(r 129))] 344 130 [] 345 2],Pb "Endless" 116 131 321,[cy,iz,c1 m2 357 "Program" 29 [("__init__",369,(r 148))] 371 149 5,cy,lt 4 [(31,147)],cc "Program" 352 29 138,fr 140 137 m2],dY "__init__" "Program.__init__" 2 0 10 31 142 362 ["self","lines"] m2,[tS 370 ["lines"],c2 m2 357 29 [("__init__",369,(r 148))] 371 149 [("__dict__",373,(r 152)),("__weakref__",375,(r 153))] 376 4],Mq "Program" 150 350 372,[cy,iz,c1 m2 386 "Line" 33 [("__init__",399,(r 169))] 402 170 5,cy,lt 4 [(35,168)],cc "Line" 381 33 159,fr 161 158 m2],dY "__init__" "Line.__init__" 3 0 11 35 163 391 ["self","cond","deed"] m2,[tS 400 ["cond","deed"],c2 m2 386 33 [("__init__",399,(r 169))] 402 170 [("__dict__",404,(r 173)),("__weakref__",406,(r 174))] 407 4],Mq "Line" 171 379 403,[cy,iz,c1 m2 417 "Cond" 38 [] 422 184 4,cy,j1,cc "Cond" 412 38 180,fr 182 179 m2,cy,c2 m2 417 38 [] 422 184 [("__dict__",424,(r 187)),("__weakref__",426,(r 188))] 427 4,c0 "Cond" 185 [(r 200),(r 219),(r 231),(r 250),(r 269),(r 288),(r 307),(r 319)] 410,gd 423 186,gw 425 186,su 186,is 186,sY,iz,c1 m2 437 "Always" 40 [] 442 198 4,cy,j1,cc "Always" 432 40 194,fr 196 193 m2,cy,c2 m2 437 40 [] 442 198 [] 443 2],p_ "Always" 186 191 199 430,[sY,iz,c1 m2 453 "RowIs" 42 [("__init__",465,(r 216))] 467 217 5,cy,lt 4 [(44,215)],cc "RowIs" 448 42 206,fr 208 205 m2],dY "__init__" "RowIs.__init__" 2 0 14 44 210 458 ["self","number"] m2,[tS 466 ["number"],c2 m2 453 42 [("__init__",465,(r 216))] 467 217 [] 468 2],p_ "RowIs" 186 203 218 446]
abbrev a2:List W:=lM [[sY,iz,c1 m2 478 "Last" 46 [] 483 229 4,cy,j1,cc "Last" 473 46 225,fr 227 224 m2,cy,c2 m2 478 46 [] 483 229 [] 484 2],p_ "Last" 186 222 230 471,[sY,iz,c1 m2 494 "Like" 48 [("__init__",506,(r 247))] 508 248 5,cy,lt 4 [(50,246)],cc "Like" 489 48 237,fr 239 236 m2],dY "__init__" "Like.__init__" 2 0 16 50 241 499 ["self","pattern"] m2,[tS 507 ["pattern"],c2 m2 494 48 [("__init__",506,(r 247))] 508 248 [] 509 2],p_ "Like" 186 234 249 487,[sY,iz,c1 m2 519 "Soon" 52 [("__init__",532,(r 266))] 535 267 5,cy,lt 4 [(54,265)],cc "Soon" 514 52 256,fr 258 255 m2],dY "__init__" "Soon.__init__" 3 0 17 54 260 524 ["self","many","pattern"] m2,[tS 533 ["many","pattern"],c2 m2 519 52 [("__init__",532,(r 266))] 535 267 [] 536 2],p_ "Soon" 186 253 268 512,[sY,iz,c1 m2 546 "FromTo" 57 [("__init__",559,(r 285))] 562 286 5,cy,lt 4 [(59,284)],cc "FromTo" 541 57 275,fr 277 274 m2],dY "__init__" "FromTo.__init__" 3 0 18 59 279 551 ["self","first","second"] m2,[tS 560 ["first","second"],c2 m2 546 57 [("__init__",559,(r 285))] 562 286 [] 563 2],p_ "FromTo" 186 272 287 539,[sY,iz,c1 m2 573 "Not" 62 [("__init__",585,(r 304))] 587 305 5,cy,lt 4 [(64,303)],cc "Not" 568 62 294,fr 296 293 m2],dY "__init__" "Not.__init__" 2 0 19 64 298 578 ["self","inner"] m2,[tS 586 ["inner"],c2 m2 573 62 [("__init__",585,(r 304))] 587 305 [] 588 2],p_ "Not" 186 291 306 566,[sY,iz,c1 m2 598 "End" 66 [] 603 317 4,cy,j1,cc "End" 593 66 313,fr 315 312 m2,cy,c2 m2 598 66 [] 603 317 [] 604 2],p_ "End" 186 310 318 591,[cy,iz,c1 m2 614 "Deed" 68 [] 619 329 4,cy,j1,cc "Deed" 609 68 325,fr 327 324 m2,cy,c2 m2 614 68 [] 619 329 [("__dict__",621,(r 332)),("__weakref__",623,(r 333))] 624 4,c0 "Deed" 330 [(r 352),(r 364),(r 376),(r 388),(r 407),(r 426),(r 445),(r 464),(r 483),(r 502),(r 521),(r 533)] 607,gd 620 331,gw 622 331,su 331,is 331]]
abbrev a3:List W:=lM [[lT,iz,c1 m2 634 "Mark" 70 [("__init__",646,(r 349))] 648 350 5,cy,lt 4 [(72,348)],cc "Mark" 629 70 339,fr 341 338 m2],dY "__init__" "Mark.__init__" 2 0 22 72 343 639 ["self","name"] m2,[tS 647 ["name"],c2 m2 634 70 [("__init__",646,(r 349))] 648 350 [] 649 2],p_ "Mark" 331 336 351 627,[lT,iz,c1 m2 659 "Drop" 74 [] 664 362 4,cy,j1,cc "Drop" 654 74 358,fr 360 357 m2,cy,c2 m2 659 74 [] 664 362 [] 665 2],p_ "Drop" 331 355 363 652,[lT,iz,c1 m2 675 "Print" 76 [] 680 374 4,cy,j1,cc "Print" 670 76 370,fr 372 369 m2,cy,c2 m2 675 76 [] 680 374 [] 681 2],p_ "Print" 331 367 375 668,[lT,iz,c1 m2 691 "Done" 78 [] 696 386 4,cy,j1,cc "Done" 686 78 382,fr 384 381 m2,cy,c2 m2 691 78 [] 696 386 [] 697 2],p_ "Done" 331 379 387 684,[lT,iz,c1 m2 707 "Say" 80 [("__init__",719,(r 404))] 721 405 5,cy,lt 4 [(82,403)],cc "Say" 702 80 394,fr 396 393 m2],dY "__init__" "Say.__init__" 2 0 26 82 398 712 ["self","words"] m2,[tS 720 ["words"],c2 m2 707 80 [("__init__",719,(r 404))] 721 405 [] 722 2],p_ "Say" 331 391 406 700,[lT,iz,c1 m2 732 "Swap" 84 [("__init__",746,(r 423))] 750 424 5,cy,lt 4 [(86,422)],cc "Swap" 727 84 413,fr 415 412 m2],dY "__init__" "Swap.__init__" 4 0 27 86 417 737 ["self","pattern","words","every"] m2,[tS 747 ["every","pattern","words"],c2 m2 732 84 [("__init__",746,(r 423))] 750 424 [] 751 2],p_ "Swap" 331 410 425 725,[lT,iz,c1 m2 761 "Join" 90 [("__init__",773,(r 442))] 775 443 5,cy,lt 4 [(92,441)],cc "Join" 756 90 432,fr 434 431 m2],dY "__init__" "Join.__init__" 2 0 28 92 436 766 ["self","most"] m2,[tS 774 ["most"],c2 m2 761 90 [("__init__",773,(r 442))] 775 443 [] 776 2],p_ "Join" 331 429 444 754]
abbrev a4:List W:=lM [[lT,iz,c1 m2 786 "Pile" 94 [("__init__",799,(r 461))] 802 462 5,cy,lt 4 [(96,460)],cc "Pile" 781 94 451,fr 453 450 m2],dY "__init__" "Pile.__init__" 3 0 29 96 455 791 ["self","shelf","most"] m2,[tS 800 ["most","shelf"],c2 m2 786 94 [("__init__",799,(r 461))] 802 462 [] 803 2],p_ "Pile" 331 448 463 779,[lT,iz,c1 m2 813 "Bring" 99 [("__init__",825,(r 480))] 827 481 5,cy,lt 4 [(101,479)],cc "Bring" 808 99 470,fr 472 469 m2],dY "__init__" "Bring.__init__" 2 0 30 101 474 818 ["self","shelf"] m2,[tS 826 ["shelf"],c2 m2 813 99 [("__init__",825,(r 480))] 827 481 [] 828 2],p_ "Bring" 331 467 482 806,[lT,iz,c1 m2 838 "Go" 103 [("__init__",850,(r 499))] 852 500 5,cy,lt 4 [(105,498)],cc "Go" 833 103 489,fr 491 488 m2],dY "__init__" "Go.__init__" 2 0 31 105 493 843 ["self","name"] m2,[tS 851 ["name"],c2 m2 838 103 [("__init__",850,(r 499))] 852 500 [] 853 2],p_ "Go" 331 486 501 831,[lT,iz,c1 m2 863 "Add" 107 [("__init__",876,(r 518))] 879 519 5,cy,lt 4 [(109,517)],cc "Add" 858 107 508,fr 510 507 m2],dY "__init__" "Add.__init__" 3 0 32 109 512 868 ["self","first","second"] m2,[tS 877 ["first","second"],c2 m2 863 107 [("__init__",876,(r 518))] 879 519 [] 880 2],p_ "Add" 331 505 520 856,[lT,iz,c1 m2 890 "Tell" 112 [] 895 531 4,cy,j1,cc "Tell" 885 112 527,fr 529 526 m2,cy,c2 m2 890 112 [] 895 531 [] 896 2],p_ "Tell" 331 524 532 883,[cy,j1,fn "made_of" "made_of" (top 38),C "made_of" "made_of" 907 910 118 2 0 0 3 536 true 537 .none .none .none (r 538),fO "made_of" "made_of" (top 38) m3 539],eK "beginning_of" 2 39 120 541 913 ["text","signs","many"] m3,eK "may_stand_plain" 1 47 132 548 936 ["sign"] m4,eK "pattern" 1 48 134 555 943 ["text","front","body","back","items"] m4]
abbrev a5:List W:=lM [eK "items_of" 1 49 146 562 954 ["body","items","place","behind","many"] m4,eK "place_behind_core" 2 50 155 569 965 ["body","place","bracket"] m4,eK "many_at" 2 51 162 576 974 ["body","place"] m4,eK "item_of" 2 52 166 583 982 ["core","many"] m4,[cy,j1,fn "set_item" "set_item" (top 53),C "set_item" "set_item" 990 993 174 2 0 0 3 590 true 591 .none .none .none (r 592),fO "set_item" "set_item" (top 53) m4 593],eK "is_written_plain" 2 54 186 595 996 ["signs","others"] m4,eK "written" 1 55 188 602 1004 ["one","parts","signs","others","many"] m4,eK "written_core" 2 56 195 609 1015 ["signs","others"] m4,eK "may_be_empty" 1 57 203 616 1023 ["one"] m4,[cy,j1,fn "least_length" "least_length" (top 58),C "least_length" "least_length" 1030 1033 205 1 0 0 3 623 true 624 .none .none .none (r 625),fO "least_length" "least_length" (top 58) m4 626],eK "may_be_left_out" 1 59 207 628 1036 ["item"] m4,eK "may_come_again" 1 60 209 635 1043 ["item"] m4,[tV [(.int (0) 1055)],cy,j1,tS 1059 ["one","row","start","ends","begin"],cy,fn "stretch" "stretch" (top 63),cg "stretch" 1056 1064 213 3 643,Wl],eK "found" 2 64 219 650 1067 ["one","row"] m5,eK "greatest_ends" 2 65 221 657 1075 ["one","row","ends","item"] m5,eK "ends_behind_items" 2 66 226 664 1085 ["row","back"] m5,eK "ends_with_item" 3 67 230 671 1093 ["item","row","behind","signs","others","again","ends","place","end"] m5]
abbrev a6:List W:=lM [[cy,iz,c1 m6 1117 "TextRow" 244 YR 1143 699 6,cy,lt 4 [(246,690),(251,697)],cc "TextRow" 1112 244 681,fr 683 680 m6],dY "__init__" "TextRow.__init__" 3 0 69 246 685 1122 ["self","text","number"] m6,dY "has" "TextRow.has" 2 1 69 251 692 1131 ["self","one","name"] m6,[tS 1140 ["known","number","text"],c2 m6 1117 244 YR 1143 699 [("__dict__",1145,(r 702)),("__weakref__",1147,(r 703))] 1148 4],Mq "TextRow" 700 1110 1144,[cy,iz,c1 m6 1158 "Truths" 256 YS 1199 737 8,cy,lt 4 [(258,716),(262,723),(268,728),(279,735)],cc "Truths" 1153 256 709,fr 711 708 m6,cy,j1,fn "__init__" "Truths.__init__" (inClass (top 70) 0),C "__init__" "Truths.__init__" 1163 1166 258 2 0 0 3 713 true 714 .none .none .none (r 715),fO "__init__" "Truths.__init__" (inClass (top 70) 0) m6 716],dY "told_of" "Truths.told_of" 3 1 70 262 718 1169 ["self","row","behind","truths","place","cond"] m6,[cy,j1,fn "truth" "Truths.truth" (inClass (top 70) 2),C "truth" "Truths.truth" 1181 1184 268 5 0 0 3 725 true 726 .none .none .none (r 727),fO "truth" "Truths.truth" (inClass (top 70) 2) m6 728],dY "truth_of_stretch" "Truths.truth_of_stretch" 4 3 70 279 730 1187 ["self","place","cond","row"] m6,[tS 1197 ["conds","up"],c2 m6 1158 256 YS 1199 737 [("__dict__",1201,(r 740)),("__weakref__",1203,(r 741))] 1204 4],Mq "Truths" 738 1151 1200,eK "holds" 2 71 287 744 1207 ["cond","row"] m6,eK "is_row_up_to" 2 72 293 751 1215 ["cond","number"] m6,eK "first_swapped" 3 75 297 758 1227 ["hand","one","words","place"] m7,eK "every_swapped" 3 76 302 765 1237 ["hand","one","words","ends","parts","kept_to","place"] m7,[cy,j1,fn "words_of" "words_of" (top 77),C "words_of" "words_of" 1250 1253 315 1 0 0 3 772 true 773 .none .none .none (r 774),fO "words_of" "words_of" (top 77) m7 775],eK "word_of" 2 78 317 777 1256 ["hand","number","words"] m7,eK "number_of" 1 79 322 784 1265 ["word","figures"] m7]
abbrev a7:List W:=lM [[cy,iz,c1 m8 1282 "Walker" 328 YT 1473 943 25,cy,lt 4 [(330,803),(347,810),(351,817),(354,824),(365,831),(372,838),(383,845),(388,852),(398,859),(401,866),(404,873),(411,880),(415,887),(435,894),(443,901),(449,908),(455,915),(459,922),(464,927),(470,934),(479,941)],cc "Walker" 1277 328 794,fr 796 793 m8],dY "__init__" "Walker.__init__" 2 0 81 330 798 1287 ["self","program"] m8,dY "want" "Walker.want" 1 1 81 347 805 1295 ["self"] m8,dY "take" "Walker.take" 3 2 81 351 812 1302 ["self","row","behind"] m8,dY "take_with" "Walker.take_with" 3 3 81 354 819 1311 ["self","text","truths"] m8,dY "go_on" "Walker.go_on" 1 4 81 365 826 1320 ["self"] m8,dY "meet" "Walker.meet" 3 5 81 372 833 1327 ["self","line","number","truth"] m8,dY "hand_over" "Walker.hand_over" 1 6 81 383 840 1337 ["self","rows"] m8,dY "finish" "Walker.finish" 1 7 81 388 847 1345 ["self","line"] m8,dY "find_none" "Walker.find_none" 1 8 81 398 854 1353 ["self"] m8,dY "give" "Walker.give" 2 9 81 401 861 1360 ["self","row"] m8,dY "end_turn" "Walker.end_turn" 1 10 81 404 868 1368 ["self"] m8,dY "give_hand_and_end" "Walker.give_hand_and_end" 1 11 81 411 875 1375 ["self"] m8,dY "do" "Walker.do" 3 12 81 415 882 1382 ["self","deed","number"] m8,dY "do_giving" "Walker.do_giving" 2 13 81 435 889 1391 ["self","deed"] m8,dY "do_swap" "Walker.do_swap" 2 14 81 443 896 1399 ["self","deed"] m8]
abbrev a8:List W:=lM [dY "do_join" "Walker.do_join" 2 15 81 449 903 1407 ["self","deed"] m8,dY "do_pile" "Walker.do_pile" 2 16 81 455 910 1415 ["self","deed","things"] m8,dY "do_bring" "Walker.do_bring" 2 17 81 459 917 1424 ["self","deed","thing"] m8,[cy,j1,fn "rows_on_shelves" "Walker.rows_on_shelves" (inClass (top 81) 18),C "rows_on_shelves" "Walker.rows_on_shelves" 1433 1436 464 1 0 0 3 924 true 925 .none .none .none (r 926),fO "rows_on_shelves" "Walker.rows_on_shelves" (inClass (top 81) 18) m8 927],dY "do_add" "Walker.do_add" 3 19 81 470 929 1439 ["self","deed","number","name","word","amount"] m8,dY "do_tell" "Walker.do_tell" 1 20 81 479 936 1451 ["self","name"] m8,[tS 1459 ["behind_marks","hand","hand_rows","lines","log","met","noted","passed","shelves","sums","taken","teller","truths","wanting"],c2 m8 1282 328 YT 1473 943 [("__dict__",1475,(r 946)),("__weakref__",1477,(r 947))] 1478 4],Mq "Walker" 944 1275 1474,[cy,j1,fn "given_in" "given_in" (top 82),C "given_in" "given_in" 1481 1484 482 1 0 0 3 950 true 951 .none .none .none (r 952),fO "given_in" "given_in" (top 82) m8 953],eK "numbers_of_marks" 1 83 484 955 1487 ["lines","numbers","number","line"] m8,[cy,j1,fn "ahead" "ahead" (top 85),C "ahead" "ahead" 1499 1502 491 1 0 0 3 962 true 963 .none .none .none (r 964),fO "ahead" "ahead" (top 85) m9 965],eK "rows_seen_by" 1 86 493 967 1505 ["cond"] m9,[cy,iz,c1 m9 1519 "Blade" 501 YU 1600 1044 13,cy,lt 4 [(503,986),(511,993),(520,1000),(529,1007),(533,1014),(537,1021),(542,1028),(545,1035),(548,1042)],cc "Blade" 1514 501 977,fr 979 976 m9],dY "__init__" "Blade.__init__" 2 0 87 503 981 1524 ["self","program"] m9,dY "feed" "Blade.feed" 2 1 87 511 988 1532 ["self","piece","parts","part"] m9,dY "finish" "Blade.finish" 1 2 87 520 995 1542 ["self"] m9,dY "refuse_once_finished" "Blade.refuse_once_finished" 1 3 87 529 1002 1549 ["self"] m9,dY "come" "Blade.come" 2 4 87 533 1009 1556 ["self","text"] m9]
abbrev a9:List W:=lM [dY "take_all_but" "Blade.take_all_but" 2 5 87 537 1016 1564 ["self","many","row"] m9,dY "boxes" "Blade.boxes" 1 6 87 542 1023 1573 ["self"] m9,dY "faults" "Blade.faults" 1 7 87 545 1030 1580 ["self"] m9,dY "kept" "Blade.kept" 1 8 87 548 1037 1587 ["self"] m9,[tS 1594 ["came","finished","rest","seen","waiting","walker"],c2 m9 1519 501 YU 1600 1044 [("__dict__",1602,(r 1047)),("__weakref__",1604,(r 1048))] 1605 4],Mq "Blade" 1045 1512 1601,[tS 1610 ["row ","last","/","soon ","from ","not ","end"],cy,iz,c1 mh 1639 "Scan" 559 YV 1697 1101 10,cy,lt 4 [(561,1064),(565,1071),(568,1078),(574,1085),(578,1092),(583,1099)],cc "Scan" 1634 559 1055,fr 1057 1054 mh],dY "__init__" "Scan.__init__" 3 0 97 561 1059 1644 ["self","row","number"] mh,dY "refuse" "Scan.refuse" 1 1 97 565 1066 1653 ["self"] mh,dY "passes" "Scan.passes" 2 2 97 568 1073 1660 ["self","words"] mh,dY "must_pass" "Scan.must_pass" 2 3 97 574 1080 1668 ["self","words"] mh,dY "while_made_of" "Scan.while_made_of" 2 4 97 578 1087 1676 ["self","signs","taken"] mh,dY "between" "Scan.between" 2 5 97 583 1094 1685 ["self","sign","place","inside"] mh,[tS 1695 ["number","rest"],c2 mh 1639 559 YV 1697 1101 [("__dict__",1699,(r 1104)),("__weakref__",1701,(r 1105))] 1702 4],Mq "Scan" 1102 1632 1698,eK "line_of" 2 98 591 1108 1705 ["row","number","scan","line"] mh,[cy,j1,fn "line_next" "line_next" (top 99),C "line_next" "line_next" 1715 1718 597 1 0 0 3 1115 true 1116 .none .none .none (r 1117),fO "line_next" "line_next" (top 99) mh 1118],eK "cond_next" 1 100 605 1120 1721 ["scan"] mh]
abbrev eX:List W:=lM [eK "plain_cond_next" 1 101 611 1127 1728 ["scan","many","first"] mh,eK "row_or_pattern_next" 1 102 623 1134 1737 ["scan"] mh,eK "deed_next" 1 103 627 1141 1744 ["scan"] mh,eK "swap_next" 2 104 652 1148 1751 ["scan","every","one"] mh,eK "pile_next" 1 105 656 1155 1760 ["scan","shelf"] mh,eK "add_next" 1 106 661 1162 1768 ["scan","first"] mh,eK "number_next" 3 107 665 1169 1776 ["scan","least","most","figures","number"] mh,eK "name_next" 1 108 673 1176 1787 ["scan","name"] mh,eK "words_next" 1 109 678 1183 1795 ["scan","words"] mh,eK "pattern_next" 1 110 683 1190 1803 ["scan","text"] mh,eK "may_stand" 2 111 689 1197 1811 ["cond","deed"] mh,eK "may_swap" 1 112 695 1204 1819 ["deed"] mh,eK "cut" 1 114 700 1211 1828 ["text","rows"] ä,eK "read" 1 117 707 1218 1840 ["text","lines","marks"] UZ,eK "lines_of" 1 118 712 1225 1849 ["rows","lines","number","row"] UZ,eK "marks_of" 1 119 719 1232 1859 ["lines","marks","number","line"] UZ]
abbrev eM:List W:=lM [eK "refuse_go_without_mark" 2 120 727 1239 1869 ["lines","marks","number","line"] UZ,eK "_law_cell_at" 2 122 732 1246 1881 ["_law_script","_law_k"] z3,eK "_law_whole" 1 123 736 1253 1889 ["_law_answer"] z3,eK "_law_signs" 1 124 738 1260 1896 ["_law_number","_law_some"] z3,eK "_law_sign" 2 125 741 1267 1904 ["_law_number","_law_signs_here","_law_some","_law_spot"] z3,[cy,j1,fn "_law_text" "_law_text" (top 126),C "_law_text" "_law_text" 1914 1917 749 2 0 0 3 1274 true 1275 .none .none .none (r 1276),fO "_law_text" "_law_text" (top 126) z3 1277],eK "_law_of_parts" 2 127 758 1279 1920 ["_law_first","_law_signs_here","_law_most","_law_cond","_law_line","_law_some"] z3,[cy,j1,cy,cy,fn "_law_new" "_law_new" (top 128),cg "_law_new" 1932 1935 768 0 1286,fO "_law_new" "_law_new" (top 128) z3 1291],eK "_law_step" 4 129 770 1293 1938 ["_law_own","_law_row","_law_first","_law_signs_here","_law_up","_law_given","_law_way"] z3,eK "_law_due" 4 130 788 1300 1951 ["_law_own","_law_piece","_law_first","_law_signs_here","_law_given","_law_sign_here"] z3,eK "_law_kept" 2 131 797 1307 1963 ["_law_blade","_law_own","_law_many"] z3,eK "_law_fed" 5 132 800 1314 1972 ["_law_blade","_law_own","_law_piece","_law_first","_law_signs_here","_law_answer"] z3,eK "_law_finished" 4 133 809 1321 1984 ["_law_blade","_law_own","_law_first","_law_signs_here","_law_due_here","_law_answer"] z3,[cy,j1,fn "law" "law" (top 134),C "law" "law" 1996 1999 815 1 0 0 3 1328 true 1329 .none .none .none (r 1330),fO "law" "law" (top 134) z3 1331]]
abbrev os:List W:=a0++(a1++(a2++(a3++(a4++(a5++(a6++(a7++(a8++(a9++(eX++(eM)))))))))))
abbrev tr(n:Nat)(q:List (Nat×W)):Params->BT:=br 12 (ov os 0 n q)
abbrev lf:Life:=⟨[],[],[],0,[],[],false,#[],[],0,false,false,false,0,[2000,10,10],false,0,true,[],[],0,false⟩
abbrev TA(w:World)(os:OsState):SharedT:=⟨tr 15 [(3,boot_o_3),(12,j1)] w.params,15,lf,⟨[]⟩,⟨0,0,0,0⟩,187,os⟩
abbrev T0(w:World)(os:OsState):SharedT:=⟨tr 97 [(3,di 15 (("__name__",165,(.str "rowblade.errors" 194))::d0)),(12,lt 0 l0),(31,cG "BladeError" [(.type "ValueError")] [(r 31),(.type "ValueError"),(.type "Exception"),(.type "BaseException"),(.type "object")] 30 [(r 44),(r 56),(r 75),(r 94)] (some (r 22)) 196 "ValueError.__new__")] w.params,97,lf,⟨[]⟩,⟨0,0,0,0⟩,296,os⟩
abbrev T1(w:World)(os:OsState):SharedT:=⟨tr 191 [(3,di 20 (("__name__",165,(.str "rowblade.lines" 348))::d1)),(12,lt 0 l1),(186,c0 "Cond" 185 [] 410)] w.params,191,lf,⟨[]⟩,⟨0,0,0,0⟩,430,os⟩
abbrev T2(w:World)(os:OsState):SharedT:=⟨tr 272 [(3,di 25 (("__name__",165,(.str "rowblade.lines" 348))::d2)),(12,lt 0 l2),(186,c0 "Cond" 185 [(r 200),(r 219),(r 231),(r 250),(r 269)] 410)] w.params,272,lf,⟨[]⟩,⟨0,0,0,0⟩,539,os⟩
abbrev T3(w:World)(os:OsState):SharedT:=⟨tr 355 [(3,di 30 (("__name__",165,(.str "rowblade.lines" 348))::d3)),(12,lt 0 l3),(331,c0 "Deed" 330 [(r 352)] 607)] w.params,355,lf,⟨[]⟩,⟨0,0,0,0⟩,652,os⟩
abbrev T4(w:World)(os:OsState):SharedT:=⟨tr 429 [(3,di 35 (("__name__",165,(.str "rowblade.lines" 348))::d4)),(12,lt 0 l4),(331,c0 "Deed" 330 [(r 352),(r 364),(r 376),(r 388),(r 407),(r 426)] 607)] w.params,429,lf,⟨[]⟩,⟨0,0,0,0⟩,754,os⟩
abbrev T5(w:World)(os:OsState):SharedT:=⟨tr 505 [(3,di 39 (("__name__",165,(.str "rowblade.lines" 348))::d5)),(12,lt 0 l5),(331,c0 "Deed" 330 [(r 352),(r 364),(r 376),(r 388),(r 407),(r 426),(r 445),(r 464),(r 483),(r 502)] 607)] w.params,505,lf,⟨[]⟩,⟨0,0,0,0⟩,856,os⟩
abbrev T6(w:World)(os:OsState):SharedT:=⟨tr 671 [(3,di 71 (("__name__",165,(.str "rowblade.stretches" 1050))::d6)),(12,lt 0 l6)] w.params,671,lf,⟨[]⟩,⟨0,0,0,0⟩,1093,os⟩
abbrev T7(w:World)(os:OsState):SharedT:=⟨tr 791 [(3,di 82 (("__name__",165,(.str "rowblade.walker" 1273))::d7)),(12,lt 0 l7)] w.params,791,lf,⟨[]⟩,⟨0,0,0,0⟩,1275,os⟩
abbrev T8(w:World)(os:OsState):SharedT:=⟨tr 974 [(3,di 87 (("__name__",165,(.str "rowblade.blade" 1497))::d8)),(12,lt 0 l8)] w.params,974,lf,⟨[]⟩,⟨0,0,0,0⟩,1512,os⟩
abbrev T9(w:World)(os:OsState):SharedT:=⟨tr 1162 [(3,di 105 (("__name__",165,(.str "rowblade.linereading" 1608))::d9)),(12,lt 0 l9)] w.params,1162,lf,⟨[]⟩,⟨0,0,0,0⟩,1768,os⟩
abbrev QJ(w:World)(os:OsState):SharedT:=⟨tr 1333 [] w.params,1333,lf,⟨[]⟩,⟨0,0,0,0⟩,2002,os⟩
abbrev bE:Fs:=behindTheImports pw
abbrev nv:Env:={scope:=pw.main.scope,locals:=mainNs,globals:=mainNs,cells:=[],code:=(r 13),frame:=some 14}
abbrev cE:Code:=.body bE nv
abbrev BF:List Frame:=[topFrame ⟨0,0,0,0⟩]
abbrev an:Dx:=(some (r 6))
abbrev QK:Fs:=(bE.drop 0).take 7
abbrev QM:Fs:=(bE.drop 7).take 6
abbrev QN:Fs:=(bE.drop 13).take 5
abbrev QO:Fs:=(bE.drop 18).take 5
abbrev QP:Fs:=(bE.drop 23).take 5
abbrev QQ:Fs:=(bE.drop 28).take 4
abbrev QR:Fs:=(bE.drop 32).take 35
abbrev QT:Fs:=(bE.drop 67).take 14
abbrev QU:Fs:=(bE.drop 81).take 6
abbrev QV:Fs:=(bE.drop 87).take 19
abbrev Kf:Fs:=(bE.drop 106).take 29
abbrev S0(w:World)(os:OsState):Shared:=⟨boot_heap w.params,Array.mk [],boot_drawn,boot_toks,os⟩
abbrev ç:Thread:=piecesOf QK nv cE ⟨0,0,0,0⟩ BF
abbrev è:Thread:=piecesOf QM nv cE ⟨15,0,18,22⟩ BF
abbrev é:Thread:=piecesOf QN nv cE ⟨38,0,39,8⟩ BF
abbrev ê:Thread:=piecesOf QO nv cE ⟨52,0,56,30⟩ BF
abbrev ë:Thread:=piecesOf QP nv cE ⟨70,0,73,24⟩ BF
abbrev ì:Thread:=piecesOf QQ nv cE ⟨84,0,89,26⟩ BF
abbrev í:Thread:=piecesOf QR nv cE ⟨103,0,106,24⟩ BF
abbrev î:Thread:=piecesOf QT nv cE ⟨226,0,229,36⟩ BF
abbrev ï:Thread:=piecesOf QU nv cE ⟨327,0,327,8⟩ BF
abbrev ð:Thread:=piecesOf QV nv cE ⟨493,0,500,12⟩ BF
abbrev Wm:Thread:=piecesOf Kf nv cE ⟨656,0,660,56⟩ BF
abbrev ñ:Thread:=⟨denote treeTable cE,cE,⟨0,0,0,0⟩,BF⟩
abbrev ò:Thread:=blockOf bE nv cE ⟨0,0,0,0⟩ BF
abbrev ó:Thread:=⟨doneF .next,cE,⟨815,0,847,92⟩,BF⟩
def YW:Nat->Nat->Nat->Bi
 |0,a,_=>[a]
 |k+1,a,n=>a::YW k (a+n % 16) (n/16)
noncomputable abbrev as:D2:=YW 768 2 0x13112121121211212112121121211212112121131121211212112121121211212112121121211212112121121211212112121121211212112121121211212112121121211212112121121211311212311111121211212112121121211212112128311111121211212112121121211212112121121211212112128121211311212113311111121211212113112121121211212112121121211212112121121211212112121121211212112121121211212112121121211212812121121211311212112121121211212311111121211311212113a111111212112128121211212112121121211212111212112121131121211212112121121211311212112121121211212112121121211212113311731111212731111212731111212731111212731111212731111212731111212731173117311731111212731111a1173111121273111121273111121273111121273117311112127311731111a111111212a111111212a11112127311112127311112127311112127311731173111711212c1
def sl:List W->Nat->Bi->List W
 |[],_,_=>[]
 |x::l,i,q=>(match q with
  |[]=>[]
  |y::r=>(match y.beq i with
   |true=>x::sl l (i+1) r
   |false=>sl l (i+1) q))
abbrev K(P:Params):Frag:=as.zip ((sl os 0 as).map λo=>o P)
abbrev vw:Program:={pw with main:={pw.main with body:=([0,2,3,4,5,6,7,8,10,11,12,13,14,15,16,17,18,19,20,21,22,23,24,25,26,27,28,29,30,31,32,33,35,36,37,38,39,41,42,43,44,45,46,47,48,49,50,51,52,53,54,55,56,57,58,59,60,62,64,65,66,67,69,70,71,72,74,75,76,77,78,79,81,82,83,85,86,87,89,90,91,92,93,94,95,96,97,98,99,100,101,102,103,104,105,106,107,108,109,110,111,112,114,116,117,118,119,120,122,123,124,125,126,127,128,129,130,131,132,133,134]:Bi).map top}}
abbrev lz:BM:=["stretch"]
def pre:∀w:World,(λos=>topGo treeTable pw w 11 an 12 (S0 w os) (topStub pw))=λos=>some ((TA w os).abs,ñ):=by
 exact λw=>by kernel_rfl
def U0:∀w:World,(λos=>segRun treeTable pw w 11 an 1 1 (TA w os).abs ò)=λos=>some (Flow.next,(TA w os).abs,cE,(⟨0,0,0,0⟩:Pos)):=by
 exact λw=>by kernel_rfl
def g0:∀w:World,(λos=>segRunT treeTable pw w 11 an 1 1141 (TA w os) ç)=λos=>some (Flow.next,T0 w os,cE,(⟨15,0,18,22⟩:Pos)):=by
 rewrite [PySem.W.Fast.te10110043849684766642]
 exact λw=>by kernel_rfl
def g1:∀w:World,(λos=>segRunT treeTable pw w 11 an 1 1138 (T0 w os) è)=λos=>some (Flow.next,T1 w os,cE,(⟨38,0,39,8⟩:Pos)):=by
 rewrite [PySem.W.Fast.te10110043849684766642]
 exact λw=>by kernel_rfl
def g2:∀w:World,(λos=>segRunT treeTable pw w 11 an 1 1164 (T1 w os) é)=λos=>some (Flow.next,T2 w os,cE,(⟨52,0,56,30⟩:Pos)):=by
 rewrite [PySem.W.Fast.te10110043849684766642]
 exact λw=>by kernel_rfl
def g3:∀w:World,(λos=>segRunT treeTable pw w 11 an 1 1141 (T2 w os) ê)=λos=>some (Flow.next,T3 w os,cE,(⟨70,0,73,24⟩:Pos)):=by
 rewrite [PySem.W.Fast.te10110043849684766642]
 exact λw=>by kernel_rfl
def g4:∀w:World,(λos=>segRunT treeTable pw w 11 an 1 1134 (T3 w os) ë)=λos=>some (Flow.next,T4 w os,cE,(⟨84,0,89,26⟩:Pos)):=by
 rewrite [PySem.W.Fast.te10110043849684766642]
 exact λw=>by kernel_rfl
def g5:∀w:World,(λos=>segRunT treeTable pw w 11 an 1 983 (T4 w os) ì)=λos=>some (Flow.next,T5 w os,cE,(⟨103,0,106,24⟩:Pos)):=by
 rewrite [PySem.W.Fast.te10110043849684766642]
 exact λw=>by kernel_rfl
def g6:∀w:World,(λos=>segRunT treeTable pw w 11 an 1 1185 (T5 w os) í)=λos=>some (Flow.next,T6 w os,cE,(⟨226,0,229,36⟩:Pos)):=by
 rewrite [PySem.W.Fast.te10110043849684766642]
 exact λw=>by kernel_rfl
def g7:∀w:World,(λos=>segRunT treeTable pw w 11 an 1 863 (T6 w os) î)=λos=>some (Flow.next,T7 w os,cE,(⟨327,0,327,8⟩:Pos)):=by
 rewrite [PySem.W.Fast.te10110043849684766642]
 exact λw=>by kernel_rfl
def g8:∀w:World,(λos=>segRunT treeTable pw w 11 an 1 1000 (T7 w os) ï)=λos=>some (Flow.next,T8 w os,cE,(⟨493,0,500,12⟩:Pos)):=by
 rewrite [PySem.W.Fast.te10110043849684766642]
 exact λw=>by kernel_rfl
def g9:∀w:World,(λos=>segRunT treeTable pw w 11 an 1 1194 (T8 w os) ð)=λos=>some (Flow.next,T9 w os,cE,(⟨656,0,660,56⟩:Pos)):=by
 rewrite [PySem.W.Fast.te10110043849684766642]
 exact λw=>by kernel_rfl
def ô:∀w:World,(λos=>segRunT treeTable pw w 11 an 1 809 (T9 w os) Wm)=λos=>some (Flow.next,QJ w os,cE,(⟨815,0,847,92⟩:Pos)):=by
 rewrite [PySem.W.Fast.te10110043849684766642]
 exact λw=>by kernel_rfl
def fin:∀w:World,(λos=>topRun treeTable pw w 11 an 2 (QJ w os).abs ó)=λos=>some (QJ w os).abs:=by
 exact λw=>by kernel_rfl
def õ(w:World)(os:OsState):∀l,l=(QK++(QM++(QN++(QO++(QP++(QQ++(QR++(QT++(QU++(QV++(Kf++[])))))))))))->topRun treeTable pw w 11 an (1141+(1138+(1164+(1141+(1134+(983+(1185+(863+(1000+(1194+(809+2))))))))))) (TA w os).abs (restOf l nv cE ⟨0,0,0,0⟩ BF)=some (QJ w os).abs:=λl e=>by
 rw[e];exact piece_app (segRun_of (congrFun (g0 w) os)) (piece_app (segRun_of (congrFun (g1 w) os)) (piece_app (segRun_of (congrFun (g2 w) os)) (piece_app (segRun_of (congrFun (g3 w) os)) (piece_app (segRun_of (congrFun (g4 w) os)) (piece_app (segRun_of (congrFun (g5 w) os)) (piece_app (segRun_of (congrFun (g6 w) os)) (piece_app (segRun_of (congrFun (g7 w) os)) (piece_app (segRun_of (congrFun (g8 w) os)) (piece_app (segRun_of (congrFun (g9 w) os)) (piece_app (segRun_of (congrFun (ô w) os)) (congrFun (fin w) os)))))))))))
def run(w:World)(os:OsState):topRun treeTable pw w 11 an (12+(1+(1141+(1138+(1164+(1141+(1134+(983+(1185+(863+(1000+(1194+(809+2))))))))))))) (S0 w os) (topStub pw)=some (QJ w os).abs:=go_top (congrFun (pre w) os) (piece_block (congrFun (U0 w) os) (õ w os bE (by kernel_rfl)))
def Pc:∀P,as=(K P).map (·.1):=λ_=>by kernel_rfl
abbrev H:Hook:=kHook K as Pc
abbrev H1(P:Params):Heap:=absHeap ((tr 1333 []) P) 1333 lf
abbrev SF(w:World)(os:OsState):Shared:=⟨H1 w.params,Array.mk [],⟨0,0,0,0⟩,2002,os⟩
abbrev Xt(s:Shared):Bool:=xlAt vw [] s&&recOk (RowW.records (OpenRow.toRowW (OpenLaw.row PySem.Challenge.rw_rowblade_k46_blades_side_by_side))) s
def ö:∀w:World,(fencedOpening treeTable pw w 23608).map (λs=>(s.heap,s.gens,s.drawn,s.toks))=some (boot_heap w.params,Array.mk [],boot_drawn,boot_toks):=boot_open (by kernel_rfl) (by decide) (λs=>by kernel_rfl)
def ø:∀w:World,((boot_heap w.params).isNs mainGlobals&&(Array.mk []:Array GenState).size == 0,(boot_heap w.params).objs.size,(boot_heap w.params).nsMap mainGlobals "__annotations__")=(true,11,an):=λw=>by kernel_rfl
def ù:∀w:World,(λos=>(staticsOk (importedModules pw.main.body) (boot_heap w.params) (H1 w.params)&&namesBound pw (H1 w.params)&&gensDone (SF w os)&&laidKept (boot_heap w.params) (H1 w.params)))=λ_=>true:=λw=>by kernel_rfl
def q1:∀w:World,(λos=>PyProof.Rows.seen (A9 (λx=>x.name) (JZ vw)) (PyProof.Rows.ownsOf vw) [] {heap:=(SF w os).heap,drawn:=(SF w os).drawn,toks:=(SF w os).toks,os:=(SF w os).os})=λ_=>PyProof.Rows.expectedOf vw:=λw=>by kernel_rfl
def q2:∀w:World,(λos=>(SF w os).heap.bltView)=λ_=>bltViewBooted:=λw=>by kernel_rfl
def b1:∀w:World,(λos=>(SF w os).heap.keysOk (looseW vw lz) (A9 (λx=>x.name) (JZ vw)) (A9 (λx=>x.fst) (PyProof.Rows.litsOf vw)) (A9 (λx=>x.name) (PyProof.Rows.clssOf vw (looseW vw lz))))=λ_=>true:=λw=>by kernel_rfl
def b2:∀w:World,(λos=>(SF w os).heap.accountedOkI (importedModules pw.main.body))=λ_=>true:=λw=>by kernel_rfl
def b3:∀w:World,(λos=>(SF w os).heap.isNs mainGlobals)=λ_=>true:=λw=>by kernel_rfl
def b4:∀w:World,(λos=>(SF w os).heap.isNs builtinsNs)=λ_=>true:=λw=>by kernel_rfl
def b5:∀w:World,(λos=>PyProof.Rows.tablesOk vw (SF w os).heap)=λ_=>true:=λw=>by kernel_rfl
def b6:∀w:World,(λos=>Xt (SF w os))=λ_=>true:=λw=>by kernel_rfl
def q4:∀w:World,(λos=>PyProof.Rows.tabsOk vw (SF w os))=λ_=>true:=λw=>by kernel_rfl
def q5:∀w:World,(λos=>pinSeenD vw (J0 vw) (SF w os))=λ_=>pinGoodD (J0 vw):=λw=>by kernel_rfl
def q6:∀w:World,(λos=>PyProof.Rows.plainSeenE vw (looseW vw lz) (SF w os))=λ_=>PyProof.Rows.plainGoodE vw (looseW vw lz):=λw=>by kernel_rfl
def q7:∀w:World,(λos=>PyProof.Rows.plainSeenD vw lz (SF w os))=λ_=>PyProof.Rows.plainGoodD vw lz:=λw=>by kernel_rfl
def q8:∀w:World,(λos=>wideSeen vw (SF w os))=λ_=>wideGood vw:=λw=>by kernel_rfl
def q9:∀w:World,(λos=>clsSeenW vw lz (SF w os))=λ_=>clsGoodW vw lz:=λw=>by kernel_rfl
def ú:∀w:World,(λos=>openSeen vw lz (importedModules pw.main.body) Xt true (SF w os))=λ_=>openGood vw lz:=λw=>funext λos=>looks_pair (congrFun (q1 w) os) (looks_pair (congrFun (q2 w) os) (looks_pair (by
 show(_&&_&&_&&_&&_&&_&&_)=true;rw[congrFun (b1 w) os,congrFun (b2 w) os,congrFun (b3 w) os,congrFun (b4 w) os,congrFun (b5 w) os,congrFun (b6 w) os];rfl) (looks_pair (congrFun (q4 w) os) (looks_pair (congrFun (q5 w) os) (looks_pair (congrFun (q6 w) os) (looks_pair (congrFun (q7 w) os) (looks_pair (congrFun (q8 w) os) (congrFun (q9 w) os))))))))
def sp{α β γ:Type}{f:α->γ}{g:β->γ}(n:Nat){a:List α}{k:List β}(h1:(a.take n).map f=(k.take n).map g)(h2:(a.drop n).map f=(k.drop n).map g):a.map f=k.map g:=by
 rw[<- Jv n a,<- Jv n k,jv,jv,h1,h2]
def û:∀w:World,(λos=>(as.take 257).map (SF w os).heap.get?)=λ_=>((K w.params).take 257).map λp=>some p.2:=λw=>by kernel_rfl
def ü:∀w:World,(λos=>((as.drop 257).take 257).map (SF w os).heap.get?)=λ_=>(((K w.params).drop 257).take 257).map λp=>some p.2:=λw=>by kernel_rfl
def ý:∀w:World,(λos=>((as.drop 257).drop 257).map (SF w os).heap.get?)=λ_=>(((K w.params).drop 257).drop 257).map λp=>some p.2:=λw=>by kernel_rfl
def þ:∀w:World,(λos=>Hook.obs H (SF w os))=λ_=>Hook.val H w:=λw=>funext λos=>sp 257 (congrFun (û w) os) (sp 257 (congrFun (ü w) os) (congrFun (ý w) os))
def left:LeftO pw vw lz Xt (Hook.obs H) (Hook.val H) 23608:=LeftO.of_pieces (H₁:=H1) (gs₁:=Array.mk []) (d₁:=⟨0,0,0,0⟩) (k₁:=2002) ö ø run (by decide) λw=>funext λos=>looks_pair (congrFun (ù w) os) (looks_pair (congrFun (ú w) os) (congrFun (þ w) os))
end KH
end
namespace L2
open PySem PySem.Spec PyProof.Rows
section
variable{κ:Type}[DecidableEq κ]
def jy(aE:List (κ×V))(k:κ):Option V:=(aE.find? λkv=>decide (kv.1=k)).map (·.2)
def putK(aE:List (κ×V))(k:κ)(v:V):List (κ×V):=
 if(aE.any λkv=>decide (kv.1=k))=true then aE.map (λkv=>if kv.1=k then(kv.1,v)else kv)else aE++[(k,v)]
def iG{p:κ×V}{r:List (κ×V)}{k:κ}(e:p.1=k):jy (p::r) k=some p.2:=by simp[jy,zf,e]
def iH{p:κ×V}{r:List (κ×V)}{k:κ}(e:¬ p.1=k):jy (p::r) k=jy r k:=by simp[jy,zf,e]
theorem mU(k:κ):∀aE:List (κ×V),(aE.any λkv=>decide (kv.1=k))=(jy aE k).isSome
 |[]=>rfl
 |p::r=>by
  rw[qE];by_cases e:p.1=k
  ·simp only[iG e,decide_eq_true e,Bool.true_or,Option.isSome_some]
  ·rw[iH e,decide_eq_false e,JL];exact mU k r
def iI(aE:List (κ×V))(k:κ)(v:V):(putK aE k v).length<=aE.length+1:=by
 unfold putK;split
 ·rw[b_];omega
 ·rw[dg,eT,A_];omega
def iw.gE{o:Option V}{u:Dx}(r:iw o u):o.isSome=u.isSome:=by
 cases o with
 |none=>cases u with
  |none=>rfl
  |some _=>exact(show False from r).elim
 |some _=>cases u with
  |none=>exact(show False from r).elim
  |some _=>rfl
theorem iw.getD{o:Option V}{u:Dx}{d:V}{d':Value}(r:iw o u)(rd:RelV d d'):RelV (o.getD d) (u.getD d'):=by
 cases o with
 |none=>cases u with
  |none=>exact rd
  |some _=>exact(show False from r).elim
 |some _=>cases u with
  |none=>exact(show False from r).elim
  |some _=>exact r
def KV.val{aE:List (κ×V)}{vs:List (κ×Value)}(r:KV aE vs)(k:κ):iw (jy aE k) (valueAt vs k):=by
 unfold KV at r
 induction r with
 |nil=>exact True.intro
 | @cons p q ps qs h t ih=>
  obtain⟨h1,h2⟩:=h;by_cases e:p.1=k
  ·have e':q.1=k:=h1.symm.trans e
   have b:valueAt (q::qs) k=some q.2:=by simp[valueAt,zf,e']
   rw[iG e,b];exact h2
  ·have e':¬ q.1=k:=λz=>e (h1.trans z)
   have b:valueAt (q::qs) k=valueAt qs k:=by simp[valueAt,zf,e']
   rw[iH e,b];exact ih
theorem KV.any{aE:List (κ×V)}{vs:List (κ×Value)}(r:KV aE vs)(k:κ):(aE.any λkv=>decide (kv.1=k))=vs.any λkv=>decide (kv.1=k):=by
 unfold KV at r
 induction r with
 |nil=>rfl
 |cons h t ih=>rw[qE,qE,ih,h.1]
def KV.Mr{aE:List (κ×V)}{vs:List (κ×Value)}(r:KV aE vs)(k:κ){y:V}{u:Value}(ry:RelV y u) :
  KV (aE.map λkv=>if kv.1=k then(kv.1,y)else kv) (vs.map λkv=>if kv.1=k then(kv.1,u)else kv):=by
 unfold KV at r ⊢
 induction r with
 |nil=>exact .nil
 | @cons p q ps qs h t ih=>
  rw[dZ,dZ];refine .cons ?_ ih;obtain⟨h1,h2⟩:=h;by_cases e:p.1=k
  ·rw[if_pos e,if_pos (h1.symm.trans e)];exact⟨h1,ry⟩
  ·rw[if_neg e,if_neg (λz=>e (h1.trans z))];exact⟨h1,h2⟩
def KV.put{aE:List (κ×V)}{vs:List (κ×Value)}(r:KV aE vs)(k:κ){y:V}{u:Value}(ry:RelV y u):KV (putK aE k y) (stored vs k u):=by
 unfold putK stored;rw[r.any k];by_cases e:(vs.any λkv=>decide (kv.1=k))=true
 ·rw[if_pos e,if_pos e];exact r.Mr k ry
 ·rw[if_neg e,if_neg e];exact Paired.snoc r ⟨rfl,ry⟩
theorem KV.length{aE:List (κ×V)}{vs:List (κ×Value)}(r:KV aE vs):aE.length=vs.length:=Paired.length r
end
def mV{P:Program}{w:World}{k:Key}{u:Value}(r:RelV (kV k) u):(bj P w).is k u=true:=by
 cases k with
 |inl i=>obtain⟨t,e⟩:=(show ∃t,u=Value.int i t from r);subst e;exact sI P w i t
 |inr x=>obtain⟨t,e⟩:=(show ∃t,u=Value.str x t from r);subst e;exact sJ P w x t
theorem qa{P:Program}{w:World}:∀{ks:List Key}{us:Bz},Vals (ks.map kV) us->ItemsAre (bj P w) ks us
 |[],_,r=>by rw[Fp]at r;cases r;exact .nil
 |k::ks,_,r=>by
  rw[dZ]at r;cases r with
  |cons h t=>exact .cons (mV h) (qa t)
abbrev KT(H:Hp):List (List Key×V)->List (List Key×Addr×Value)->Prop:=Paired λp q=>p.1=q.1/\H q.2.1=some (.tup (p.1.map kV))/\RelV p.2 q.2.2
def KT.val{H:Hp}{aE:List (List Key×V)}{xs:List (List Key×Addr×Value)}(r:KT H aE xs)(k:List Key):iw (jy aE k) ((atKey xs k).map (·.2)):=by
 induction r with
 |nil=>exact True.intro
 | @cons p q ps qs h t ih=>
  obtain⟨h1,_,h2⟩:=h;by_cases e:p.1=k
  ·have e':q.1=k:=h1.symm.trans e
   have b:atKey (q::qs) k=some q.2:=by simp[atKey,zf,e']
   rw[iG e,b];exact h2
  ·have e':¬ q.1=k:=λz=>e (h1.trans z)
   have b:atKey (q::qs) k=atKey qs k:=by simp[atKey,zf,e']
   rw[iH e,b];exact ih
def KT.Mr{H:Hp}{aE:List (List Key×V)}{xs:List (List Key×Addr×Value)}(r:KT H aE xs)(k:List Key){y:V}{u:Value}(ry:RelV y u) :
  KT H (aE.map λkv=>if kv.1=k then(kv.1,y)else kv) (xs.map (putAt k u)):=by
 induction r with
 |nil=>exact .nil
 | @cons p q ps qs h t ih=>
  rw[dZ,dZ];refine .cons ?_ ih;obtain⟨h1,h2,h3⟩:=h;unfold putAt;by_cases e:p.1=k
  ·rw[if_pos e,if_pos (h1.symm.trans e)];exact⟨h1,h2,ry⟩
  ·rw[if_neg e,if_neg (λz=>e (h1.trans z))];exact⟨h1,h2,h3⟩
def KT.put{H:Hp}{aE:List (List Key×V)}{xs:List (List Key×Addr×Value)}(r:KT H aE xs)(k:List Key){b:Addr}{y:V}{u:Value}(hb:H b=some (.tup (k.map kV)))(ry:RelV y u) :
  KT H (putK aE k y) (storedH xs k b u):=by
 have e:(aE.any λkv=>decide (kv.1=k))=(atKey xs k).isSome:=by
  rw[mU,(r.val k).gE,Bw]
 unfold putK storedH;rw[e];by_cases q:(atKey xs k).isSome=true
 ·rw[if_pos q,if_pos q];exact r.Mr k ry
 ·rw[if_neg q,if_neg q];exact Paired.snoc r ⟨rfl,hb,ry⟩
def KT.keeps{H H':Hp}{aE:List (List Key×V)}{xs:List (List Key×Addr×Value)}(r:KT H aE xs)(ht:∀b ys,H b=some (.tup ys)->H' b=some (.tup ys)):KT H' aE xs:=
 Paired.Lq r λ_ _ z=>⟨z.1,ht _ _ z.2.1,z.2.2⟩
variable{a:Addr}{A:Around}{X:Cx}{H:Hp}{ae:dm}{s:Shared}{σ:St}{y:V}{u:Value}{E:Value->Shared->Prop}
section
variable{P:Program}{w:World}{h:Heap}
def Kg{u:HO}(ok:jO P w H h)(e:Rd H a u):ck P w H h a u:=e.ok ok
def mW{aE:List (Key×V)}(ok:jO P w H h)(e:Rd H a (.dK aE)):aE.length<=sizeLine/\(a == sysModules)=false/\∃vs,KV aE vs/\h.DictOf (bj P w) a vs:=
 show ck P w H h a (.dK aE)from Kg ok e
def Co{aE:List (Key×V)}(ok:jO P w H h)(e:H a=some (.dK aE)):aE.length<=sizeLine/\(a == sysModules)=false/\∃vs,KV aE vs/\h.DictOf (bj P w) a vs:=mW ok (.inl e)
def kH{ks:List Key}(ok:jO P w H h)(e:H a=some (.tup (ks.map kV))):(tupleKind (bj P w)).is h ks a:=by
 obtain⟨_,aF,r,o,h1,h2,n,h3⟩:=(show ck P w H h a (.tup (ks.map kV))from ok a _ e);exact⟨o,aF.toArray,n,h1,h2,h3,by simpa using qa r⟩
def mX{aE:List (List Key×V)}(ok:jO P w H h)(e:Rd H a (.dT aE)):aE.length<=sizeLine/\(a == sysModules)=false /\
  ∃xs,KT H aE xs/\h.DictOfH (tupleKind (bj P w)) a xs:=by
 obtain⟨z,y,xs,r,o,es,ep,h1,h2,h3,h4,h5⟩:=(show ck P w H h a (.dT aE)from Kg ok e);refine⟨z,y,xs,r,o,es,ep,h1,h2,h3,h4,λx hx=>?_,h5⟩;have all:∀{l:List (List Key×V)}{m:List (List Key×Addr×Value)},KT H l m->∀x∈m,(tupleKind (bj P w)).is h x.1 x.2.1:=by
  intro l m q
  induction q with
  |nil=>intro x hx;exact nomatch hx
  | @cons p q ps qs hq t ih=>
   intro x hx;rcases gh.mp hx with e|hx
   ·subst e
    exact kH ok (by rw[<- hq.1];exact hq.2.1)
   ·exact ih x hx
 exact all r x hx
def QW{aE:List (List Key×V)}(ok:jO P w H h)(e:H a=some (.dT aE)):aE.length<=sizeLine/\(a == sysModules)=false /\
  ∃xs,KT H aE xs/\h.DictOfH (tupleKind (bj P w)) a xs:=mX ok (.inl e)
end
def o9(H:Hp)(a:Addr)(y:V)(r:Option V):Prop:=
 (∃aE k,Rd H a (.dK aE)/\y=kV k/\r=jy aE k)\/∃aE k b,Rd H a (.dT aE)/\y=.ref b/\H b=some (.tup (k.map kV))/\r=jy aE k
def Gy(H:Hp)(a:Addr)(y v:V)(H':Hp):Prop:=
 (∃aE k,H a=some (.dK aE)/\y=kV k/\aE.length<sizeLine/\H'=upd H a (.dK (putK aE k v))) \/
 ∃aE k b,H a=some (.dT aE)/\y=.ref b/\H b=some (.tup (k.map kV))/\aE.length<sizeLine/\H'=upd H a (.dT (putK aE k v))
theorem o9.k{H:Hp}{a:Addr}{aE:List (Key×V)}{k:Key}(e:H a=some (.dK aE)):o9 H a (kV k) (jy aE k):=.inl ⟨aE,k,.inl e,rfl,rfl⟩
theorem Gy.k{H:Hp}{a:Addr}{aE:List (Key×V)}{k:Key}{v:V}(e:H a=some (.dK aE))(hl:aE.length<sizeLine):Gy H a (kV k) v (upd H a (.dK (putK aE k v))):=.inl ⟨aE,k,e,rfl,hl,rfl⟩
section
variable{v:V}{r:Value}{o:Option V}
def Inv.big(I:Inv X ae σ H s):sysModules<s.heap.objs.size:=by
 have h:mainGlobals<s.heap.objs.size:=(I.mod.glob.keeps I.bk).lt;exact Nat.lt_trans (by decide) h
def z4{Q:Value->Shared->Prop}(hu:A.units+1<cLine)(I:Inv X ae σ H s)(g:o9 H a y (some v))(ry:RelV y u)(h:∀w' s',Inv X ae σ H s'->RelV v w'->Q w' s') :
  wpAny (model X.prog X.w) A (getItem (.ref a) u) Q E s:=by
 rcases g with⟨aE,k,e,ey,l⟩|⟨aE,k,b,e,ey,eb,l⟩
 ·subst ey
  obtain⟨z,hd,vs,rel,dd⟩:=mW I.bG e;obtain⟨w',hw,qT⟩:=iw.some_of (v:=v) (o:=valueAt vs k) (by rw[l];exact rel.val k)
  exact wpAny_getItem_of (mV ry) dd.mapOf hw (h w' _ (I.tok _) qT)
 ·subst ey
  cases(show u=Value.ref b from ry);obtain⟨z,hd,xs,rel,dd⟩:=mX I.bG e;obtain⟨w',hw,qT⟩:=iw.some_of (v:=v) (o:=(atKey xs k).map (·.2)) (by rw[l];exact rel.val k)
  obtain⟨p,hp,ÿ⟩:=cz.mp hw;refine wpAny_getItem_heap (tupleKind_room_in1 hu) (kH I.bG eb) dd hp ?_;rw[ÿ];exact h w' _ (I.tok _) qT
def Wn{Q:Value->Shared->Prop}(hu:A.units+1<cLine)(I:Inv X ae σ H s)(g:o9 H a y o)(ry:RelV y u)(h:∀s',Inv X ae σ H s'->Q (.bool o.isSome) s') :
  wpAny (model X.prog X.w) A (compareOp .In u (.ref a)) Q E s:=by
 rcases g with⟨aE,k,e,ey,l⟩|⟨aE,k,b,e,ey,eb,l⟩
 ·subst ey
  obtain⟨z,hd,vs,rel,dd⟩:=mW I.bG e;refine wpAny_in_of (mV ry) hd dd.mapOf ?_;rw[<- (rel.val k).gE,<- l];exact h _ (I.tok _)
 ·subst ey
  cases(show u=Value.ref b from ry);obtain⟨z,hd,xs,rel,dd⟩:=mX I.bG e;refine wpAny_in_heap (tupleKind_room_in1 hu) (kH I.bG eb) hd dd ?_;have q:=(rel.val k).gE;rw[Bw]at q;rw[<- q,<- l];exact h _ (I.tok _)
def Gz{Q:Value->Shared->Prop}(hu:A.units+1<cLine)(I:Inv X ae σ H s)(g:o9 H a y o)(ry:RelV y u)(h:∀s',Inv X ae σ H s'->Q (.bool (!o.isSome)) s') :
  wpAny (model X.prog X.w) A (compareOp .NotIn u (.ref a)) Q E s:=by
 rcases g with⟨aE,k,e,ey,l⟩|⟨aE,k,b,e,ey,eb,l⟩
 ·subst ey
  obtain⟨z,hd,vs,rel,dd⟩:=mW I.bG e;refine wpAny_notIn_of (mV ry) hd dd.mapOf ?_;rw[<- (rel.val k).gE,<- l];exact h _ (I.tok _)
 ·subst ey
  cases(show u=Value.ref b from ry);obtain⟨z,hd,xs,rel,dd⟩:=mX I.bG e;refine wpAny_notIn_heap (tupleKind_room_in1 hu) (kH I.bG eb) hd dd ?_;have q:=(rel.val k).gE;rw[Bw]at q;rw[<- q,<- l];exact h _ (I.tok _)
def qY{h':Heap}{t':Nat}{ob:HO}(I:Inv X ae σ H s)(mu:PD (H a))(hs:Heap.SameBut a s.heap h')(he:∃q,h'.get? a=some q)(new:ck X.prog X.w (upd H a ob) h' a ob) :
  Inv X ae σ (upd H a ob) {s with heap:=h',toks:=t'}:=
 I.write (x:=a) (e:=a) mu (.inl rfl) (λb q hb z=>(hs.2 b hb).trans z) he new
def Cp{P:Program}{w:World}{H':Hp}{h':Heap}{aE:List (Key×V)}{vs:List (Key×Value)}(z:aE.length<=sizeLine)(hd:(a == sysModules)=false)(rel:KV aE vs)(dd:h'.DictOf (bj P w) a vs) :
  ck P w H' h' a (.dK aE):=⟨z,hd,vs,rel,dd⟩
def z5{H':Hp}{Q:Unit->Shared->Prop}(hu:A.units+1<cLine)(I:Inv X ae σ H s)(g:Gy H a y v H')(ry:RelV y u)(rv:RelV v r)(h:∀s',Inv X ae σ H' s'->Q () s') :
  wpAny (model X.prog X.w) A (setItem (.ref a) u r) Q E s:=by
 rcases g with⟨aE,k,e,ey,l,eH⟩|⟨aE,k,b,e,ey,eb,l,eH⟩
 ·subst ey eH
  obtain⟨z,hd,vs,rel,dd⟩:=Co I.bG e;have hz:vs.length<=sizeLine:=by rw[<- rel.length];exact z
  have hl:(putK aE k v).length<=sizeLine:=by have:=iI aE k v;omega
  refine wpAny_setItem_pairs (hsz:=hz) (mV ry) dd λh' Ms hs=>h _ ?_;have he:∃q,h'.get? a=some q:=let⟨q,_,_,hq,_⟩:=Ms;⟨q,hq⟩;exact qY I (by rw[e];exact True.intro) hs he (Cp hl hd (rel.put k rv) Ms)
 ·subst ey eH
  cases(show u=Value.ref b from ry);obtain⟨z,hd,xs,rel,dd⟩:=QW I.bG e;have hz:xs.length<=sizeLine:=by rw[<- Paired.length rel];exact z
  have hl:(putK aE k v).length<=sizeLine:=by have:=iI aE k v;omega
  refine wpAny_setItem_heap (hsz:=hz) (tupleKind_room_in1 hu) (kH I.bG eb) dd λh' Ms hs=>h _ ?_;obtain⟨q,es,ep,hq,h2,h3,h4,_,h5⟩:=Ms;refine qY I (by rw[e];exact True.intro) hs ⟨q,hq⟩ ⟨hl,hd,_,(rel.put k eb rv).keeps λc ys ec=>?_,q,es,ep,hq,h2,h3,h4,h5⟩
  rw[aq (PB ec e (λz=>nomatch z))];exact ec
end
section
variable{aE:List (Key×V)}{k:Key}
end
def Mt(i:Expr):Prop:=∀ov iv,subscripted i false ov iv=operate [ov,iv] (getItem ov iv)
def GA{prog:Program}{w:World}{A:Around}{E:Value->Shared->Prop}{s:Shared}{env:Env}{value slice:Expr}{pos:Pos}{T id:String}{Q:Value->Shared->Prop}
  (hl:typeLookup (.type T) "__getitem__" = pure (some (.builtin id))) (hs:Mt slice)
  (h:wpAny (model prog w) A (eval value env) (λo s₁=>wpAny (model prog w) A (eval slice env) (λi s₂=>s₂.TypeIs o T/\wpAny (model prog w) A (getItem o i) Q E s₂) E s₁) E s) :
  wpAny (model prog w) A (eval (.Subscript value slice pos) env) Q E s:=by
 refine Subscript_ (wpAny_mono h (λo s₁ h₁=>wpAny_mono h₁ (λi s₂ h₂=>?_) λ_ _ x=>x) λ_ _ x=>x);obtain⟨hT,h₂⟩:=h₂;unfold subscriptTail;refine wpAny_bind ?_;rw[getitemInPython_of_ne hT.not_modules];refine wpAny_bind (wpAny_specialOf hT hl ?_);have fin:wpAny (model prog w) A (subscripted slice false o i) (λr s₃=>wpAny (model prog w) A (letTemporaryGo value o r >>= λ_=>pure r) Q E s₃) E s₂:=by
  rw[hs o i];exact wpAny_operating (wpAny_mono h₂ (λr s₃ h₃=>wpAny_bind (wpAny_letTemporaryGo (wpAny_pure h₃))) λ_ _ x=>x)
 first
  |exact wpAny_pure (wpAny_bind fin)
  |exact wpAny_bind (wpAny_pure (wpAny_bind fin))
  |exact wpAny_bind fin
def sZ{X:Cx}{ae:dm}{σ:St}{H:Hp}{s:Shared}{a:Addr}{y:V}{o:Option V}(I:Inv X ae σ H s)(g:o9 H a y o):s.TypeIs (.ref a) "dict" := by
 rcases g with⟨aE,k,e,_,_⟩|⟨aE,k,b,e,_,_,_⟩
 ·obtain⟨_,_,vs,_,dd⟩:=mW I.bG e
  exact dd.typeIs
 ·obtain⟨_,_,xs,_,dd⟩:=mX I.bG e
  exact dd.typeIs
def QX(td ty:TE):TE:=λσ H Q=>td σ H λx H1=>ty σ H1 λy H2=>∃a v,x=.ref a/\o9 H2 a y (some v)/\Q v H2
def QY(td ty tv:TE):TS:=λD σ H=>tv σ H λv H1=>td σ H1 λx H2=>ty σ H2 λy H3=>∃a H4,x=.ref a/\Gy H3 a y v H4/\D.nx σ H4
section
variable{o i e value:Expr}{pos bU oV:Pos}{td ty tv:TE}
def GC(hu:X.A.units+1<cLine)(ho:PE X o td)(hi:PE X i ty)(hs:Mt i):PE X (.Subscript o i pos) (QX td ty):=by
 intro ae s σ H Q I h;refine GA PySem.F.slot_dict_getitem.lookup hs (bJ (ho ae s σ H _ I h) λu s1 ⟨x,H1,I1,rx,q1⟩=>bJ (hi ae s1 σ H1 _ I1 q1) λiv s2 zz=>?_);obtain⟨y,H2,I2,ry,a,v,ex,g,q2⟩:=zz;subst ex
 obtain rfl:u=Value.ref a:=rx
 exact⟨sZ I2 g,z4 hu I2 g ry λw' s3 I3 qT=>⟨v,H2,I3,qT,q2⟩⟩
def GD(hu:X.A.units+1<cLine)(ho:PE X o td)(hi:PE X i ty)(hv:PE X value tv)(hs:swapsWith value (some (.Subscript o i bU)) pos.line X.env=pure false) :
  PS X (.Assign [.Subscript o i bU] value pos) (QY td ty tv):=by
 intro ae s σ H D I h;refine wpAny_Assign_Subscript (bJ (hv ae s σ H _ I h) λr s1 ⟨v,H1,I1,rv,q1⟩=>bJ (ho ae s1 σ H1 _ I1 q1) λu s2 ⟨x,H2,I2,rx,q2⟩=>bJ (hi ae s2 σ H2 _ I2 q2) λiv s3 ⟨y,H3,I3,ry,a,H4,ex,g,q3⟩=>?_) hs;subst ex
 obtain rfl:u=Value.ref a:=rx
 exact z5 hu I3 g ry rv λs4 I4=>⟨σ,H4,I4,q3⟩
end
def s_{P:Program}{w:World}{H:Hp}(h:Heap)(hb:sysModules<h.objs.size):ck P w H (h.push {cls:=.type "dict",data:=.dict #[]}) h.objs.size (.dK []):=
 ⟨jb _,beq_eq_false_iff_ne.mpr (Ne.symm (fG hb)),[],.nil,Heap.DictOf.new h⟩
def Mu:TE:=λ_ H Q=>∀p,H p=none->Q (.ref p) (upd H p (.dK []))
section
variable{pos:Pos}
def tm:PE X (.Dict [] [] pos) Mu:=λae s σ H Q I h=>
 wpAny_Dict_empty ⟨.ref s.heap.objs.size,_,I.laid (a:=s.heap.objs.size) (o:=.dK []) (t':=s.toks) (λ_ _ q=>Heap.get?_push_of_some _ q) (bV _) (s_ s.heap I.big),rfl,h _ (I.bG.fresh (bV _))⟩
end
def qZ:List (TE×TE)->St->Hp->(List (V×V)->Hp->Prop)->Prop
 |[],_,H,Q=>Q [] H
 |(tk,tv)::r,σ,H,Q=>tk σ H λx H1=>tv σ H1 λy H2=>qZ r σ H2 λps H3=>Q ((x,y)::ps) H3
abbrev VV:List (V×V)->List (Value×Value)->Prop:=Paired λp q=>RelV p.1 q.1/\RelV p.2 q.2
def QZ(X:Cx)(pos:Pos)(keys:List (Option Expr))(values:D1)(jQ:List (TE×TE)):Prop:=
 ∀(ae:dm)(s:Shared)(σ:St)(H:Hp)(Q:List (V×V)->Hp->Prop),Inv X ae σ H s->qZ jQ σ H Q ->
  wpAny (model X.prog X.w) X.A (evalPairs (pairTrees keys values X.env pos)) (λvs s'=>∃ps H',Inv X ae σ H' s'/\VV ps vs/\Q ps H') X.xe s
def GF{X:Cx}{pos:Pos}:QZ X pos [] [] []:=λae s σ H Q I h=>pairTrees_nil_walk ⟨[],H,I,.nil,h⟩
def Cq{X:Cx}{pos:Pos}{k v:Expr}{ks:List (Option Expr)}{vs:D1}{tk tv:TE}{jQ:List (TE×TE)}(hk:PE X k tk)(hv:PE X v tv)(hr:QZ X pos ks vs jQ) :
  QZ X pos (some k::ks) (v::vs) ((tk,tv)::jQ):=λae s σ H Q I h=>
 pairTrees_cons_walk (bJ (hk ae s σ H _ I h) λu s1 ⟨x,H1,I1,rx,q1⟩=>bJ (hv ae s1 σ H1 _ I1 q1) λw2 s2 ⟨y,H2,I2,ry,q2⟩=>
  bJ (hr ae s2 σ H2 _ I2 q2) λws s3 ⟨ps,H3,I3,rel,q3⟩=>⟨(x,y)::ps,H3,I3,.cons ⟨rx,ry⟩ rel,q3⟩)
def jz(aE more:List (Key×V)):List (Key×V):=more.foldl (λgW kv=>putK gW kv.1 kv.2) aE
def KV.merge:∀{more:List (Key×V)}{rs:List (Key×Value)}{aE:List (Key×V)}{vs:List (Key×Value)},KV more rs->KV aE vs->KV (jz aE more) (merged vs rs):=by
 intro more rs aE vs r;unfold KV at r
 induction r generalizing aE vs with
 |nil=>intro q;exact q
 | @cons p q ps qs h t ih=>
  intro r0;have e:KV (putK aE p.1 p.2) (stored vs q.1 q.2):=by
   have:=r0.put p.1 h.2
   rw[<- h.1];exact this
  exact ih e
theorem jj:∀(more aE:List (Key×V)),(jz aE more).length<=aE.length+more.length
 |[],aE=>by show aE.length<=aE.length+0;omega
 |p::r,aE=>by
  have h1:=jj r (putK aE p.1 p.2);have h2:=iI aE p.1 p.2;show(jz (putK aE p.1 p.2) r).length<=_;rw[eT];omega
theorem mY{P:Program}{w:World}:∀{aE:List (Key×V)}{ws:List (Value×Value)},VV (aE.map λkv=>(kV kv.1,kv.2)) ws->∃rs,Carries (bj P w) ws rs/\KV aE rs
 |[],_,r=>by rw[Fp]at r;cases r;exact⟨[],True.intro,.nil⟩
 |p::aE,_,r=>by
  rw[dZ]at r;cases r with
  | @cons a b as bs h t=>
   obtain⟨rs,c,q⟩:=mY (P:=P) (w:=w) t;obtain⟨b1,b2⟩:=b;exact⟨(p.1,b2)::rs,⟨mV h.1,rfl,c⟩,.cons ⟨rfl,h.2⟩ q⟩
def Q0(jQ:List (TE×TE)):TE:=λσ H Q=>∀p,H p=none->qZ jQ σ (upd H p (.dK [])) λps H2=>H2 p=some (.dK [])/\∃aE:List (Key×V),ps=aE.map (λkv=>(kV kv.1,kv.2))/\aE.length<=15/\Q (.ref p) (upd H2 p (.dK (jz [] aE)))
def GG{X:Cx}{pos:Pos}{keys:List (Option Expr)}{values:D1}{jQ:List (TE×TE)}(h:QZ X pos keys values jQ)(Mj:keys.all (·.isSome)=true)(hl:keys.length=values.length)(h0:keys≠[])
  (YX:keys.length<=15):PE X (.Dict keys values pos) (Q0 jQ):=by
 intro ae s σ H Q I q;have hn:=I.bG.fresh (bV s.heap.objs.size);have I1:=I.laid (a:=s.heap.objs.size) (o:=.dK []) (h':=s.heap.push {cls:=.type "dict",data:=.dict #[]}) (t':=s.toks) (λ_ _ q=>Heap.get?_push_of_some _ q) (bV _) (s_ s.heap I.big);refine wpAny_Dict_walk (knd:=bj X.prog X.w) Mj hl h0 YX (bJ (h ae _ σ _ _ I1 (q _ hn)) λws s2 zz=>?_);obtain⟨ps,H2,I2,rel,e,aE,ep,lk,q2⟩:=zz;subst ep;obtain⟨rs,c,rk⟩:=mY (P:=X.prog) (w:=X.w) rel;obtain⟨z,hd,Ā,r0,dd⟩:=Co I2.bG e;cases r0;refine⟨rs,c,dd,λh' Ms hs=>⟨.ref s.heap.objs.size,_,?_,rfl,q2⟩⟩;have hz:(jz [] aE).length<=sizeLine:=by
  have h1:=jj aE [];rw[A_]at h1;rw[sizeLine_eq];omega
 have he:∃q,h'.get? s.heap.objs.size=some q:=let⟨q,_,_,hq,_⟩:=Ms;⟨q,hq⟩;exact qY I2 (by rw[e];exact True.intro) hs he (Cp hz hd (rk.merge .nil) Ms)
structure M1(X:Cx)(o:Expr)(m:Str)(bF:Pos)(e:Expr)(bP:Pos):Prop where
 base:attributeBase o m X.env (eval o X.env)=eval o X.env
 o_:((backTo bP (starEach [e] X.env)).all (λx=>!x.1)&&(backToKw bP (keywordEach [] X.env)).all (λx=>x.1.isSome)
  && decide (([e]:D1).length+([]:List Keyword).length+(if([]:List Keyword).isEmpty then 0 else 1)<30))=true
 line:(bF.endLine == bP.line)=true
 trees:backTo bP (starEach [e] X.env)=[(false,eval e X.env)]
structure M2(X:Cx)(o:Expr)(m:Str)(bF:Pos)(e f:Expr)(bP:Pos):Prop where
 base:attributeBase o m X.env (eval o X.env)=eval o X.env
 o_:((backTo bP (starEach [e,f] X.env)).all (λx=>!x.1)&&(backToKw bP (keywordEach [] X.env)).all (λx=>x.1.isSome)
  && decide (([e,f]:D1).length+([]:List Keyword).length+(if([]:List Keyword).isEmpty then 0 else 1)<30))=true
 line:(bF.endLine == bP.line)=true
 trees:backTo bP (starEach [e,f] X.env)=[(false,eval e X.env),(false,eval f X.env)]
def YY(H:Hp)(a:Addr):Prop:=(∃aE,Rd H a (.dK aE))\/∃aE,Rd H a (.dT aE)
def Mv{X:Cx}{ae:dm}{σ:St}{H:Hp}{s:Shared}{a:Addr}(I:Inv X ae σ H s)(d:YY H a) :
  s.TypeIs (.ref a) "dict" /\ (∀b,Value.ref a=.ref b->∃ob,s.heap.get? b=some ob/\ob.dict=none)/\(a == sysModules)=false:=by
 rcases d with⟨aE,e⟩|⟨aE,e⟩
 ·obtain⟨_,hd,vs,_,dd⟩:=mW I.bG e
  refine⟨dd.typeIs,λb q=>?_,hd⟩;cases q;obtain⟨ob,_,_,h1,h2,_⟩:=dd;exact⟨ob,h1,h2.2.1⟩
 ·obtain⟨_,hd,xs,_,dd⟩:=mX I.bG e
  refine⟨dd.typeIs,λb q=>?_,hd⟩;cases q;obtain⟨ob,_,_,h1,h2,_⟩:=dd;exact⟨ob,h1,h2.2.1⟩
section
variable{d:V}{r:Value}{o:Option V}
def Mw{Q:Value->Shared->Prop}(hu:A.units+1<cLine)(I:Inv X ae σ H s)(g:o9 H a y o)(ry:RelV y u)(rd:RelV d r)(h:∀w' s',Inv X ae σ H s'->RelV (o.getD d) w'->Q w' s') :
  wpAny (model X.prog X.w) A (call (.builtin "dict.get") [.ref a,u,r]) Q E s:=by
 rcases g with⟨aE,k,e,ey,l⟩|⟨aE,k,b,e,ey,eb,l⟩
 ·subst ey
  obtain⟨z,hd,vs,rel,dd⟩:=mW I.bG e;refine call_meetsIn PySem.F.slot_dict_get dd.typeIs PySem.F.entry_dict_get (PySem.F.args_dict_get_3 _ _ _) (meets_dict_get_default (bj X.prog X.w) a (mV ry) hd r) ⟨_,dd.mapOf,h _ _ (I.tok _) ?_⟩;rw[l];exact(rel.val k).getD rd
 ·subst ey
  cases(show u=Value.ref b from ry);obtain⟨z,hd,xs,rel,dd⟩:=mX I.bG e;refine call_meetsIn PySem.F.slot_dict_get dd.typeIs PySem.F.entry_dict_get (PySem.F.args_dict_get_3 _ _ _) (meetsH_dict_get_default (tupleKind (bj X.prog X.w)) a b hd r) ⟨tupleKind_room_in1 hu,k,xs,kH I.bG eb,dd,h _ _ (I.tok _) ?_⟩;rw[l];exact(rel.val k).getD rd
end
def Mx(td ty tx:TE):TE:=λσ H Q=>td σ H λx H1=>∃a,x=.ref a/\YY H1 a/\ty σ H1 λy H2=>tx σ H2 λz H3=>∃o,o9 H3 a y o/\Q (o.getD z) H3
section
variable{o e f:Expr}{bF bP:Pos}{td ty tx:TE}
def Cr(hu:X.A.units+1<cLine)(ho:PE X o td)(he:PE X e ty)(hf:PE X f tx)(m:M2 X o "get" bF e f bP):PE X (.Call (.Attribute o "get" bF) [e,f] [] bP) (Mx td ty tx):=by
 intro ae s σ H Q I h;refine wpAny_Call_method m.base m.o_ m.line PySem.F.plainAttrs_dict PySem.F.slot_dict_get PySem.F.type_dict_get (bJ (ho ae s σ H _ I h) λu s1 zz=>?_);obtain⟨x,H1,I1,rx,a,ex,d,q1⟩:=zz;subst ex
 obtain rfl:u=Value.ref a:=rx
 obtain⟨t1,t2,_⟩:=Mv I1 d;refine⟨t1,t2,?_⟩;rw[m.trees];refine Calls.callWith_builtin rfl (Calls.evalArgs_plain (Calls.spliced_cons (bJ (he ae s1 σ H1 _ I1 q1) λiv s2 ⟨y,H2,I2,ry,q2⟩=>
  Calls.spliced_cons (bJ (hf ae s2 σ H2 _ I2 q2) λfv s3 ⟨z,H3,I3,rz,ov,g,q3⟩=>Calls.spliced_nil ?_))))
 exact Mw hu I3 g ry rz λw' s4 I4 qT=>⟨_,H3,I4,qT,q3⟩
end
section
variable{aE:List (Key×V)}
end
section
end
end L2
namespace PySem
open Sem (wp)
open AutoSeq1 (wpAny_loadPart')
section
variable{prog:Program}{w:World}{A:Around}{E:Value->Shared->Prop}{s:Shared}
set_option maxHeartbeats 4000000 in
def iJ(l:Addr)(items:Array Value)(n:Nat)(iA:Option Addr)(sl:Array Dx)(t:Tok) :
  Meets (Builtin.«enumerate.__new__» ⟨[.type "enumerate",.ref l],[(Str.ofString "start",.int 1 t)]⟩) (λ_ R s=>s.heap.get? l=some {cls:=.type "list",dict:=iA,data:=.seq items n,slots:=sl} /\
   R (.ok (.ret (.ref (s.heap.push {cls:=.type "list_iterator",data:=.fields #[.ref l,.int 0 0]}).objs.size)))
    {s with heap:=(s.heap.push {cls:=.type "list_iterator",data:=.fields #[.ref l,.int 0 0]}).push {cls:=.type "enumerate",data:=.fields #[.none,.bool false,.ref s.heap.objs.size,rawInt 1,.none,.none]}}):=
 .of_wp λprog w A R s h=>by
  obtain⟨hp,g,d,tk,os⟩:=s;obtain⟨hl,h⟩:=h;have Wo:=sub_enumerate;have hL:Heap.IsList (Shared.heap ⟨hp,g,d,tk,os⟩) l items:=⟨_,hl,rfl,n,rfl⟩
  wp_walk using wpAny_loadPart' hl
  refine wpAny_stack_any λst=>wpAny_pure ?_;split
  ·rename_i c _ _ _ _ _
   cases(c == Value.type "enumerate")
   ·wp_walk using wpAny_loadPart' hl,wpAny_pyIter_list hL
    exact⟨_,rfl,h⟩
   ·wp_walk using wpAny_loadPart' hl,wpAny_pyIter_list hL
    exact⟨_,rfl,h⟩
  ·wp_walk using wpAny_loadPart' hl,wpAny_pyIter_list hL
   exact⟨_,rfl,h⟩
def jA{T newId:String}{self:Value}{rest:Bz}{kw:List (Str×Value)}(hl:typeLookup (.type T) "__init__" = pure (some (.builtin "object.__init__")))
  (hm:Bind.madeBy (.type T)=pure (some newId)) (kG:(some newId != some "object.__new__")=true) :
  Meets (Builtin.«object.__init__» ⟨self::rest,kw⟩) (λ_ R s=>s.TypeIs self T/\R (.ok (.ret .none)) s):=by
 refine Meets.of_wp λprog w A R s hs=>?_;obtain⟨hT,hq⟩:=hs;cases rest with
 |nil=>
  cases kw with
  |nil=>exact wpAny_pure ⟨_,rfl,hq⟩
  |cons a kw=>
   repeat (any_goals (first|assumption|wp_step))
   exact⟨_,rfl,hq⟩
 |cons a rest=>
  repeat (any_goals (first|assumption|wp_step))
  exact⟨_,rfl,hq⟩
def iK(a b:Value):checkTypeCall "enumerate" ⟨[a],[(Str.ofString "start",b)]⟩=pure ():=by kernel_rfl
def je(a b:Value):checkBuiltinCall "enumerate.__new__" ⟨[.type "enumerate",a],[(Str.ofString "start",b)]⟩=pure ():=by kernel_rfl
def tu(o a b:Value):argsOk "object.__init__" ⟨[o,a],[(Str.ofString "start",b)]⟩:=by
 unfold argsOk;rw[signature?_of (id := "object.__init__") (n:=['_','_','t','i','n','i','_','_']) (o:=['t','c','e','j','b','o']) (by kernel_rfl) F.owner_object];kernel_rfl
set_option maxHeartbeats 4000000 in
def kI{l:Addr}{items:Array Value}{t:Tok}{Q:Value->Shared->Prop}(hL:s.heap.IsList l items)
  (h:∀h',IsEnum h' (s.heap.objs.size+1) s.heap.objs.size 1 .none->h'.IsListIter s.heap.objs.size l 0->h'.objs.size=s.heap.objs.size+2 ->
   (∀b o,s.heap.get? b=some o->h'.get? b=some o)->Q (.ref (s.heap.objs.size+1)) {s with heap:=h'}) :
  wpAny (model prog w) A (call (.type "enumerate") [.ref l] [(Str.ofString "start",.int 1 t)]) Q E s:=by
 obtain⟨⟨c,iA,dt,sl⟩,hl,hc,n,hd⟩:=hL
 replace hc:c=.type "list" := hc
 replace hd:dt=.seq items n:=hd
 subst hc hd;have ft:=F.called_enumerate;obtain⟨c,tl,ā⟩:=ft.mro;have YZ:=ft.made;have Wo:=ft.sub;have hct:=iK (.ref l) (.int 1 t);have Q2:=je (.ref l) (.int 1 t);refine wpAny_call (codeAny_of_tree ?_);show wpAny _ _ (callAny (.type "enumerate") _) _ _ _;refine wpAny_pure ⟨Code.quiet_builtin _ (by decide +kernel),codeAny_builtin F.entry_type_call ?_⟩
 rw[Around.under_plain (weight_type_call_type "enumerate" _ _) (units_type_call_type "enumerate" _ _)];have h1:=ft.notType;have h2:=ft.canCreate
 repeat (any_goals (first|assumption|wp_step))
 have hz:(s.heap.push {cls:=.type "list_iterator",data:=.fields #[.ref l,.int 0 0]}).objs.size=s.heap.objs.size+1:=Heap.size_push ..;have he:IsEnum ((s.heap.push {cls:=.type "list_iterator",data:=.fields #[.ref l,.int 0 0]}).push
   {cls:=.type "enumerate",data:=.fields #[.none,.bool false,.ref s.heap.objs.size,rawInt 1,.none,.none]}) (s.heap.objs.size+1) s.heap.objs.size 1 .none:=by
  have:=Heap.get?_push_size (s.heap.push {cls:=.type "list_iterator",data:=.fields #[.ref l,.int 0 0]})
   (o:={cls:=.type "enumerate",data:=.fields #[.none,.bool false,.ref s.heap.objs.size,rawInt 1,.none,.none]}) rfl
  rw[hz]at this;exact this
 have fin:=h _ he ⟨_,Heap.get?_push_of_some _ (Heap.get?_push_size _ rfl),rfl,rfl⟩ (by rw[Heap.size_push,hz]) λb o x=>Heap.get?_push_of_some _ (Heap.get?_push_of_some _ x)
 refine codeAny_mono (codeAny_call_builtin ft.plain F.entry_enumerate_new (wpAny_of_eq Q2 (iJ l items n iA sl t prog w A.in1 (wants (λobj s₁=>s₁.TypeIs obj "enumerate" /\ Q obj s₁) E) s ⟨hl,?_⟩))) λr s₁ hr=>?_
 ·show _/\_
  rw[hz];exact⟨⟨_,he,rfl⟩,fin⟩
 cases r with
 |error e=>exact hr
 |ok fl=>
  cases fl with
  |ret obj=>
   obtain⟨hT,hq⟩:=hr;have Wq:=ft.init.lookup;have hbi:=ft.init.bind obj
   repeat (any_goals (first|assumption|wp_step))
   refine codeAny_mono (codeAny_call_builtin ft.init.plain F.entry_object_init (ft.init.check _ _ _ _ _ _ _ _ hT (tu _ _ _) (jA ft.init.lookup ft.made (by decide) prog w A.in1 (wants (λr s₂=>r=.none/\Q obj s₂) E) s₁ ⟨hT,rfl,hq⟩))) λr₂ s₂ hr₂=>?_
   cases r₂ with
   |error e=>exact hr₂
   |ok fl₂=>
    cases fl₂ with
    |ret r=>
     obtain⟨rfl,hq⟩:=hr₂
     repeat (any_goals (first|assumption|wp_step))
    |_=>exact hr₂.elim
  |_=>exact hr.elim
end
end PySem
namespace L2
open PySem PySem.Spec PyProof.Rows
def Cs{prog:Program}{w:World}{A:Around}{it:Addr}{fp:D2}{n:Nat}{P:Nat->Value->Prop}{St:Nat->Heap->Prop}(D:Draws prog w A it fp n P St)(m:Nat):Draws prog w A it fp (m+n) (λj x=>∃i,j=m+i/\P i x) (λj h=>∃i,j=m+i/\St i h) where
 live:=λ_ h ⟨i,_,st⟩=>D.live i h st
 frame:=λ_ h h' ⟨i,e,st⟩ k=>⟨i,e,D.frame i h h' st k⟩
 item:=λj s Q E hj ⟨i,e,st⟩ hQ=>D.item i s Q E (by omega) st λx h' tk p mF sb=>hQ x h' tk ⟨i,e,p⟩ ⟨i+1,by omega,mF⟩ sb
 done:=λs Q E ⟨i,e,st⟩ hE=>by
  have:i=n:=by omega
  subst this;exact D.done s Q E st hE
def Q3(K:bD)(m:Nat)(l:Addr)(xs:List V):It:=
 ⟨λi H=>i<xs.length/\cJ K H l xs,λi H v H'=>∃p x,H p=none/\xs[i]?=some x/\v=.ref p/\H'=upd H p (.tup [.int ((m+i:Nat):Int),x]),λi H=>i=xs.length/\cJ K H l xs⟩
def mZ{P:Program}{w:World}{K:bD}{elts:D1}{x1:Nat}{pos:Pos}{l e it:Addr}{xs:List V}{m:Nat}(Wr:e≠it)(hle:l≠e)(Wq:l≠it) :
  Turn P w K (.Tuple elts x1 pos) (Q3 K m l xs) [e,it] e (λi h=>(∃old,IsEnum h e it ((m+i:Nat):Int) old)/\h.IsListIter it l i) where
 mem:=by simp
 obj:=λi h st b hb=>by
  obtain⟨⟨old,he⟩,o1,e1,_,d1⟩:=st;simp only[gh,jV,or_false]at hb;rcases hb with rfl|rfl
  ·exact⟨_,he,λv q=>by cases q⟩
  ·exact⟨o1,e1,λv q=>by rw[d1]at q;cases q⟩
 keep:=λi h h' st k=>by
  obtain⟨⟨old,he⟩,h1⟩:=st;exact⟨⟨old,k e (by simp) _ he⟩,h1.at λo q=>k it (by simp) o q⟩
 item:=by
  intro X hP hw hK hc i ae s σ H E I hf st hg;subst hP hw hK;obtain⟨hi,hq⟩:=hg;obtain⟨⟨old,he⟩,h1⟩:=st;obtain⟨aF,rv,pl,hsz⟩:=I.list hq;obtain⟨u,hu,ru⟩:=rv.get (fj hi);have Q4:i<aF.toArray.size:=by rw[cQ,<- rv.length];exact hi
  have D:=Cs (Draws.list (prog:=X.prog) (w:=X.w) (A:=X.A.in1) (I.ok.hd hc) it l Wq aF.toArray) m;refine wpAny_pyNext_enum_itemD (n:=m+aF.toArray.size) D he ⟨i,rfl,h1,pl.isList⟩ (by omega) Wr (by simp only[gh,jV,or_false,not_or];exact⟨Wr,Ne.symm hle⟩) λx h' tk px a1 a2 a3 a4 kk=>?_
  obtain⟨i',ei,px⟩:=px
  have:i'=i:=by omega
  subst this;have hx:x=u:=by
   rw[List.getElem?_toArray,hu]at px;exact(jX.inj px).symm
  subst hx;obtain⟨i2,ei2,a2,_⟩:=a2
  have:i2=i'+1:=by omega
  subst this;refine⟨.ref s.heap.objs.size,rfl,?_⟩;refine wpAny_letOwnedTupleGo_enum (s:={s with heap:=h',toks:=tk+1}) a1 λvc b1 b2=>?_
  have lt:∀{d o},s.heap.get? d=some o->s.heap.objs.size≠d:=λe=>Fl (Heap.lt_size e);have Ă:∀b∈[e,it],s.heap.objs.size≠b:=λb hb=>by
   obtain⟨o1,e1,_⟩:=h1;simp only[gh,jV,or_false]at hb;rcases hb with rfl|rfl
   ·exact lt he
   ·exact lt e1
  have keep:∀b o,b∉[e,it]->s.heap.get? b=some o->vc.get? b=some o:=λb o hb q=>by
   simp only[gh,jV,or_false,not_or]at hb;exact(b2.2 b hb.1).trans (kk b o hb.1 hb.2 q)
  have hn:H s.heap.objs.size=none:=I.bG.fresh (bV _);have hT:vc.get? s.heap.objs.size=some {cls:=.type "tuple",data:=.seq #[.int ((m+i':Nat):Int) tk,x]}:=(b2.2 _ (lt he)).trans a3;have Q5:IsTup vc s.heap.objs.size ([.int ((m+i':Nat):Int) tk,x]:Bz).toArray:=⟨_,hT,rfl,0,rfl⟩;have Q6:∀b v,H b=some v->b∉[e,it]:=λb v q hb=>by rw[(hf b hb).1]at q;cases q
  have I1:Inv X ae σ (upd H s.heap.objs.size (.tup [.int ((m+i':Nat):Int),xs[i']])) {s with heap:=vc,toks:=tk+1}:=by
   refine I.step (g':=s.gens) (d':=s.drawn) (t':=tk+1) (ch:=[e,it]) (λb hb=>⟨(hf b hb).2.2.2.1,(hf b hb).2.1,(hf b hb).2.2.2.2.1,(hf b hb).2.2.2.2.2⟩) (λb o _ _ hb e _=>keep b o hb e) (λb o _ _ hb e _=>⟨o.slots,keep b o hb e⟩)
    (λb o hb e n=>by rw[aq (Ne.symm (lt e))];exact n) (λb o hb e=>⟨o,keep b o hb e⟩) (λb ys e=>by rw[aq (aL e hn)];exact e) (λb o v e=>by rw[aq (aL e hn)];exact e)
    (λb ps e=>⟨#[],by rw[aq (aL e hn),e];simp⟩) (λm hm=>?_) ?_ I.bare
   ·obtain⟨o,es,ep,ho,r⟩:=hm
    exact⟨o,es,ep,keep _ o (λhb=>(hf _ hb).2.1 rfl) ho,r⟩
   ·intro b v e
    by_cases hb:b=s.heap.objs.size
    ·subst hb
     rw[ai]at e;cases e;exact⟨by show 2<=sizeLine;decide,_,.cons ⟨_,rfl⟩ (.cons ru .nil),Q5⟩
    ·rw[aq hb]at e
     refine(I.bG b v e).qF (λc o hc q=>keep c o ?_ q) (λc q=>by rw[aq (aL q hn)];exact q) λc ys q=>by rw[aq (aL q hn)];exact q
     rcases hc with rfl|hc
     ·exact Q6 c v e
     ·exact Q6 c _ hc
  have eN:((m+i':Nat):Int)+1=((m+(i'+1):Nat):Int):=by omega
  refine⟨.ref s.heap.objs.size,_,I1,rfl,⟨_,_,hn,fj hi,rfl,rfl⟩,⟨⟨x,eN▸b1⟩,a2.at λo q=>(b2.2 it Wr.symm).trans q⟩,λb hb=>?_⟩;rw[aq (Ne.symm (Ă b hb))];exact(hf b hb).1
 done:=by
  intro X hP hw hK hc i ae s σ H E I hf st hg;subst hP hw hK;obtain⟨hi,hq⟩:=hg;obtain⟨⟨old,he⟩,h1⟩:=st;obtain⟨aF,rv,pl,hsz⟩:=I.list hq;have hl:=rv.length;have D:=Cs (Draws.list (prog:=X.prog) (w:=X.w) (A:=X.A.in1) (I.ok.hd hc) it l Wq aF.toArray) m;refine wpAny_pyNext_enum_endD (n:=m+aF.toArray.size) D he ⟨i,by rw[cQ];omega,h1,pl.isList⟩ λh' kk=>⟨rfl,?_⟩
  have Q6:∀b v,H b=some v->b∉[e,it]:=λb v q hb=>by rw[(hf b hb).1]at q;cases q
  have keep:∀b o,b∉[e,it]->s.heap.get? b=some o->h'.get? b=some o:=λb o hb q=>by
   simp only[gh,jV,or_false,not_or]at hb;exact kk b o hb.2 q
  refine I.step (g':=s.gens) (d':=s.drawn) (t':=s.toks) (ch:=[e,it]) (λb hb=>⟨(hf b hb).2.2.2.1,(hf b hb).2.1,(hf b hb).2.2.2.2.1,(hf b hb).2.2.2.2.2⟩) (λb o _ _ hb e _=>keep b o hb e) (λb o _ _ hb e _=>⟨o.slots,keep b o hb e⟩)
   (λb o hb e n=>n) (λb o hb e=>⟨o,keep b o hb e⟩) (λ_ _ e=>e) (λ_ _ _ e=>e) (λb ps e=>⟨#[],by rw[e];simp⟩) (λm hm=>?_) (λb v e=>?_) I.bare
  ·obtain⟨o,es,ep,ho,r⟩:=hm
   exact⟨o,es,ep,keep _ o (λhb=>(hf _ hb).2.1 rfl) ho,r⟩
  ·refine(I.bG b v e).qF (λc o hc q=>keep c o ?_ q) (λ_ q=>q) λ_ _ q=>q
   rcases hc with rfl|hc
   ·exact Q6 c v e
   ·exact Q6 c _ hc
 self:=λ_ _ _ _ _ st h=>by obtain⟨⟨old,he⟩,_⟩:=st;exact wpAny_pyIter_enum he h
section
variable{X:Cx}
def My(K:bD)(m:Nat)(ta:TA):TI:=λσ H R=>ta σ H λvs H1=>∃l xs,vs=[.ref l]/\cJ K H1 l xs/\R (Q3 K m l xs) H1
def Q7{a:Expr}{ta:TA}{elts:D1}{x1:Nat}{oV p pos:Pos}(hg:Gl X "enumerate")(hm:X.mg "enumerate" = none)(ha:PA X [a] ta)(hs:starEach [a] X.env=[(false,eval a X.env)]) :
  PI X (.Tuple elts x1 oV) (.Call (.Name "enumerate" p) [a] [] pos) (My X.K 0 ta):=by
 intro ae s σ H R I h;refine Call_ (fk I hg hm J1 (zo (bJ (ha pos ae s σ H _ I h) λus s1 ⟨vs,H1,I1,r1,q1⟩=>?_) (by rw[hs];rfl) rfl))
 obtain⟨l,xs,e,hq,q⟩:=q1;subst e;obtain⟨u,rfl,rx⟩:=vals1 r1;cases rx;obtain⟨aF,rv,pl,hz⟩:=I1.list hq;refine call_enumerate_list pl.isList λh' a1 a2 _ kk=>wpAny_pyIter_enum (s:={s1 with heap:=h'}) a1 ?_
 have ll:l<s1.heap.objs.size:=let⟨_,e,_⟩:=pl.isList;Heap.lt_size e;refine⟨s1.heap.objs.size+1,_,_,_,H1,rfl,I1.kept (t':=s1.toks) kk,mZ (l:=l) (it:=s1.heap.objs.size) (Fl (vj _)) (fG (A5 ll)) (fG ll),⟨⟨_,a1⟩,a2⟩,λb hb=>?_,q⟩;have Kh:s1.heap.objs.size<=b:=by
  simp only[gh,jV,or_false]at hb;rcases hb with rfl|rfl
  ·exact A2 _ _
  ·exact bV _
 exact I1.oU Kh (I1.bG.fresh Kh)
def Mz{a:Expr}{ta:TA}{elts:D1}{x1 k1:Nat}{oV p pos p1 kp:Pos}(hg:Gl X "enumerate")(hm:X.mg "enumerate" = none)(ha:PA X [a] ta)(hs:starEach [a] X.env=[(false,eval a X.env)]) :
  PI X (.Tuple elts x1 oV) (.Call (.Name "enumerate" p) [a] [⟨some (Str.ofString "start"),.Constant (.int 1) k1 p1,kp⟩] pos) (My X.K 1 ta):=by
 intro ae s σ H R I h;refine wpAny_Call_Name_kw (fk I hg hm J1 ?_);refine Jl (P:=λ_=>True) (by rw[hs];rfl) (λh _=>⟨.machine,.inr (.inl rfl),.now⟩) ?_
 refine J2 rfl (bJ (ha pos ae s σ H _ I h) λus s1 ⟨vs,H1,I1,r1,q1⟩=>?_) hs;show wpAny _ _ (evalAll [(do let v <- eval (.Constant (.int 1) k1 p1) X.env;standAt pos;pure v)]) _ _ s1
 refine wpAny_evalAll_cons (wpAny_bind (wpAny_Constant_int (wpAny_bind (wpAny_standAt (wpAny_pure (wpAny_evalAll_nil ⟨trivial,?_⟩))))));obtain⟨l,xs,e,hq,q⟩:=q1;subst e;obtain⟨u,rfl,rx⟩:=vals1 r1;cases rx;have I2:Inv X ae σ H1 {s1 with toks:=s1.toks+1}:=I1.tok _
 obtain⟨aF,rv,pl,hz⟩:=I2.list hq;show wpAny _ _ (call (.type "enumerate") [.ref l] [(Str.ofString "start",.int 1 s1.toks)]) _ _ {s1 with toks:=s1.toks+1}
 refine kI pl.isList λh' a1 a2 _ kk=>wpAny_pyIter_enum (s:={s1 with heap:=h',toks:=s1.toks+1}) a1 ?_
 have ll:l<s1.heap.objs.size:=let⟨_,e,_⟩:=pl.isList;Heap.lt_size e;refine⟨s1.heap.objs.size+1,_,_,_,H1,rfl,I2.kept (t':=s1.toks+1) kk,mZ (m:=1) (l:=l) (it:=s1.heap.objs.size) (Fl (vj _)) (fG (A5 ll)) (fG ll),⟨⟨_,a1⟩,a2⟩,λb hb=>?_,q⟩;have Kh:s1.heap.objs.size<=b:=by
  simp only[gh,jV,or_false]at hb;rcases hb with rfl|rfl
  ·exact A2 _ _
  ·exact bV _
 exact I2.oU Kh (I2.bG.fresh Kh)
end
end L2
namespace D
inductive Ky where
 |i (n:Int)|s (l:Bi)
 deriving DecidableEq
inductive T where
 |non|bl (b:Bool)|int (i:Int)|str (l:Bi)|tup (xs:List T)|lst (xs:List T)
 |scr (ns:Fh)
 |obj (c:Nat) (fs:List T)
 |own (k:Nat)
 |iA (ks:List Ky) (vs:List T)
inductive C where
 |val (t:T)|ol (ts:List T)|od (ks:List Ky) (vs:List T)
 |yg (t:T)
structure Ob where
 c:Nat
 fs:List C
structure S where
 r:List (Option C)
 m:List Ob
abbrev FK:=List (Option C)
abbrev FR:=Option (List T)
abbrev FV:=List T
abbrev FX:=Option T
abbrev He:=List Ob
inductive Res(α:Type) where
 |ok (a:α)|bad
 |exc (c:Nat) (fs:FV) (s:S)
noncomputable def Res.bind{α β:Type}(x:Res α)(f:α->Res β):Res β:=match x with
 |.ok a=>f a
 |.bad=>.bad
 |.exc c fs s=>.exc c fs s
def aa{α β:Type}{x:Res α}{f:α->Res β}{b:β}(h:x.bind f=.ok b):∃a,x=.ok a/\f a=.ok b:=by
 cases x with
 |ok a=>exact⟨a,rfl,h⟩
 |bad=>cases h
 |exc c fs s=>cases h
noncomputable def aT{α:Type}:Option α->Res α
 |some a=>.ok a
 |none=>.bad
def aj{α:Type}{o:Option α}{a:α}(h:aT o=.ok a):o=some a:=by
 cases o with
 |none=>cases h
 |some b=>cases h;rfl
noncomputable def gd{α:Type}(p:Prop)[Decidable p](x:α):Option α:=if p then some x else none
def aZ{α:Type}{p:Prop}[Decidable p]{x a:α}(h:gd p x=some a):p/\x=a:=by
 unfold gd at h;split at h
 ·rename_i q;cases h;exact⟨q,rfl⟩
 ·cases h
abbrev FE:=S->Res (T×S)
abbrev FT:=S->Res (Bool×S)
abbrev FL:=S->Res (FV×S)
inductive Out where
 |nx|rt (t:T)|bk|ct
abbrev FS:=S->Res (Out×S)
abbrev Fn:=FV->He->Res (T×He)
def Q8:T->T->FX
 |.int i,.int j=>some (.int (i+j))
 |.str a,.str b=>gd (a.length+b.length<=1000000) (.str (a++b))
 |.lst a,.lst b=>gd (a.length+b.length<=1000000) (.lst (a++b))
 |_,_=>none
def Q9:T->T->FX
 |.int i,.int j=>some (.int (i-j))
 |_,_=>none
def Q_:T->T->FX
 |.int i,.int j=>gd (((-(2^64)<i/\i<2^64)\/(-(2^64)<j/\j<2^64))\/(i.natAbs.log2<2000000/\j.natAbs.log2<2000000)) (.int (i*j))
 |.lst a,.int k=>gd (k<1000000/\-1000000<k/\a.length*k.toNat<=1000000) (.lst (bX k.toNat a).flatten)
 |.str a,.int k=>gd (2<=k/\k<1000000/\a≠[]/\a.length*k.toNat<=1000000) (.str (bX k.toNat a).flatten)
 |_,_=>none
def Ra:T->T->FX
 |.int i,.int j=>gd (0<j/\j<1073741824) (.int (i/j))
 |_,_=>none
def Rb:T->T->FX
 |.int i,.int j=>gd (0<j) (.int (i % j))
 |_,_=>none
def j3:T->FX
 |.int i=>some (.int (-i))
 |_=>none
def Ct(f:Int->Int->Bool):T->T->FX
 |.int i,.int j=>some (.bl (f i j))
 |_,_=>none
mutual
noncomputable def eqT:T->T->Bool
 |.non,.non=>true
 |.bl a,.bl b=>a == b
 |.int a,.int b=>decide (a=b)
 |.bl a,.int b=>decide ((if a then 1 else 0:Int)=b)
 |.int a,.bl b=>decide (a=(if b then 1 else 0:Int))
 |.str a,.str b=>decide (a=b)
 |.tup a,.tup b=>jB a b
 |.lst a,.lst b=>jB a b
 |.scr a,.scr b=>decide (a=b)
 |.obj c a,.obj d b=>decide (c=d)&&jB a b
 |.own a,.own b=>decide (a=b)
 |.iA ks a,.iA ls b=>decide (ks=ls)&&jB a b
 |_,_=>false
noncomputable def jB:FV->FV->Bool
 |[],[]=>true
 |a::as,b::bs=>eqT a b&&jB as bs
 |_,_=>false
end
mutual
theorem m_:∀t:T,eqT t t=true
 |.non=>rfl
 |.bl b=>by cases b<;>rfl
 |.int i=>decide_eq_true rfl
 |.str l=>decide_eq_true rfl
 |.tup xs=>gF xs
 |.lst xs=>gF xs
 |.scr ns=>decide_eq_true rfl
 |.obj c xs=>by
  show(decide (c=c)&&jB xs xs)=true;rw[decide_eq_true rfl,gF xs];rfl
 |.own k=>decide_eq_true rfl
 |.iA ks xs=>by
  show(decide (ks=ks)&&jB xs xs)=true;rw[decide_eq_true rfl,gF xs];rfl
theorem gF:∀ts:FV,jB ts ts=true
 |[]=>rfl
 |t::ts=>by
  show(eqT t t&&jB ts ts)=true;rw[m_ t,gF ts];rfl
end
def bK:T->Bool
 |.bl _=>true
 |.int _=>true
 |.str _=>true
 |.non=>true
 |_=>false
def all2(p:T->T->Bool):FV->FV->Bool
 |a::as,b::bs=>p a b&&all2 p as bs
 |_,_=>true
def shape:Nat->T->T->Bool
 |_+1,.lst as,.lst bs=>all2 (λa b=>bK a&&bK b) as bs
 |_,a,b=>bK a&&bK b
def Ws:T->T->FX:=λa b=>gd (shape 5 a b=true) (.bl (eqT a b))
def Y0:T->T->FX:=λa b=>gd (shape 5 a b=true) (.bl (!eqT a b))
def Wt:T->T->FX
 |.bl a,.bl b=>some (.bl (a == b))
 |.non,.non=>some (.bl true)
 |.own _,.own _=>none
 |_,.non=>some (.bl false)
 |_,_=>none
def MA:T->T->FX
 |.bl a,.bl b=>some (.bl (a != b))
 |.non,.non=>some (.bl false)
 |.own _,.own _=>none
 |_,.non=>some (.bl true)
 |_,_=>none
def Wu:Bi->Bi->Bool
 |[c],l=>decide (c∈l)
 |x,l=>(cP (l.length+1)).any λi=>decide (i+x.length<=l.length)&&((l.drop i).take x.length == x)
def Pd:T->T->Option Bool
 |.str x,.str l=>some (Wu x l)
 |x,.tup ys=>gd (bK x=true/\ys.all bK=true) (ys.any λy=>eqT y x)
 |x,.lst ys=>gd (bK x=true/\ys.all bK=true) (ys.any λy=>eqT y x)
 |_,_=>none
def inD:T->T->FX:=λx y=>(Pd x y).map .bl
def MB:T->T->FX:=λx y=>(Pd x y).map λb=>.bl (!b)
noncomputable def atT{α:Type}(xs:List α)(i:Int):Option α:=if 0<=i then(if i<xs.length then xs[i.toNat]? else none)else if -(xs.length:Int)<=i then xs[(i+xs.length).toNat]? else none
def dG(ks:List Ky)(vs:FV)(k:Ky):FX:=match ks,vs with
 |a::ks,v::vs=>if a=k then some v else dG ks vs k
 |_,_=>none
def putK:List Ky->FV->Ky->T->List Ky×FV
 |a::ks,v::vs,k,t=>if a=k then(a::ks,t::vs)else let p:=putK ks vs k t;(a::p.1,v::p.2)
 |_,_,k,t=>([k],[t])
def iL:T->Option Ky
 |.int i=>some (.i i)
 |.str l=>some (.s l)
 |_=>none
def GH:T->T->FX
 |.lst xs,.int i=>atT xs i
 |.tup xs,.int i=>atT xs i
 |.str l,.int i=>(atT l i).map λc=>.str [c]
 |.scr ns,.int i=>(atT ns i).map .int
 |.iA ks vs,x=>(iL x).bind (dG ks vs)
 |_,_=>none
def Cu:T->FX
 |.str l=>some (.int l.length)
 |.tup xs=>some (.int xs.length)
 |.lst xs=>some (.int xs.length)
 |.scr ns=>some (.int ns.length)
 |.iA ks _=>some (.int ks.length)
 |_=>none
def gK(n d:Nat):Ee->Nat
 |none=>d
 |some v=>if v<0 then(v+(n:Int)).toNat else min v.toNat n
noncomputable def cA{α:Type}(xs:List α)(lo hi:Ee):List α:=(xs.drop (gK xs.length 0 lo)).take (gK xs.length xs.length hi-gK xs.length 0 lo)
def AK(lo hi:Ee):T->FX
 |.str l=>some (.str (cA l lo hi))
 |.lst l=>some (.lst (cA l lo hi))
 |.scr ns=>some (.lst ((cA ns lo hi).map .int))
 |_=>none
def GI:T->Option Bool
 |.bl b=>some b
 |.lst ts=>some (!ts.isEmpty)
 |_=>none
noncomputable def strsOf:FV->Option Ap
 |[]=>some []
 |.str l::ts=>(strsOf ts).map (l::·)
 |_=>none
noncomputable def cV(sep:Bi):Ap->Bi
 |[]=>[]
 |[a]=>a
 |a::b::r=>a++sep++cV sep (b::r)
def Kl:T->T->FX
 |.str sep,.lst ts=>(strsOf ts).bind λys=>gd ((ys.map (·.length)).sum+ys.length*sep.length<=1000000) (.str (cV sep ys))
 |_,_=>none
noncomputable def pre(s l:Bi):Bool:=decide (s.length<=l.length)&&(l.take s.length == s)
noncomputable def U3(s l:Bi):Bool:=decide (s.length<=l.length)&&(l.drop (l.length-s.length) == s)
def boolsOf:FV->Option FC
 |[]=>some []
 |.bl b::ts=>(boolsOf ts).map (b::·)
 |_=>none
def GJ:T->FX
 |.lst ts=>(boolsOf ts).map λbs=>.bl (bs.all id)
 |_=>none
def MC:T->FX
 |.lst ts=>(boolsOf ts).map λbs=>.bl (bs.any id)
 |_=>none
def Km:T->FX
 |.lst a=>some (.lst a)
 |.tup a=>some (.lst a)
 |_=>none
def aQ:FE:=λ_=>.bad
def cF(t:T):FE:=λs=>.ok (t,s)
def jR(s:S)(i:Nat)(c:C):S:={s with r:=s.r.set i (some c)}
noncomputable def vF(i:Nat):FE:=λs=>match s.r[i]? with
 |some (some (.val t))=>.ok (t,s)
 |some (some (.ol ts))=>.ok (.lst ts,jR s i (.val (.lst ts)))
 |some (some (.od ks ts))=>.ok (.iA ks ts,jR s i (.val (.iA ks ts)))
 |_=>.bad
def dq(g:T->FX)(a:FE):FE:=λs=>(a s).bind λp=>(aT (g p.1)).bind λt=>.ok (t,p.2)
def bA(g:T->T->FX)(a b:FE):FE:=λs=>(a s).bind λp=>(b p.2).bind λq=>(aT (g p.1 q.1)).bind λt=>.ok (t,q.2)
def ba:FL:=λs=>.ok ([],s)
def bH(a:FE)(r:FL):FL:=λs=>(a s).bind λp=>(r p.2).bind λq=>.ok (p.1::q.1,q.2)
def fQ:FL:=λ_=>.bad
def bz(g:FV->FX)(a:FL):FE:=λs=>(a s).bind λp=>(aT (g p.1)).bind λt=>.ok (t,p.2)
def gq(ts:FV):FX:=gd (ts.length<=1000) (.tup ts)
def dj(ts:FV):FX:=gd (ts.length<=1000) (.lst ts)
def pe:FT:=λ_=>.bad
def tB(a:FE):FT:=λs=>(a s).bind λp=>(aT (GI p.1)).bind λb=>.ok (b,p.2)
def gu(a b:FT):FT:=λs=>(a s).bind λp=>if p.1 then b p.2 else .ok (false,p.2)
def vd(a b:FT):FT:=λs=>(a s).bind λp=>if p.1 then .ok (true,p.2)else b p.2
def dH(a:FT):FT:=λs=>(a s).bind λp=>.ok (!p.1,p.2)
def fm:FT:=λs=>.ok (true,s)
def MD:T->Option Bool
 |.bl b=>some b
 |_=>none
def ng(a b:FE):FE:=λs=>(a s).bind λp=>(aT (MD p.1)).bind λk=>if k then b p.2 else .ok (.bl false,p.2)
def Pe(a b:FE):FE:=λs=>(a s).bind λp=>(aT (MD p.1)).bind λk=>if k then .ok (.bl true,p.2)else b p.2
def nh(a:FE):FE:=λs=>(a s).bind λp=>(aT (MD p.1)).bind λk=>.ok (.bl (!k),p.2)
def xH(c:FT)(a b:FE):FE:=λs=>(c s).bind λp=>if p.1 then a p.2 else b p.2
abbrev FO:=S->Res (Ee×S)
def q_:FO:=λs=>.ok (none,s)
def Rf:T->Ee
 |.int i=>some i
 |_=>none
def ni(a:FE):FO:=λs=>(a s).bind λp=>(aT (Rf p.1)).bind λi=>.ok (some i,p.2)
def ph(a:FE)(lo hi:FO):FE:=λs=>(a s).bind λp=>(lo p.2).bind λq=>(hi q.2).bind λz=>(aT (AK q.1 z.1 p.1)).bind λt=>.ok (t,z.2)
def pj:Option (Option C)->FR
 |some (some (.ol ts))=>some ts
 |_=>none
def jk(i:Nat):FE:=λs=>(aT (pj s.r[i]?)).bind λts=>.ok (.int ts.length,s)
def lU(i:Nat)(b:FE):FE:=λs=>(aT (pj s.r[i]?)).bind λ_=>(b s).bind λp=>(aT (pj p.2.r[i]?)).bind λts=>(aT (GH (.lst ts) p.1)).bind λt=>.ok (t,p.2)
def iM(tab:Ap)(c f:Nat):Option Nat:=(tab[c]?).bind λns=>ns.idxOf? f
def au(tab:Ap)(f:Nat)(a:FE):FE:=λs=>(a s).bind λp=>match p.1 with
 |.obj c fs=>(aT ((iM tab c f).bind λj=>fs[j]?)).bind λt=>.ok (t,p.2)
 |.own k=>(aT ((p.2.m[k]?).bind λob=>(iM tab ob.c f).bind λj=>ob.fs[j]?)).bind λc=>(match c with
  |.val t=>.ok (t,p.2)
  |_=>.bad)
 |_=>.bad
def fH(c n:Nat)(fl:FL):FE:=λs=>(fl s).bind λp=>if p.1.length=n then .ok (.obj c p.1,p.2)else .bad
def iN(c:Nat)(g:Fn)(fl:FL):FE:=λs=>(fl s).bind λp=>match g (.own p.2.m.length::p.1) (p.2.m++[⟨c,[]⟩])with
 |.ok (.non,m')=>.ok (.own p.2.m.length,{p.2 with m:=m'})
 |.exc c fs s'=>.exc c fs {p.2 with m:=s'.m}
 |_=>.bad
def GK(c:Nat):T->FX
 |.lst ts=>some (.obj c [.lst ts])
 |_=>none
def aw(g:Fn)(ds:FV)(fl:FL):FE:=λs=>(fl s).bind λp=>match g (p.1++ds) p.2.m with
 |.ok q=>.ok (q.1,{p.2 with m:=q.2})
 |.bad=>.bad
 |.exc c fs s'=>.exc c fs {p.2 with m:=s'.m}
def av(g:Nat->Option Fn)(o:FE)(fl:FL):FE:=λs=>(o s).bind λp=>match p.1 with
 |.own k=>(aT ((p.2.m[k]?).bind λob=>g ob.c)).bind λh=>aw h [] (λs=>(fl s).bind λq=>.ok (.own k::q.1,q.2)) p.2
 |.obj c fs=>(aT (g c)).bind λh=>aw h [] (λs=>(fl s).bind λq=>.ok (.obj c fs::q.1,q.2)) p.2
 |_=>.bad
def U4:T->FR
 |.lst ts=>some ts
 |.tup ts=>some ts
 |.str l=>some (l.map λc=>.str [c])
 |.scr ns=>some (ns.map .int)
 |_=>none
def k7(a:FE):FL:=λs=>(a s).bind λp=>(aT (U4 p.1)).bind λts=>.ok (ts,p.2)
def i0(lo:Int)(n:Nat):FV:=(cP n).map λk=>.int (lo+(k:Nat))
def nj:FV->FR
 |[.int j]=>gd (j<1000000/\-1000000<j) (i0 0 j.toNat)
 |[.int i,.int j]=>gd (i<1000000/\-1000000<i/\j<1000000/\-1000000<j) (i0 i (j-i).toNat)
 |[.int i,.int j,.int k]=>gd (k=-1/\i<1000000/\-1000000<i/\j<1000000/\-1000000<j) ((cP (i-j).toNat).map λk=>.int (i-(k:Nat)))
 |_=>none
def vR(g:FV->FR)(a:FL):FL:=λs=>(a s).bind λp=>(aT (g p.1)).bind λts=>.ok (ts,p.2)
def fR:Int->FV->FV
 |_,[]=>[]
 |n,t::ts=>.tup [.int n,t]::fR (n+1) ts
def Rg(n:Int):T->FR
 |.lst ts=>some (fR n ts)
 |_=>none
def jl(n:Int)(a:FE):FL:=λs=>(a s).bind λp=>(aT (Rg n p.1)).bind λts=>.ok (ts,p.2)
abbrev FG:=T->FK->Option FK
def setG(i:Nat):FG:=λt r=>some (r.set i (some (.val t)))
def xJ:Bi->FV->FK->Option FK
 |[],[],r=>some r
 |i::is,t::ts,r=>xJ is ts (r.set i (some (.val t)))
 |_,_,_=>none
def gG(is:Bi):FG:=λt r=>match t with
 |.tup ts=>xJ is ts r
 |_=>none
def z6(r:FK)(j:Nat):FK:=match r[j]? with
 |some (some (.ol ts))=>r.set j (some (.val (.lst ts)))
 |_=>r
def kJ:Bi->FK->FK
 |[],r=>r
 |j::js,r=>kJ js (z6 r j)
def jC(k:Nat)(js:Bi)(r:FK):FK:=bX k none++js.map λj=>match r[j]? with
 |some (some (.val t))=>some (.val t)
 |_=>none
def dw(g:FG)(c:FT)(e:FE)(b:FK):FV->He->Res (FV×He)
 |[],m=>.ok ([],m)
 |t::ts,m=>(aT (g t b)).bind λb1=>(c ⟨b1,m⟩).bind λp=>if p.1 then(e p.2).bind λq=>(dw g c e b ts q.2.m).bind λz=>.ok (q.1::z.1,z.2)else dw g c e b ts p.2.m
def cC(src:FL)(k:Nat)(js:Bi)(g:FG)(c:FT)(e:FE):FL:=λs=>(src s).bind λp=>if p.1.length<=1000000 then
  (dw g c e (jC k js (kJ js p.2.r)) p.1 p.2.m).bind λq=>.ok (q.1,⟨kJ js p.2.r,q.2⟩)else .bad
def fq(fl:FL):FE:=λs=>(fl s).bind λp=>.ok (.lst p.1,p.2)
def aC:FS:=λs=>.ok (.nx,s)
def cW:FS:=λ_=>.bad
def af(a b:FS):FS:=λs=>(a s).bind λp=>match p.1 with
 |.nx=>b p.2
 |o=>.ok (o,p.2)
def aI(i:Nat)(a:FE):FS:=λs=>(a s).bind λp=>.ok (.nx,jR p.2 i (.val p.1))
def gX(i:Nat)(a:FL):FS:=λs=>(a s).bind λp=>.ok (.nx,jR p.2 i (.ol p.1))
def aA(a:FE):FS:=λs=>(a s).bind λp=>.ok (.rt p.1,p.2)
def aK(a:FE):FS:=λs=>(a s).bind λp=>.ok (.nx,p.2)
def aR(c:FT)(a b:FS):FS:=λs=>(c s).bind λp=>if p.1 then a p.2 else b p.2
def Ri:FS:=λs=>.ok (.bk,s)
def Rj:FS:=λs=>.ok (.ct,s)
def iO(i:Nat)(a:FE):FS:=λs=>(aT (pj s.r[i]?)).bind λ_=>(a s).bind λp=>(aT (pj p.2.r[i]?)).bind λts=>(aT (gd (ts.length<1000000) ts)).bind λts=>.ok (.nx,jR p.2 i (.ol (ts++[p.1])))
def cU(i:Nat)(b a:FE):FS:=λs=>(a s).bind λp=>(aT (pj p.2.r[i]?)).bind λ_=>(b p.2).bind λq=>(aT (pj q.2.r[i]?)).bind λts=>(aT (Rf q.1)).bind λj=>(aT (gd (0<=j/\j<ts.length) (ts.set j.toNat p.1))).bind λus=>.ok (.nx,jR q.2 i (.ol us))
def tD(g:T->T->FX)(i:Nat)(a:FE):FS:=λs=>match s.r[i]? with
 |some (some (.val x))=>(a s).bind λp=>(aT (g x p.1)).bind λt=>.ok (.nx,jR p.2 i (.val t))
 |_=>.bad
def setAt(fs:List C)(j:Nat)(c:C):Option (List C):=if j<fs.length then some (fs.set j c)else if j=fs.length then some (fs++[c])else none
def cX(tab:Ap)(f:Nat)(c:C)(ob:Ob):Option Ob:=(iM tab ob.c f).bind λj=>(setAt ob.fs j c).map λfs=>⟨ob.c,fs⟩
def aJ(tab:Ap)(f:Nat)(o a:FE):FS:=λs=>(a s).bind λp=>(o p.2).bind λq=>match q.1 with
 |.own k=>(aT ((q.2.m[k]?).bind (cX tab f (.val p.1)))).bind λob=>.ok (.nx,{q.2 with m:=q.2.m.set k ob})
 |_=>.bad
def bZ(g:FG)(b:FS):FV->FS
 |[],s=>.ok (.nx,s)
 |t::ts,s=>(aT (g t s.r)).bind λr=>(b ⟨r,s.m⟩).bind λp=>match p.1 with
  |.nx=>bZ g b ts p.2
  |.ct=>bZ g b ts p.2
  |.bk=>.ok (.nx,p.2)
  |.rt t=>.ok (.rt t,p.2)
def f6(src:FL)(g:FG)(b:FS):FS:=λs=>(src s).bind λp=>bZ g b p.1 p.2
def dN(c:FT)(b:FS):Nat->FS
 |0,_=>.bad
 |n+1,s=>(c s).bind λp=>if p.1 then(b p.2).bind λq=>(match q.1 with
  |.nx=>dN c b n q.2
  |.ct=>dN c b n q.2
  |.bk=>.ok (.nx,q.2)
  |.rt t=>.ok (.rt t,q.2))else .ok (.nx,p.2)
def gY(n:Nat)(c:FT)(b:FS):FS:=dN c b n
def ig(c:Nat)(fl:FL):FE:=λs=>(fl s).bind λp=>.ok (.own p.2.m.length,{p.2 with m:=p.2.m++[⟨c,[.ol p.1]⟩]})
def aG(np n:Nat)(b:FS):Fn:=λts m=>if ts.length=np then(b ⟨ts.map (λt=>some (.val t))++bX (n-ts.length) none,m⟩).bind λp=>match p.1 with
 |.rt t=>.ok (t,p.2.m)
 |.nx=>.ok (.non,p.2.m)
 |_=>.bad else .bad
mutual
def noOwn:T->Bool
 |.own _=>false
 |.tup xs=>aW xs
 |.lst xs=>aW xs
 |.obj _ xs=>aW xs
 |.iA _ xs=>aW xs
 |_=>true
def aW:FV->Bool
 |[]=>true
 |t::ts=>noOwn t&&aW ts
end
noncomputable def aU(g:Fn):Fn:=λts m=>if aW ts=true then(match g ts []with
 |.ok q=>if noOwn q.1=true then .ok (q.1,m)else .bad
 |.bad=>.bad
 |.exc c fs s=>if aW fs=true then .exc c fs ⟨s.r,m⟩else .bad)else .bad
end D
namespace D
open PySem L2
abbrev SV(l:Bi):V:=.str ⟨l.toArray⟩
structure KT where
 K:bD
 P:Program
 w:World
 cn:BM
 fn:List BM
def iP(B:KT)(c:Nat)(C:Addr)(ns:BM):Prop:=∃n,B.cn[c]?=some n/\B.fn[c]?=some ns/\ns.Nodup/\oJ B.K mainGlobals n=some (some (.ref C))
def iP.eq{B:KT}{c:Nat}{C C':Addr}{ns E6:BM}(h:iP B c C ns)(h':iP B c C' E6):C=C'/\ns=E6:=by
 obtain⟨n,a,b,_,d⟩:=h;obtain⟨n',a',b',_,d'⟩:=h';rw[a]at a';cases a';rw[b]at b';cases b';rw[d]at d';cases d';exact⟨rfl,rfl⟩
def jS:Ky->Key
 |.i n=>.inl n
 |.s l=>.inr ⟨l.toArray⟩
inductive iQ where
 |loc (i:Nat)|ob (k:Nat)|fld (k j:Nat)
 deriving DecidableEq
structure G where
 HF:Hp
 o:Addr->Option iQ
 al:D2
mutual
def Rep(B:KT)(al:D2)(H:Hp):T->V->Prop
 |.non,v=>v=.non
 |.bl b,v=>v=.bl b
 |.int i,v=>v=.int i
 |.str l,v=>v=SV l/\l.length<=1000000
 |.tup ts,v=>∃a vs,v=.ref a/\lO B.K H a vs/\aB B al H ts vs
 |.lst ts,v=>∃a vs,v=.ref a/\H a=some (.lst vs)/\aB B al H ts vs
 |.scr ns,v=>∃a,v=.ref a/\cJ B.K H a (ns.map V.int)
 |.obj c ts,v=>∃a C dx ns vs,v=.ref a/\iP B c C ns/\H a=some (.ins C dx (ns.zip vs))/\vs.length<=ns.length/\H dx=some (.own a)/\aB B al H ts vs
 |.own k,v=>∃a,v=.ref a/\al[k]?=some a
 |.iA ks ts,v=>∃a vs,v=.ref a/\H a=some (.dK ((ks.map jS).zip vs))/\ks.length=vs.length/\aB B al H ts vs
def aB(B:KT)(al:D2)(H:Hp):FV->List V->Prop
 |[],vs=>vs=[]
 |t::ts,vs=>∃v r,vs=v::r/\Rep B al H t v/\aB B al H ts r
end
def cY{K:bD}{H H':Hp}(s:aO H H'){a:Addr}{xs:List V}(q:lO K H a xs):lO K H' a xs:=by
 rcases q with(q|⟨o,q⟩)|q
 ·exact .inl (.inl (s _ _ q))
 ·exact .inl (.inr ⟨o,s _ _ q⟩)
 ·exact .inr q
def bL{α:Type}{l m:List α}(p:l <+: m){k:Nat}{a:α}(h:l[k]?=some a):m[k]?=some a:=by
 obtain⟨r,rfl⟩:=p;rw[gi (c_.mp h).1];exact h
variable{X:Cx}{a b c e:Expr}{fa fb fc:FE}{g g':G}{H H':Hp}{B:KT}{p pos:Pos}{s s':S}{σ:St}
variable{al GL:D2}{HF gb:Hp}
mutual
theorem Rep.mv(p:al <+: GL)(s:aO H H'):∀{t:T}{v:V},Rep B al H t v->Rep B GL H' t v
 |.non,_,h=>h
 |.bl _,_,h=>h
 |.int _,_,h=>h
 |.str _,_,h=>h
 |.tup ts,_,h=>by
  obtain⟨a,vs,e,q,r⟩:=h;exact⟨a,vs,e,cY s q,aB.mv p s r⟩
 |.lst ts,_,h=>by
  obtain⟨a,vs,e,q,r⟩:=h;exact⟨a,vs,e,s _ _ q,aB.mv p s r⟩
 |.scr ns,_,h=>by
  obtain⟨a,e,q⟩:=h;exact⟨a,e,s.seq q⟩
 |.obj c ts,_,h=>by
  obtain⟨a,C,dx,ns,vs,e,z,q,l,q2,r⟩:=h;exact⟨a,C,dx,ns,vs,e,z,s _ _ q,l,s _ _ q2,aB.mv p s r⟩
 |.own k,_,h=>by
  obtain⟨a,e,q⟩:=h;exact⟨a,e,bL p q⟩
 |.iA ks ts,_,h=>by
  obtain⟨a,vs,e,q,l,r⟩:=h;exact⟨a,vs,e,s _ _ q,l,aB.mv p s r⟩
theorem aB.mv(p:al <+: GL)(s:aO H H'):∀{ts:FV}{vs:List V},aB B al H ts vs->aB B GL H' ts vs
 |[],_,h=>h
 |t::ts,_,h=>by
  obtain⟨v,r,e,h1,h2⟩:=h;exact⟨v,r,e,Rep.mv p s h1,aB.mv p s h2⟩
end
def Rep.same(s:aO H H'){t:T}{v:V}(h:Rep B al H t v):Rep B al H' t v:=h.mv d_ s
def aB.same(s:aO H H'){t:FV}{v:List V}(h:aB B al H t v):aB B al H' t v:=h.mv d_ s
theorem aB.len:∀{ts:FV}{vs:List V},aB B al H ts vs->ts.length=vs.length
 |[],_,h=>by cases(show _=[]from h);rfl
 |t::ts,_,h=>by
  obtain⟨v,r,rfl,_,h2⟩:=h;simp[aB.len h2]
theorem aB.get:∀{ts:FV}{vs:List V},aB B al H ts vs->∀{i:Nat}{t:T},ts[i]?=some t->∃v,vs[i]?=some v/\Rep B al H t v
 |[],_,_,_,_,e=>by simp at e
 |t::ts,_,h,0,_,e=>by
  obtain⟨v,r,rfl,h1,_⟩:=h;simp at e;subst e;exact⟨v,rfl,h1⟩
 |t::ts,_,h,i+1,_,e=>by
  obtain⟨v,r,rfl,_,h2⟩:=h;obtain⟨v',e',h'⟩:=aB.get h2 (i:=i) (by simpa using e)
  exact⟨v',by simpa using e',h'⟩
theorem aB.vS:∀{ts:FV}{vs:List V},aB B al H ts vs->∀{i:Nat}{v:V},vs[i]?=some v->∃t,ts[i]?=some t/\Rep B al H t v
 |[],_,h,_,_,e=>by have h:_=[]:=h;subst h;simp at e
 |t::ts,_,h,0,_,e=>by
  obtain⟨v,r,rfl,h1,_⟩:=h;simp at e;subst e;exact⟨t,rfl,h1⟩
 |t::ts,_,h,i+1,_,e=>by
  obtain⟨v,r,rfl,_,h2⟩:=h;obtain⟨t',e',h'⟩:=aB.vS h2 (i:=i) (by simpa using e)
  exact⟨t',by simpa using e',h'⟩
theorem aB.app:∀{ts us:FV}{vs ws:List V},aB B al H ts vs->aB B al H us ws->aB B al H (ts++us) (vs++ws)
 |[],_,_,_,h,h'=>by have h:_=[]:=h;subst h;exact h'
 |t::ts,_,_,_,h,h'=>by
  obtain⟨v,r,rfl,h1,h2⟩:=h;exact⟨v,_,rfl,h1,h2.app h'⟩
theorem aB.drop:∀{ts:FV}{vs:List V}(n:Nat),aB B al H ts vs->aB B al H (ts.drop n) (vs.drop n)
 |ts,vs,0,h=>by simpa using h
 |[],_,n+1,h=>by have h:_=[]:=h;subst h;rfl
 |t::ts,_,n+1,h=>by
  obtain⟨v,r,rfl,_,h2⟩:=h;simpa using h2.drop n
theorem aB.take:∀{ts:FV}{vs:List V}(n:Nat),aB B al H ts vs->aB B al H (ts.take n) (vs.take n)
 |ts,vs,0,h=>by simp[aB]
 |[],_,n+1,h=>by have h:_=[]:=h;subst h;rfl
 |t::ts,_,n+1,h=>by
  obtain⟨v,r,rfl,h1,h2⟩:=h;exact⟨v,r.take n,rfl,h1,h2.take n⟩
theorem aB.set{t:T}{v:V}(q:Rep B al H t v):∀{ts:FV}{vs:List V}(n:Nat),aB B al H ts vs->aB B al H (ts.set n t) (vs.set n v)
 |[],_,n,h=>by have h:_=[]:=h;subst h;rfl
 |_::ts,_,0,h=>by
  obtain⟨w,r,rfl,h1,h2⟩:=h;exact⟨v,r,rfl,q,h2⟩
 |u::ts,_,n+1,h=>by
  obtain⟨w,r,rfl,h1,h2⟩:=h;exact⟨w,r.set n v,rfl,h1,h2.set q n⟩
theorem aB.flat{ts:FV}{vs:List V}(h:aB B al H ts vs):∀n:Nat,aB B al H (bX n ts).flatten (bX n vs).flatten
 |0=>rfl
 |n+1=>by
  rw[sG,sG,vo,vo];exact h.app (h.flat n)
def aB.one{t:T}{v:V}(q:Rep B al H t v):aB B al H [t] [v]:=⟨v,[],rfl,q,rfl⟩
theorem aB.ints:∀ns:Fh,aB B al H (ns.map T.int) (ns.map V.int)
 |[]=>rfl
 |n::ns=>⟨_,_,rfl,rfl,aB.ints ns⟩
theorem aB.signs:∀l:Bi,aB B al H (l.map λc=>T.str [c]) (l.map λc=>V.str ⟨#[c]⟩)
 |[]=>rfl
 |c::l=>⟨_,_,rfl,⟨rfl,by simp⟩,aB.signs l⟩
mutual
theorem Rep.no:∀{t:T}{v:V},noOwn t=true->Rep B al H t v->Rep B GL H t v
 |.non,_,_,h=>h
 |.bl _,_,_,h=>h
 |.int _,_,_,h=>h
 |.str _,_,_,h=>h
 |.tup ts,_,n,h=>by
  obtain⟨a,vs,e,q,r⟩:=h;exact⟨a,vs,e,q,aB.no n r⟩
 |.lst ts,_,n,h=>by
  obtain⟨a,vs,e,q,r⟩:=h;exact⟨a,vs,e,q,aB.no n r⟩
 |.scr ns,_,_,h=>h
 |.obj c ts,_,n,h=>by
  obtain⟨a,C,dx,ns,vs,e,z,q,l,q2,r⟩:=h;exact⟨a,C,dx,ns,vs,e,z,q,l,q2,aB.no n r⟩
 |.own k,_,n,h=>by cases n
 |.iA ks ts,_,n,h=>by
  obtain⟨a,vs,e,q,l,r⟩:=h;exact⟨a,vs,e,q,l,aB.no n r⟩
theorem aB.no:∀{ts:FV}{vs:List V},aW ts=true->aB B al H ts vs->aB B GL H ts vs
 |[],_,_,h=>h
 |t::ts,_,n,h=>by
  obtain⟨v,r,e,h1,h2⟩:=h;have n:(noOwn t&&aW ts)=true:=n;rw[dh]at n;exact⟨v,r,e,Rep.no n.1 h1,aB.no n.2 h2⟩
end
structure Gr(HF H gb H':Hp):Prop where
 fr:aO HF gb
 sub:aO gb H'
 rest:∀b o,H b=some o->HF b=none->H' b=some o/\gb b=none
theorem Gr.refl{HF H:Hp}(s:aO HF H):Gr HF H HF H:=⟨aO.refl _,s,λ_ _ h n=>⟨h,n⟩⟩
theorem Gr.trans{HF H Y3 H1 Y4 H2:Hp}(a:Gr HF H Y3 H1)(b:Gr Y3 H1 Y4 H2):Gr HF H Y4 H2:=
 ⟨a.fr.trans b.fr,b.sub,λc o h n=>let⟨h1,n1⟩:=a.rest c o h n;b.rest c o h1 n1⟩
def Gr.same{HF H gb H':Hp}(s:aO HF H)(a:Gr HF H gb H'):aO H H':=λb o h=>by
 cases e:HF b with
 |none=>exact(a.rest b o h e).1
 |some u=>
  have:=s b u e
  rw[h]at this;cases this;exact a.sub _ _ (a.fr _ _ e)
def aX{H:Hp}{p:Addr}{o:HO}(h:H p=none):aO H (upd H p o):=λb u e=>by rw[aq (aL e h)];exact e
def Gr.new{HF H:Hp}(s:aO HF H){p:Addr}{o:HO}(h:H p=none):Gr HF H (upd HF p o) (upd H p o):=by
 have hf:HF p=none:=s.free h;refine⟨aX hf,λb u e=>?_,λb u e n=>?_⟩
 ·by_cases hb:b=p
  ·subst hb;rw[ai]at e ⊢;exact e
  ·rw[aq hb]at e ⊢;exact s _ _ e
 ·have hb:b≠p:=aL e h
  rw[aq hb,aq hb];exact⟨e,n⟩
def Gr.lV{HF H:Hp}(s:aO HF H){p:Addr}{o:HO}(h:H p=none):Gr HF H HF (upd H p o):=
 ⟨aO.refl _,s.trans (aX h),λb u e n=>⟨aX h _ _ e,n⟩⟩
def aY(B:KT)(g:G)(H:Hp)(p:iQ):C->V->Prop
 |.val t,v=>Rep B g.al g.HF t v
 |.ol ts,v=>∃l vs,v=.ref l/\g.o l=some p/\H l=some (.lst vs)/\aB B g.al g.HF ts vs
 |.od ks ts,v=>∃l vs,v=.ref l/\g.o l=some p/\H l=some (.dK ((ks.map jS).zip vs))/\ks.length=vs.length/\aB B g.al g.HF ts vs
 |.yg t,v=>∃HY:Hp,(∀b u,HY b=some u->g.o b=some p/\H b=some u)/\Rep B [] HY t v
structure AL(B:KT)(g:G)(H:Hp)(k:Nat)(ob:Ob)(a C dx:Addr)(ns:BM)(vs:List V):Prop where
 al:g.al[k]?=some a
 o:g.o a=some (.ob k)
 cl:iP B ob.c C ns
 h:H a=some (.ins C dx (ns.zip vs))
 le:vs.length<=ns.length
 ln:vs.length=ob.fs.length
 f:∀j c,ob.fs[j]?=some c->∃v,vs[j]?=some v/\aY B g H (.fld k j) c v
structure Rk(B:KT)(g:G)(H:Hp)(k:Nat)(ob:Ob)(a:Addr):Prop where
 al:g.al[k]?=some a
 nc:B.cn[ob.c]?=none
 nf:B.fn[ob.c]?=none
 f:∀c,ob.fs=[c]->aY B g H (.ob k) c (.ref a)
def ME(B:KT)(g:G)(H:Hp)(k:Nat)(ob:Ob):Prop:=(∃a C dx ns vs,AL B g H k ob a C dx ns vs)\/∃a,Rk B g H k ob a
structure fT(B:KT)(g:G)(H:Hp)(m:He):Prop where
 sub:aO g.HF H
 live:∀b p,g.o b=some p->g.HF b=none/\∃u,H b=some u
 len:m.length=g.al.length
 at_:∀k ob,m[k]?=some ob->ME B g H k ob
structure nk(B:KT)(g:G)(H:Hp)(σ:St)(r:FK):Prop where
 len:r.length=σ.length
 at_:∀i c,r[i]?=some (some c)->∃v,σ[i]?=some (some v)/\aY B g H (.loc i) c v
structure SR(B:KT)(g:G)(H:Hp)(σ:St)(s:S):Prop where
 st:fT B g H s.m
 lc:nk B g H σ s.r
structure ez(g:G)(H:Hp)(g':G)(H':Hp):Prop where
 fr:aO g.HF g'.HF
 pre:g.al <+: g'.al
 rest:∀b u,H b=some u->g.HF b=none->g.o b=none->H' b=some u/\g'.HF b=none/\g'.o b=none
 there:∀b,H' b=none->H b=none
variable{g1 g2:G}{H1 H2:Hp}
theorem ez.refl:ez g H g H:=⟨aO.refl _,d_,λ_ _ h n o=>⟨h,n,o⟩,λ_ h=>h⟩
theorem ez.trans(a:ez g H g1 H1)(b:ez g1 H1 g2 H2):ez g H g2 H2:=
 ⟨a.fr.trans b.fr,a.pre.trans b.pre,λc u h n o=>let⟨h1,n1,o1⟩:=a.rest c u h n o;b.rest c u h1 n1 o1,λc h=>a.there c (b.there c h)⟩
abbrev G.grow(g:G)(gb:Hp):G:={g with HF:=gb}
theorem aY.grow(gr:Gr g.HF H gb H')(lv:∀b p,g.o b=some p->g.HF b=none/\∃u,H b=some u){p:iQ}:∀{c:C}{v:V},aY B g H p c v->aY B (g.grow gb) H' p c v
 |.val t,v,h=>h.same gr.fr
 |.ol ts,v,h=>by
  obtain⟨l,vs,e,o,q,r⟩:=h;exact⟨l,vs,e,o,(gr.rest l _ q (lv l p o).1).1,r.same gr.fr⟩
 |.od ks ts,v,h=>by
  obtain⟨l,vs,e,o,q,n,r⟩:=h;exact⟨l,vs,e,o,(gr.rest l _ q (lv l p o).1).1,n,r.same gr.fr⟩
 |.yg t,v,h=>by
  obtain⟨HY,h1,r⟩:=h;exact⟨HY,λb u e=>let⟨h2,h3⟩:=h1 b u e;⟨h2,(gr.rest b u h3 (lv b p h2).1).1⟩,r⟩
theorem AL.grow{k:Nat}{ob:Ob}{a C dx:Addr}{ns:BM}{vs:List V}(x:AL B g H k ob a C dx ns vs)(gr:Gr g.HF H gb H')(lv:∀b p,g.o b=some p->g.HF b=none/\∃u,H b=some u):AL B (g.grow gb) H' k ob a C dx ns vs:=
 ⟨x.al,x.o,x.cl,(gr.rest _ _ x.h (lv _ _ x.o).1).1,x.le,x.ln,λj c e=>let⟨v,h1,h2⟩:=x.f j c e;⟨v,h1,h2.grow gr lv⟩⟩
theorem ME.grow{k:Nat}{ob:Ob}(x:ME B g H k ob)(gr:Gr g.HF H gb H')(lv:∀b p,g.o b=some p->g.HF b=none/\∃u,H b=some u):ME B (g.grow gb) H' k ob:=by
 rcases x with⟨a,C,dx,ns,vs,y⟩|⟨a,y⟩
 ·exact .inl ⟨a,C,dx,ns,vs,y.grow gr lv⟩
 ·exact .inr ⟨a,y.al,y.nc,y.nf,λc e=>(y.f c e).grow gr lv⟩
theorem fT.grow{m:He}(x:fT B g H m)(gr:Gr g.HF H gb H'):fT B (g.grow gb) H' m:=
 ⟨gr.sub,λb p e=>by
  obtain⟨h1,u,h2⟩:=x.live b p e;obtain⟨h3,h4⟩:=gr.rest b u h2 h1;exact⟨h4,u,h3⟩,x.len,λk ob e=>(x.at_ k ob e).grow gr x.live⟩
theorem SR.grow(x:SR B g H σ s)(gr:Gr g.HF H gb H'):SR B (g.grow gb) H' σ s:=
 ⟨x.st.grow gr,x.lc.len,λi c e=>let⟨v,h1,h2⟩:=x.lc.at_ i c e;⟨v,h1,h2.grow gr x.st.live⟩⟩
theorem SR.sub(x:SR B g H σ s):aO g.HF H:=x.st.sub
theorem Gr.free(gr:Gr HF H gb H')(sm:aO HF H){b:Addr}(h:H' b=none):H b=none:=(gr.same sm).free h
def SR.kr(x:SR B g H σ s)(gr:Gr g.HF H gb H'):ez g H (g.grow gb) H':=
 ⟨gr.fr,d_,λb u h n o=>let⟨h1,h2⟩:=gr.rest b u h n;⟨h1,h2,o⟩,λb h=>gr.free x.sub h⟩
variable{m:He}
theorem aY.mv{p:iQ}(fr:aO g.HF g'.HF)(pre:g.al <+: g'.al)(k:∀l,g.o l=some p->g'.o l=some p/\H' l=H l):∀{c:C}{v:V},aY B g H p c v->aY B g' H' p c v
 |.val t,v,h=>Rep.mv pre fr h
 |.ol ts,v,h=>by
  obtain⟨l,vs,e,o,q,r⟩:=h;obtain⟨o',h'⟩:=k l o;exact⟨l,vs,e,o',h'.trans q,r.mv pre fr⟩
 |.od ks ts,v,h=>by
  obtain⟨l,vs,e,o,q,n,r⟩:=h;obtain⟨o',h'⟩:=k l o;exact⟨l,vs,e,o',h'.trans q,n,r.mv pre fr⟩
 |.yg t,v,h=>by
  obtain⟨HY,h1,r⟩:=h;exact⟨HY,λb u e=>let⟨h2,h3⟩:=h1 b u e;let⟨h4,h5⟩:=k b h2;⟨h4,h5.trans h3⟩,r⟩
theorem AL.mv{k:Nat}{ob:Ob}{a C dx:Addr}{ns:BM}{vs:List V}(x:AL B g H k ob a C dx ns vs)(fr:aO g.HF g'.HF)(pre:g.al <+: g'.al)(kk:∀l p,g.o l=some p->(p=.ob k\/∃j,p=.fld k j)->g'.o l=some p/\H' l=H l):AL B g' H' k ob a C dx ns vs:=by
 obtain⟨o',h'⟩:=kk a _ x.o (.inl rfl);exact⟨bL pre x.al,o',x.cl,h'.trans x.h,x.le,x.ln,λj c e=>let⟨v,h1,h2⟩:=x.f j c e;⟨v,h1,h2.mv fr pre λl z=>kk l _ z (.inr ⟨j,rfl⟩)⟩⟩
theorem ME.mv{k:Nat}{ob:Ob}(x:ME B g H k ob)(fr:aO g.HF g'.HF)(pre:g.al <+: g'.al)(kk:∀l p,g.o l=some p->(p=.ob k\/∃j,p=.fld k j)->g'.o l=some p/\H' l=H l):ME B g' H' k ob:=by
 rcases x with⟨a,C,dx,ns,vs,y⟩|⟨a,y⟩
 ·exact .inl ⟨a,C,dx,ns,vs,y.mv fr pre kk⟩
 ·exact .inr ⟨a,bL pre y.al,y.nc,y.nf,λc e=>(y.f c e).mv fr pre λl z=>kk l _ z (.inl rfl)⟩
theorem fT.mv(x:fT B g H m)(sub:aO g'.HF H')(live:∀b p,g'.o b=some p->g'.HF b=none/\∃u,H' b=some u)(fr:aO g.HF g'.HF)(Rl:g'.al=g.al)(kk:∀l p,g.o l=some p->(∀i,p≠.loc i)->g'.o l=some p/\H' l=H l):fT B g' H' m:=
 ⟨sub,live,by rw[Rl];exact x.len,λk ob e=>(x.at_ k ob e).mv fr (by rw[Rl];exact d_) λl p h q=>kk l p h (by
  rcases q with q|⟨j,q⟩
  ·subst q;exact λi z=>by cases z
  ·subst q;exact λi z=>by cases z)⟩
theorem nk.set{r:FK}{i:Nat}{v:V}{c:C}(x:nk B g H σ r)(q:aY B g' H' (.loc i) c v)(kk:∀j c v,j≠i->aY B g H (.loc j) c v->aY B g' H' (.loc j) c v):nk B g' H' (σ.set i (some v)) (r.set i (some c)):=by
 refine⟨by rw[fh,fh];exact x.len,λj d h=>?_⟩
 by_cases hj:i=j
 ·subst hj
  have iB:i<r.length:=by have:=(c_.mp h).1;rw[fh]at this;exact this
  rw[cj iB]at h;cases h;exact⟨v,cj (by rw[<- x.len];exact iB),q⟩
 ·rw[cT hj]at h
  obtain⟨w,h1,h2⟩:=x.at_ j d h;exact⟨w,by rw[cT hj];exact h1,kk j d w (Ne.symm hj) h2⟩
theorem SR.set(x:SR B g H σ s){i:Nat}{t:T}{v:V}(r:Rep B g.al g.HF t v):SR B g H (σ.set i (some v)) (jR s i (.val t)):=
 ⟨x.st,x.lc.set r λ_ _ _ _ h=>h⟩
def G.i6(g:G)(l:Addr)(o:HO):G:={g with HF:=upd g.HF l o,o:=λb=>if b=l then none else g.o b}
def nq{p q:iQ}{l:Addr}{o:HO}(hl:g.o l=some p)(hf:g.HF l=none)(hq:q≠p){c:C}{v:V}(h:aY B g H q c v):aY B (g.i6 l o) H q c v:=
 aY.mv (g':=g.i6 l o) (aX hf) d_ (λb hb=>by
  have:b≠l:=λe=>hq (by rw[e,hl]at hb;cases hb;rfl)
  exact⟨by show(if b=l then none else g.o b)=_;rw[if_neg this];exact hb,rfl⟩) h
def rf{p:iQ}{l:Addr}{o:HO}(hl:g.o l=some p)(hf:g.HF l=none):ez g H (g.i6 l o) H:=
 ⟨aX hf,d_,λb u h n z=>by
  have:b≠l:=λe=>by rw[e,hl]at z;cases z
  exact⟨h,by show upd g.HF l o b=none;rw[aq this];exact n,by show(if b=l then none else g.o b)=none;rw[if_neg this];exact z⟩,λ_ h=>h⟩
def xK{i:Nat}{l:Addr}{o:HO}(x:fT B g H m)(hl:g.o l=some (.loc i))(hh:H l=some o):fT B (g.i6 l o) H m:=by
 have hf:=(x.live l _ hl).1;refine x.mv (λb u e=>?_) (λb p e=>?_) (aX hf) rfl λb p hb hp=>?_
 ·have e:upd g.HF l o b=some u:=e
  by_cases hb:b=l
  ·subst hb;rw[ai]at e;cases e;exact hh
  ·rw[aq hb]at e;exact x.sub _ _ e
 ·have e:(if b=l then none else g.o b)=some p:=e
  by_cases hb:b=l
  ·rw[if_pos hb]at e;cases e
  ·rw[if_neg hb]at e
   obtain⟨h1,h2⟩:=x.live b p e;exact⟨by show upd g.HF l o b=none;rw[aq hb];exact h1,h2⟩
 ·have:b≠l:=λe=>hp i (by rw[e,hl]at hb;cases hb;rfl)
  exact⟨by show(if b=l then none else g.o b)=_;rw[if_neg this];exact hb,rfl⟩
theorem SR.i6(x:SR B g H σ s){i:Nat}{ts:FV}(h:s.r[i]?=some (some (.ol ts))):∃g' v,ez g H g' H/\SR B g' H σ (jR s i (.val (.lst ts)))/\σ[i]?=some (some v)/\Rep B g'.al g'.HF (.lst ts) v:=by
 obtain⟨v,h1,l,vs,rfl,ho,hh,r⟩:=x.lc.at_ i _ h;have hf:=(x.st.live l _ ho).1;have rp:Rep B (g.i6 l (.lst vs)).al (g.i6 l (.lst vs)).HF (.lst ts) (.ref l):=⟨l,vs,rfl,ai,r.mv d_ (aX hf)⟩;refine⟨g.i6 l (.lst vs),.ref l,rf ho hf,⟨xK x.st ho hh,?_⟩,h1,rp⟩
 have:=x.lc.set (i:=i) (v:=.ref l) (c:=.val (.lst ts)) rp λj c v hj q=>nq (q:=.loc j) ho hf (λz=>hj (by cases z;rfl)) q
 have es:σ.set i (some (.ref l))=σ:=by
  apply zj;intro j;by_cases hj:i=j
  ·subst hj
   rw[cj (c_.mp h1).1,h1]
  ·rw[cT hj]
 rw[es]at this;exact this
def SR.Wv(x:SR B g H σ s){i:Nat}{ks:List Ky}{ts:FV}(h:s.r[i]?=some (some (.od ks ts))):∃g' v,ez g H g' H/\SR B g' H σ (jR s i (.val (.iA ks ts)))/\σ[i]?=some (some v)/\Rep B g'.al g'.HF (.iA ks ts) v:=by
 obtain⟨v,h1,l,vs,rfl,ho,hh,hl,r⟩:=x.lc.at_ i _ h;have hf:=(x.st.live l _ ho).1;have rp:Rep B (g.i6 l (.dK ((ks.map jS).zip vs))).al (g.i6 l (.dK ((ks.map jS).zip vs))).HF (.iA ks ts) (.ref l):=⟨l,vs,rfl,ai,hl,r.mv d_ (aX hf)⟩;refine⟨g.i6 l (.dK ((ks.map jS).zip vs)),.ref l,rf ho hf,⟨xK x.st ho hh,?_⟩,h1,rp⟩
 have:=x.lc.set (i:=i) (v:=.ref l) (c:=.val (.iA ks ts)) rp λj c v hj q=>nq (q:=.loc j) ho hf (λz=>hj (by cases z;rfl)) q
 have es:σ.set i (some (.ref l))=σ:=by
  apply zj;intro j;by_cases hj:i=j
  ·subst hj
   rw[cj (c_.mp h1).1,h1]
  ·rw[cT hj]
 rw[es]at this;exact this
def G.own(g:G)(l:Addr)(p:iQ):G:={g with o:=λb=>if b=l then some p else g.o b}
def tF{p q:iQ}{l:Addr}(hn:g.o l=none){c:C}{v:V}(h:aY B g H q c v):aY B (g.own l p) H q c v:=
 aY.mv (g:=g) (g':=g.own l p) (aO.refl g.HF) d_ (λb hb=>by
  have:b≠l:=λe=>by rw[e,hn]at hb;cases hb
  exact⟨by show(if b=l then some p else g.o b)=_;rw[if_neg this];exact hb,rfl⟩) h
def xM{p:iQ}{l:Addr}{u:HO}(x:fT B g H m)(hn:g.o l=none)(hf:g.HF l=none)(hh:H l=some u):fT B (g.own l p) H m:=by
 refine x.mv x.sub (λb q e=>?_) (aO.refl _) rfl λb q hb hp=>?_
 ·have e:(if b=l then some p else g.o b)=some q:=e
  by_cases hb:b=l
  ·subst hb;exact⟨hf,u,hh⟩
  ·rw[if_neg hb]at e;exact x.live b q e
 ·have:b≠l:=λe=>by rw[e,hn]at hb;cases hb
  exact⟨by show(if b=l then some p else g.o b)=_;rw[if_neg this];exact hb,rfl⟩
theorem SR.own(x:SR B g H σ s){i:Nat}{l:Addr}{ts:FV}{vs:List V}(hn:g.o l=none)(hf:g.HF l=none)(hh:H l=some (.lst vs))(r:aB B g.al g.HF ts vs):SR B (g.own l (.loc i)) H (σ.set i (some (.ref l))) (jR s i (.ol ts)):=
 ⟨xM x.st hn hf hh,x.lc.set (c:=.ol ts) ⟨l,vs,rfl,by show(if l=l then some (iQ.loc i)else g.o l)=_;rw[if_pos rfl],hh,r⟩ λj c v hj q=>tF hn q⟩
def SR.Ww(x:SR B g H σ s){i:Nat}{l:Addr}{ks:List Ky}{ts:FV}{vs:List V}(hn:g.o l=none)(hf:g.HF l=none)(hh:H l=some (.dK ((ks.map jS).zip vs)))(hk:ks.length=vs.length)(r:aB B g.al g.HF ts vs):SR B (g.own l (.loc i)) H (σ.set i (some (.ref l))) (jR s i (.od ks ts)):=
 ⟨xM x.st hn hf hh,x.lc.set (c:=.od ks ts) ⟨l,vs,rfl,by show(if l=l then some (iQ.loc i)else g.o l)=_;rw[if_pos rfl],hh,hk,r⟩ λj c v hj q=>tF hn q⟩
def GN{l:Addr}{i:Nat}{u:HO}(x:fT B g H m)(ho:g.o l=some (.loc i)):fT B g (upd H l u) m:=by
 have hf:=(x.live l _ ho).1;refine x.mv (λb w e=>?_) (λb q e=>?_) (aO.refl _) rfl λb q hb hp=>?_
 ·have:b≠l:=λz=>by rw[z,hf]at e;cases e
  rw[aq this];exact x.sub _ _ e
 ·obtain⟨h1,w,h2⟩:=x.live b q e
  by_cases hb:b=l
  ·exact⟨h1,u,by rw[hb,ai]⟩
  ·exact⟨h1,w,by rw[aq hb];exact h2⟩
 ·have:b≠l:=λe=>hp i (by rw[e,ho]at hb;cases hb;rfl)
  exact⟨hb,by rw[aq this]⟩
def rh{l:Addr}{p:iQ}{u:HO}(ho:g.o l=some p):ez g H g (upd H l u):=
 ⟨aO.refl _,d_,λb w h n z=>by
  have:b≠l:=λe=>by rw[e,ho]at z;cases z
  exact⟨by rw[aq this];exact h,n,z⟩,λb h=>by
  by_cases hb:b=l
  ·subst hb;rw[ai]at h;cases h
  ·rw[aq hb]at h;exact h⟩
def SR.chg(x:SR B g H σ s){i:Nat}{ts oH:FV}{l:Addr}{ik:List V}(h:s.r[i]?=some (some (.ol ts)))(hσ:σ[i]?=some (some (.ref l)))(r:aB B g.al g.HF oH ik):SR B g (upd H l (.lst ik)) σ (jR s i (.ol oH))/\ez g H g (upd H l (.lst ik)):=by
 obtain⟨v,h1,l',vs,rfl,ho,hh,r0⟩:=x.lc.at_ i _ h;rw[hσ]at h1;cases h1;refine⟨⟨GN x.st ho,?_⟩,rh ho⟩
 have:=x.lc.set (g':=g) (H':=upd H l (.lst ik)) (i:=i) (v:=.ref l) (c:=.ol oH) ⟨l,ik,rfl,ho,ai,r⟩ λj c v hj q=>q.mv (aO.refl _) d_ λb hb=>by
  have:b≠l:=λe=>hj (by rw[e,ho]at hb;cases hb;rfl)
  exact⟨hb,aq this⟩
 have es:σ.set i (some (.ref l))=σ:=by
  apply zj;intro j;by_cases hj:i=j
  ·subst hj
   rw[cj (c_.mp hσ).1,hσ]
  ·rw[cT hj]
 rw[es]at this;exact this
def Rm:Option iQ->Option iQ
 |some (.loc _)=>none
 |x=>x
def G.ah(g:G):G:={g with o:=λb=>Rm (g.o b)}
def z7{q:Option iQ}{p:iQ}:Rm q=some p ↔ q=some p/\∀i,p≠.loc i:=by
 cases q with
 |none=>exact⟨λh=>(by cases h),λh=>(by cases h.1)⟩
 |some q=>
  cases q with
  |loc i=>exact⟨λh=>(by cases h),λh=>(by obtain⟨h,n⟩:=h;cases h;exact absurd rfl (n i))⟩
  |ob k=>exact⟨λh=>(by cases h;exact⟨rfl,λi z=>(by cases z)⟩),λh=>h.1⟩
  |fld k j=>exact⟨λh=>(by cases h;exact⟨rfl,λi z=>(by cases z)⟩),λh=>h.1⟩
def j4{b:Addr}{p:iQ}:g.ah.o b=some p ↔ g.o b=some p/\∀i,p≠.loc i:=z7
theorem fT.ah(x:fT B g H m):fT B g.ah H m:=
 x.mv x.sub (λb p e=>x.live b p (j4.mp e).1) (aO.refl _) rfl λl p h n=>⟨j4.mpr ⟨h,n⟩,rfl⟩
def Wx:Option iQ->Option iQ->Option iQ
 |some (.loc i),_=>some (.loc i)
 |_,y=>y
def G.back(g g':G):G:={g' with o:=λb=>Wx (g.o b) (g'.o b)}
def Cv{b:Addr}{i:Nat}(h:g.o b=some (.loc i)):(G.back g g').o b=some (.loc i):=by
 show Wx (g.o b) (g'.o b)=_;rw[h];rfl
def nt{b:Addr}(h:∀i,g.o b≠some (.loc i)):(G.back g g').o b=g'.o b:=by
 show Wx (g.o b) (g'.o b)=_;cases q:g.o b with
 |none=>rfl
 |some p=>cases p with
  |loc i=>exact absurd q (h i)
  |ob k=>rfl
  |fld k j=>rfl
theorem SR.back(x:SR B g H σ s){m':He}(p:ez g.ah H g' H')(y:fT B g' H' m'):ez g H (G.back g g') H'/\SR B (G.back g g') H' σ {s with m:=m'}:=by
 have keep:∀l i,g.o l=some (.loc i)->H' l=H l/\g'.HF l=none/\g'.o l=none:=λl i e=>by
  obtain⟨h1,u,h2⟩:=x.st.live l _ e;have h3:g.ah.o l=none:=by
   cases q:g.ah.o l with
   |none=>rfl
   |some p=>obtain⟨a,b⟩:=j4.mp q;rw[e]at a;cases a;exact absurd rfl (b i)
  obtain⟨h4,h5,h6⟩:=p.rest l u h2 h1 h3;exact⟨h4.trans h2.symm,h5,h6⟩
 have Wy:∀l q,g'.o l=some q->∀i,g.o l≠some (.loc i):=λl q e i z=>by rw[(keep l i z).2.2]at e;cases e
 refine⟨⟨p.fr,p.pre,λb u h n z=>?_,p.there⟩,⟨⟨y.sub,λb q e=>?_,y.len,λk ob e=>?_⟩,x.lc.len,λi c e=>?_⟩⟩
 ·have h3:g.ah.o b=none:=by
   cases q:g.ah.o b with
   |none=>rfl
   |some p=>rw[(j4.mp q).1]at z;cases z
  obtain⟨h4,h5,h6⟩:=p.rest b u h n h3;exact⟨h4,h5,(nt λi w=>by rw[z]at w;cases w).trans h6⟩
 ·by_cases hl:∃i,g.o b=some (.loc i)
  ·obtain⟨i,hl⟩:=hl
   obtain⟨h1,u,h2⟩:=x.st.live b _ hl;obtain⟨h4,h5,_⟩:=keep b i hl;exact⟨h5,u,h4.trans h2⟩
  ·rw[nt λi w=>hl ⟨i,w⟩]at e
   exact y.live b q e
 ·exact(y.at_ k ob e).mv (aO.refl _) d_ λl q h _=>⟨(nt (Wy l q h)).trans h,rfl⟩
 ·obtain⟨v,h1,h2⟩:=x.lc.at_ i c e
  exact⟨v,h1,aY.mv (g:=g) (g':=G.back g g') p.fr p.pre (λl o=>⟨Cv o,(keep l i o).1⟩) h2⟩
variable{es:D1}{fl:FL}{ft fu:FT}
abbrev KTb:=BM×List BM
def _root_.L2.Cx.kt(X:Cx)(t:KTb):KT:=⟨X.K,X.prog,X.w,t.1,t.2⟩
def tE(B:KT)(f:FE):TE:=λσ H Q=>∃g s t s',SR B g H σ s/\f s=.ok (t,s')/\∀v g' H',ez g H g' H'->SR B g' H' σ s'->Rep B g'.al g'.HF t v->Q v H'
def tA(B:KT)(f:FL):TA:=λσ H Q=>∃g s ts s',SR B g H σ s/\f s=.ok (ts,s')/\∀vs g' H',ez g H g' H'->SR B g' H' σ s'->aB B g'.al g'.HF ts vs->Q vs H'
def tT(B:KT)(f:FT):TT:=λσ H Q=>∃g s k s',SR B g H σ s/\f s=.ok (k,s')/\∀g' H',ez g H g' H'->SR B g' H' σ s'->Q k H'
def tP(B:KT)(f:FO):TO:=λσ H Q=>∃g s k s',SR B g H σ s/\f s=.ok (k,s')/\∀g' H',ez g H g' H'->SR B g' H' σ s'->Q k H'
def tO(B:KT)(f:FL):TE:=λσ H Q=>∃g s ts s',SR B g H σ s/\f s=.ok (ts,s')/\∀l vs g' H',ez g H g' H'->SR B g' H' σ s'->H l=none->g'.HF l=none->g'.o l=none->H' l=some (.lst vs)->aB B g'.al g'.HF ts vs->Q (.ref l) H'
def aP{t t':TE}(h:PE X e t)(i:∀σ H Q,t' σ H Q->t σ H Q):PE X e t':=λae s σ H Q I q=>h ae s σ H Q I (i σ H Q q)
def tG{t t':TT}(h:PT X e t)(i:∀σ H Q,t' σ H Q->t σ H Q):PT X e t':=λae s σ H Q I q=>h ae s σ H Q I (i σ H Q q)
def Kn{t t':TT}(h:PW X e t)(i:∀σ H Q,t' σ H Q->t σ H Q):PW X e t':=λwh ae s σ H Q I q=>h wh ae s σ H Q I (i σ H Q q)
def Ko{es:D1}{t t':TA}(h:PA X es t)(i:∀σ H Q,t' σ H Q->t σ H Q):PA X es t':=λpo ae s σ H Q I q=>h po ae s σ H Q I (i σ H Q q)
def c9{st:Stmt}{t t':TS}(h:PS X st t)(i:∀D σ H,t' D σ H->t D σ H):PS X st t':=λae s σ H D I q=>h ae s σ H D I (i D σ H q)
def Cw{st:Fs}{t t':TS}(h:jx X st t)(i:∀D σ H,t' D σ H->t D σ H):jx X st t':=λae s σ H D I q=>h ae s σ H D I (i D σ H q)
def Kp{e:Option Expr}{t t':TO}(h:PO X e t)(i:∀σ H Q,t' σ H Q->t σ H Q):PO X e t':=λae s σ H Q I q=>h ae s σ H Q I (i σ H Q q)
def k8{tg:Expr}{t t':TI}(h:PI X tg e t)(i:∀σ H Rh,t' σ H Rh->t σ H Rh):PI X tg e t':=λae s σ H Rh I q=>h ae s σ H Rh I (i σ H Rh q)
def a_:PE X e (tE B aQ):=λ_ _ _ _ _ _ ⟨_,_,_,_,_,h,_⟩=>by cases h
def jD:PT X e (tT B pe):=λ_ _ _ _ _ _ ⟨_,_,_,_,_,h,_⟩=>by cases h
def dO:PE X e (tO B fQ):=λ_ _ _ _ _ _ ⟨_,_,_,_,_,h,_⟩=>by cases h
def j5{t:T}{v:V}(h:PE X e (tC v))(r:∀al H,Rep B al H t v):PE X e (tE B (cF t)):=aP h λσ H Q z=>by
 obtain⟨g,s,t',s',x,h,k⟩:=z;cases h;exact k v g H .refl x (r _ _)
def Kq{i:Nat}{x:Str}(hN:X.N[i]?=some x)(hv:xo X.env.scope x)(hd:df x)(pO:kB x):PE X (.Name x pos) (tE B (vF i)):=by
 refine aP (gj hN hv hd pO) λσ H Q zz=>?_;obtain⟨g,s,t,s',x,h,k⟩:=zz;unfold vF at h;split at h
 ·rename_i t' hr
  cases h;obtain⟨v,h1,h2⟩:=x.lc.at_ i _ hr;exact⟨v,h1,k v g H .refl x h2⟩
 ·rename_i ts hr
  cases h;obtain⟨g',v,p,y,h1,r⟩:=x.i6 hr;exact⟨v,h1,k v g' H p y r⟩
 ·rename_i ks ts hr
  cases h;obtain⟨g',v,p,y,h1,r⟩:=x.Wv hr;exact⟨v,h1,k v g' H p y r⟩
 ·cases h
def L1(X:Cx)(f:T->FX)(r:V->Hp->VK->Prop):Prop:=∀(B:KT)(_:B.K=X.K)(al:D2)(HF H:Hp)(x:V)(t tx:T)(Q:VK),aO HF H->Rep B al HF tx x->f tx=some t->(∀v gb H',Gr HF H gb H'->Rep B al gb t v->Q v H')->r x H Q
def sf(X:Cx)(f:T->T->FX)(r:R2):Prop:=∀(B:KT)(_:B.K=X.K)(al:D2)(HF H:Hp)(x y:V)(t tx ty:T)(Q:VK),aO HF H->Rep B al HF tx x->Rep B al HF ty y->f tx ty=some t->(∀v gb H',Gr HF H gb H'->Rep B al gb t v->Q v H')->r x y H Q
def LN(X:Cx)(f:FV->FX)(r:List V->Hp->VK->Prop):Prop:=∀(B:KT)(_:B.K=X.K)(al:D2)(HF H:Hp)(xs:List V)(t:T)(ts:FV)(Q:VK),aO HF H->aB B al HF ts xs->f ts=some t->(∀v gb H',Gr HF H gb H'->Rep B al gb t v->Q v H')->r xs H Q
def Kr{f:T->FX}{r:V->Hp->VK->Prop}(hB:B.K=X.K)(hr:L1 X f r):∀σ H Q,tE B (dq f fa) σ H Q->Yw r (tE B fa) σ H Q:=by
 rintro σ H Q ⟨g,s,t,s',x,h,k⟩
 obtain⟨⟨tx,s1⟩,h1,h⟩:=aa h;obtain⟨t',h2,h⟩:=aa h;cases h;exact⟨g,s,tx,s1,x,h1,λv g1 H1 p1 x1 r1=>hr B hB g1.al g1.HF H1 v _ tx Q x1.sub r1 (aj h2) λu gb H' gr r2=>k u (g1.grow gb) H' (p1.trans (x1.kr gr)) (x1.grow gr) r2⟩
def k9{f:T->T->FX}{r:R2}(hB:B.K=X.K)(hr:sf X f r):∀σ H Q,tE B (bA f fa fb) σ H Q->LV r (tE B fa) (tE B fb) σ H Q:=by
 rintro σ H Q ⟨g,s,t,s',x,h,k⟩
 obtain⟨⟨tx,s1⟩,h1,h⟩:=aa h;obtain⟨⟨ty,s2⟩,h2,h⟩:=aa h;obtain⟨t',h3,h⟩:=aa h;cases h;exact⟨g,s,tx,s1,x,h1,λv g1 H1 p1 x1 r1=>⟨g1,s1,ty,s2,x1,h2,λw g2 H2 p2 x2 r2=>
  hr B hB g2.al g2.HF H2 v w _ tx ty Q x2.sub (r1.mv p2.pre p2.fr) r2 (aj h3) λu gb H' gr r3=>k u (g2.grow gb) H' ((p1.trans p2).trans (x2.kr gr)) (x2.grow gr) r3⟩⟩
def Ks{f:FV->FX}{r:List V->Hp->VK->Prop}(hB:B.K=X.K)(hr:LN X f r):∀σ H Q,tE B (bz f fl) σ H Q->V2 r (tA B fl) σ H Q:=by
 rintro σ H Q ⟨g,s,t,s',x,h,k⟩
 obtain⟨⟨ts,s1⟩,h1,h⟩:=aa h;obtain⟨t',h2,h⟩:=aa h;cases h;exact⟨g,s,ts,s1,x,h1,λvs g1 H1 p1 x1 r1=>hr B hB g1.al g1.HF H1 vs _ ts Q x1.sub r1 (aj h2) λu gb H' gr r2=>k u (g1.grow gb) H' (p1.trans (x1.kr gr)) (x1.grow gr) r2⟩
def rj:PA X [] (tA B ba):=Ko cu λσ H Q z=>by
 obtain⟨g,s,t,s',x,h,k⟩:=z;cases h;exact k [] g H .refl x rfl
def mi(ha:PE X e (tE B fa))(hr:PA X es (tA B fl))(hs:starEach (e::es) X.env=(false,eval e X.env)::starEach es X.env):PA X (e::es) (tA B (bH fa fl)):=Ko (aV ha hr hs) λσ H Q z=>by
 obtain⟨g,s,t,s',x,h,k⟩:=z;obtain⟨⟨tx,s1⟩,h1,h⟩:=aa h;obtain⟨⟨ty,s2⟩,h2,h⟩:=aa h;cases h;exact⟨g,s,tx,s1,x,h1,λv g1 H1 p1 x1 r1=>⟨g1,s1,ty,s2,x1,h2,λw g2 H2 p2 x2 r2=>k (v::w) g2 H2 (p1.trans p2) x2 ⟨v,w,rfl,r1.mv p2.pre p2.fr,r2⟩⟩⟩
def vU{n:Nat}(h:n<=1000):n<=sizeLine:=by rw[sizeLine_eq];omega
def Ro{x1}(h:PA X es (tA B fl)):PE X (.Tuple es x1 pos) (tE B (bz gq fl)):=aP (Mb h) λσ H Q z=>by
 obtain⟨g,s,t,s',x,h,k⟩:=z;obtain⟨⟨ts,s1⟩,h1,h⟩:=aa h;obtain⟨t',h2,h⟩:=aa h;cases h;obtain⟨z,rfl⟩:=aZ (aj h2);refine⟨g,s,ts,s1,x,h1,λvs g1 H1 p1 x1 r1=>⟨vU (by rw[<- r1.len];exact z),λq hq=>?_⟩⟩
 have gr:=Gr.new (o:=.tup vs) x1.sub hq;exact k _ _ _ (p1.trans (x1.kr gr)) (x1.grow gr) ⟨q,vs,rfl,.inl (.inl ai),r1.same gr.fr⟩
def Rp(h:PA X es (tA B fl)):PE X (.List es pos) (tE B (bz dj fl)):=aP (BV h) λσ H Q z=>by
 obtain⟨g,s,t,s',x,h,k⟩:=z;obtain⟨⟨ts,s1⟩,h1,h⟩:=aa h;obtain⟨t',h2,h⟩:=aa h;cases h;obtain⟨z,rfl⟩:=aZ (aj h2);refine⟨g,s,ts,s1,x,h1,λvs g1 H1 p1 x1 r1=>⟨vU (by rw[<- r1.len];exact z),λq hq=>?_⟩⟩
 have gr:=Gr.new (o:=.lst vs) x1.sub hq;exact k _ _ _ (p1.trans (x1.kr gr)) (x1.grow gr) ⟨q,vs,rfl,ai,r1.same gr.fr⟩
def iR(fl:FL):FL:=λs=>(fl s).bind λp=>if p.1.length<=1000 then .ok p else .bad
theorem lV{l:Addr}{u:HO}(x:SR B g H σ s)(h:H l=none):Gr g.HF H g.HF (upd H l u)/\g.HF l=none/\g.o l=none:=by
 refine⟨.lV x.sub h,x.sub.free h,?_⟩;cases q:g.o l with
 |none=>rfl
 |some p=>obtain⟨_,u,z⟩:=x.st.live l p q;rw[h]at z;cases z
def MF(h:PA X es (tA B fl)):PE X (.List es pos) (tO B (iR fl)):=aP (BV h) λσ H Q z=>by
 obtain⟨g,s,t,s',x,h,k⟩:=z;obtain⟨⟨ts,s1⟩,h1,h⟩:=aa h;dsimp only at h;split at h
 ·rename_i z
  cases h;refine⟨g,s,_,_,x,h1,λvs g1 H1 p1 x1 r1=>⟨vU (by rw[<- r1.len];exact z),λq hq=>?_⟩⟩
  obtain⟨gr,n1,n2⟩:=lV (u:=.lst vs) x1 hq;exact k q vs _ _ (p1.trans (x1.kr gr)) (x1.grow gr) (p1.there q hq) n1 n2 ai r1
 ·cases h
def SR.Cy{l:Addr}{u:HO}(x:SR B g H σ s)(hf:g.HF l=none)(ho:g.o l=none)(hh:H l=some u):SR B (g.grow (upd g.HF l u)) H σ s:=by
 have sl:∀p c v,aY B g H p c v->aY B (g.grow (upd g.HF l u)) H p c v:=λp c v h=>aY.mv (g:=g) (g':=g.grow (upd g.HF l u)) (aX hf) d_ (λ_ q=>⟨q,rfl⟩) h;refine⟨x.st.mv (λb w e=>?_) (λb p e=>?_) (aX hf) rfl λ_ _ q _=>⟨q,rfl⟩,x.lc.len,λi c e=>let⟨v,h1,h2⟩:=x.lc.at_ i c e;⟨v,h1,sl _ _ _ h2⟩⟩
 ·have e:upd g.HF l u b=some w:=e
  by_cases hb:b=l
  ·subst hb;rw[ai]at e;cases e;exact hh
  ·rw[aq hb]at e;exact x.sub _ _ e
 ·obtain⟨h1,h2⟩:=x.st.live b p e
  have:b≠l:=λz=>by subst z;rw[show g.o b=some p from e]at ho;cases ho
  exact⟨by show upd g.HF l u b=none;rw[aq this];exact h1,h2⟩
def ez.Cy{g1:G}{H1:Hp}{l:Addr}{u:HO}(p:ez g H g1 H1)(h0:H l=none)(hf:g1.HF l=none):ez g H (g1.grow (upd g1.HF l u)) H1:=
 ⟨p.fr.trans (aX hf),p.pre,λb w h n z=>by
  obtain⟨a,b',c⟩:=p.rest b w h n z
  have:b≠l:=aL h h0
  exact⟨a,by show upd g1.HF l u b=none;rw[aq this];exact b',c⟩,p.there⟩
def vV(h:PE X e (tO B fl)):PE X e (tE B (fq fl)):=aP h λσ H Q z=>by
 obtain⟨g,s,t,s',x,h,k⟩:=z;obtain⟨⟨ts,s1⟩,h1,h⟩:=aa h;cases h;refine⟨g,s,_,_,x,h1,λl vs g1 H1 p1 x1 h0 n1 n2 hl r1=>?_⟩;exact k _ _ H1 (p1.Cy h0 n1) (x1.Cy n1 n2 hl) ⟨l,vs,rfl,ai,r1.same (aX n1)⟩
def MG(ha:PT X a (tT B ft)):PW X (.BoolOp .And [a] pos) (tT B ft):=Fz ha
def Rq(ha:PT X a (tT B ft)):PW X (.BoolOp .Or [a] pos) (tT B ft):=Lx ha
def Rr{rest:D1}(ha:PT X a (tT B ft))(hb:PW X (.BoolOp .And (b::rest) pos) (tT B fu)):PW X (.BoolOp .And (a::b::rest) pos) (tT B (gu ft fu)):=Kn (Ly ha hb) λσ H Q z=>by
 obtain⟨g,s,t,s',x,h,k⟩:=z;obtain⟨⟨d,s1⟩,h1,h⟩:=aa h;refine⟨g,s,d,s1,x,h1,λg1 H1 p1 x1=>?_⟩;cases d with
 |true=>exact qX ⟨g1,s1,_,_,x1,h,λg2 H2 p2 x2=>k g2 H2 (p1.trans p2) x2⟩
 |false=>cases h;exact qW (k g1 H1 p1 x1)
def Wz{rest:D1}(ha:PT X a (tT B ft))(hb:PW X (.BoolOp .Or (b::rest) pos) (tT B fu)):PW X (.BoolOp .Or (a::b::rest) pos) (tT B (vd ft fu)):=Kn (PL ha hb) λσ H Q z=>by
 obtain⟨g,s,t,s',x,h,k⟩:=z;obtain⟨⟨d,s1⟩,h1,h⟩:=aa h;refine⟨g,s,d,s1,x,h1,λg1 H1 p1 x1=>?_⟩;cases d with
 |true=>cases h;exact qX (k g1 H1 p1 x1)
 |false=>exact qW ⟨g1,s1,_,_,x1,h,λg2 H2 p2 x2=>k g2 H2 (p1.trans p2) x2⟩
def Rt(ha:PT X a (tT B ft)):PT X (.UnaryOp .Not a pos) (tT B (dH ft)):=tG (Lz ha) λσ H Q z=>by
 obtain⟨g,s,t,s',x,h,k⟩:=z;obtain⟨⟨d,s1⟩,h1,h⟩:=aa h;cases h;exact⟨g,s,d,s1,x,h1,λg1 H1 p1 x1=>k g1 H1 p1 x1⟩
def mj{t:T}{k:Bool}(h:MD t=some k):t=.bl k:=by
 cases t<;>first|(cases h;done)|(cases h;rfl)
def Cz{op}(ha:PE X a (tE B fa)):PE X (.BoolOp op [a] pos) (tE B fa):=LA ha
def MH{rest:D1}(ha:PE X a (tE B fa))(hb:PE X (.BoolOp .And (b::rest) pos) (tE B fb)):PE X (.BoolOp .And (a::b::rest) pos) (tE B (ng fa fb)):=aP (LB ha hb) λσ H Q z=>by
 obtain⟨g,s,t,s',x,h,k⟩:=z;obtain⟨⟨d,s1⟩,h1,h⟩:=aa h;obtain⟨d',h2,h⟩:=aa h;cases mj (aj h2);refine⟨g,s,_,s1,x,h1,λv g1 H1 p1 x1 r1=>⟨d',r1,?_⟩⟩;cases d' with
 |true=>exact qX ⟨g1,s1,_,_,x1,h,λw g2 H2 p2 x2 r2=>k w g2 H2 (p1.trans p2) x2 r2⟩
 |false=>cases h;exact qW (k _ g1 H1 p1 x1 rfl)
def Ru{rest:D1}(ha:PE X a (tE B fa))(hb:PE X (.BoolOp .Or (b::rest) pos) (tE B fb)):PE X (.BoolOp .Or (a::b::rest) pos) (tE B (Pe fa fb)):=aP (PQ ha hb) λσ H Q z=>by
 obtain⟨g,s,t,s',x,h,k⟩:=z;obtain⟨⟨d,s1⟩,h1,h⟩:=aa h;obtain⟨d',h2,h⟩:=aa h;cases mj (aj h2);refine⟨g,s,_,s1,x,h1,λv g1 H1 p1 x1 r1=>⟨d',r1,?_⟩⟩;cases d' with
 |true=>cases h;exact qX (k _ g1 H1 p1 x1 rfl)
 |false=>exact qW ⟨g1,s1,_,_,x1,h,λw g2 H2 p2 x2 r2=>k w g2 H2 (p1.trans p2) x2 r2⟩
def MI(ha:PE X a (tE B fa)):PE X (.UnaryOp .Not a pos) (tE B (nh fa)):=aP (LC ha) λσ H Q z=>by
 obtain⟨g,s,t,s',x,h,k⟩:=z;obtain⟨⟨d,s1⟩,h1,h⟩:=aa h;obtain⟨d',h2,h⟩:=aa h;cases mj (aj h2);cases h;exact⟨g,s,_,s1,x,h1,λv g1 H1 p1 x1 r1=>⟨d',r1,k _ g1 H1 p1 x1 rfl⟩⟩
def Rv(hc:PT X c (tT B ft))(ha:PE X a (tE B fa))(hb:PE X b (tE B fb)):PE X (.IfExp c a b pos) (tE B (xH ft fa fb)):=aP (sN hc ha hb) λσ H Q z=>by
 obtain⟨g,s,t,s',x,h,k⟩:=z;obtain⟨⟨d,s1⟩,h1,h⟩:=aa h;refine⟨g,s,d,s1,x,h1,λg1 H1 p1 x1=>?_⟩;cases d with
 |true=>exact qX ⟨g1,s1,_,_,x1,h,λw g2 H2 p2 x2 r2=>k w g2 H2 (p1.trans p2) x2 r2⟩
 |false=>exact qW ⟨g1,s1,_,_,x1,h,λw g2 H2 p2 x2 r2=>k w g2 H2 (p1.trans p2) x2 r2⟩
def CA{al:D2}{HF:Hp}{t:T}{k:Bool}{v:V}(h:GI t=some k)(sm:aO HF H)(r:Rep B al HF t v):L8 B.K v H k:=by
 cases t<;>first|(cases h;done)|skip
 ·cases h;cases r;rfl
 ·cases h
  obtain⟨a,vs,rfl,q,rr⟩:=r;refine .inl ⟨vs,cJ.of (sm _ _ q),?_⟩
  have:=rr.len
  rename_i xs;cases xs<;>cases vs<;>first|rfl|(cases this)
def Ku(ha:PE X a (tE B fa))(hB:B.K=X.K)(he:∀ie,isTrue a X.env ie=(do let v <- ie;standAt a.pos;holding [v] (truthy v))):PT X a (tT B (tB fa)):=tG (BQ ha he) λσ H Q z=>by
 obtain⟨g,s,t,s',x,h,k⟩:=z;obtain⟨⟨d,s1⟩,h1,h⟩:=aa h;obtain⟨d',h2,h⟩:=aa h;cases h;exact⟨g,s,_,s1,x,h1,λv g1 H1 p1 x1 r1=>⟨_,hB▸CA (aj h2) x1.sub r1,k g1 H1 p1 x1⟩⟩
section
def fU(l:Bi):(⟨l.toArray⟩:Str).length=l.length:=by show l.toArray.size=_;simp
def WA{l:Bi}(h:l.length<=1000000):(⟨l.toArray⟩:Str).length<=sizeLine:=by rw[fU,sizeLine_eq];omega
def MJ(a b:Bi):(⟨a.toArray⟩:Str)++⟨b.toArray⟩=⟨(a++b).toArray⟩:=by
 show(⟨a.toArray++b.toArray⟩:Str)=_;simp
def Kv:R2:=λx y H Q=>AI (λi j=>.int (i+j)) x y H Q\/(∃i j,x=.str i/\y=.str j/\i.length+j.length<=sizeLine/\Q (.str (i++j)) H)\/QC x y H Q
def GO:gk X (binaryOp .Add) Kv:=LY.or (vI.or Cc)
def Rw:sf X Q8 Kv:=λB hB al HF H x y t tx ty Q sm rx ry h k=>by
 cases tx<;>first|(cases h;done)|(cases ty<;>first|(cases h;done)|skip)
 ·cases h;exact .inl ⟨_,_,rx,ry,k _ HF H (.refl sm) rfl⟩
 ·obtain⟨c,rfl⟩:=aZ h
  obtain⟨rfl,_⟩:=rx;obtain⟨rfl,_⟩:=ry;refine .inr (.inl ⟨_,_,rfl,rfl,?_,?_⟩)
  ·rw[fU,fU,sizeLine_eq];omega
  ·rw[MJ]
   exact k _ HF H (.refl sm) ⟨rfl,by rw[dg];omega⟩
 ·obtain⟨c,rfl⟩:=aZ h
  obtain⟨l,xs,rfl,q,r⟩:=rx;obtain⟨m,ys,rfl,q',r'⟩:=ry;refine .inr (.inr ⟨l,m,xs,ys,rfl,rfl,sm _ _ q,sm _ _ q',by rw[<- r.len,<- r'.len,sizeLine_eq];omega,λp hp=>?_⟩)
  have gr:=Gr.new (o:=.lst (xs++ys)) sm hp;exact k _ _ _ gr ⟨p,_,rfl,ai,(r.app r').same gr.fr⟩
def Rx{f:T->T->FX}{gg:Int->Int->V}{G:Int->Int->T}(hf:∀tx ty t,f tx ty=some t->∃i j,tx=.int i/\ty=.int j/\t=G i j)(hg:∀B al i j H,Rep B al H (G i j) (gg i j)):sf X f (AI gg):=λB hB al HF H x y t tx ty Q sm rx ry h k=>by
 obtain⟨i,j,rfl,rfl,rfl⟩:=hf _ _ _ h;exact⟨i,j,rx,ry,k _ HF H (.refl sm) (hg B al i j HF)⟩
def Kw{f:T->T->FX}{gg:Int->Int->V}{G:Int->Int->T}{C:Int->Int->Prop}(hf:∀tx ty t,f tx ty=some t->∃i j,tx=.int i/\ty=.int j/\t=G i j/\C i j)(hg:∀B al i j H,Rep B al H (G i j) (gg i j)):sf X f (rI C gg):=λB hB al HF H x y t tx ty Q sm rx ry h k=>by
 obtain⟨i,j,rfl,rfl,rfl,c⟩:=hf _ _ _ h;exact⟨i,j,rx,ry,c,k _ HF H (.refl sm) (hg B al i j HF)⟩
def Ry:sf X Q9 (AI λi j=>.int (i-j)):=Rx (G:=λi j=>.int (i-j)) (λtx ty t h=>by
 cases tx<;>first | (cases h;done) | (cases ty<;>first | (cases h;done) | (cases h;exact⟨_,_,rfl,rfl,rfl⟩))) λ_ _ _ _ _=>rfl
def Rz:sf X Ra (rI Qa λi j=>.int (i/j)):=Kw (G:=λi j=>.int (i/j)) (λtx ty t h=>by
 cases tx<;>first | (cases h;done) | (cases ty<;>first | (cases h;done) | (obtain⟨c,rfl⟩:=aZ h;exact⟨_,_,rfl,rfl,rfl,c⟩))) λ_ _ _ _ _=>rfl
def RA:sf X Rb (rI (λ_ j=>0<j) λi j=>.int (i % j)):=Kw (G:=λi j=>.int (i % j)) (λtx ty t h=>by
 cases tx<;>first | (cases h;done) | (cases ty<;>first | (cases h;done) | (obtain⟨c,rfl⟩:=aZ h;exact⟨_,_,rfl,rfl,rfl,c⟩))) λ_ _ _ _ _=>rfl
def xN(i j:Int):Prop:=LX i j\/(i.natAbs.log2<2000000/\j.natAbs.log2<2000000)
def qb{i:Int}(h:i.natAbs.log2<2000000):Builtin.Int.intBits i<=2000000:=by
 unfold Builtin.Int.intBits;split
 ·omega
 ·omega
theorem xN.ok{i j:Int}(h:xN i j):IntMulOk i j:=by
 rcases h with h|⟨h1,h2⟩
 ·exact h.ok
 ·have a:=qb h1
  have b:=qb h2;intro q;rw[dh]at q;have c:=of_decide_eq_true (show decide (((Builtin.Int.intBits i:Nat):Int)+(Builtin.Int.intBits j:Nat) > (bitsLine:Nat))=true from q.2);have d:(bitsLine:Nat)=134217728:=rfl;omega
def GP:gk X (binaryOp .Mult) (rI xN λi j=>.int (i*j)):=VU λ_ _ _ _ _ _ _ hc q=>PyProof.Rows.mul_int q hc.ok
def CB:R2:=λx y H Q=>∃l k,x=SV l/\y=.int k/\(k=0\/k=1)/\l≠[]/\l.length<=1000000/\Q (SV (bX k.toNat l).flatten) H
def CD:gk X (binaryOp .Mult) CB:=by
 intro ae s σ H x y v u Q I rx ry h;obtain⟨l,k,rfl,rfl,hk,kG,hz,q⟩:=h;obtain⟨t,rfl⟩:=rx;obtain⟨t',rfl⟩:=ry;have len:=fU l;have hsz:=sizeLine_eq;have ă:0<l.length:=List.length_pos_iff.mpr kG;refine PySem.P.mul_str (by rw[decide_eq_false (by omega),decide_eq_false (by omega)];rfl) (λhn _=>?_) (λ_ _=>?_) ?_
 ·intro MK
  rw[len]at MK;rcases hk with rfl|rfl<;>omega
 ·rw[len]
  unfold Builtin.Str.tooLong;exact decide_eq_false (by rcases hk with rfl|rfl<;>simp<;>omega)
 ·rcases hk with rfl|rfl
  ·rw[if_pos (by omega)]
   exact⟨by show 0<=_;omega,⟨SV [],H,I.tok _,⟨_,rfl⟩,q⟩⟩
  ·rw[if_neg (by omega),if_pos (by simp)]
   have e:(bX (Int.toNat 1) l).flatten=l:=by simp
   rw[e]at q;exact⟨SV l,H,I,⟨_,rfl⟩,q⟩
def Kz:R2:=λx y H Q=>rI xN (λi j=>.int (i*j)) x y H Q\/QE x y H Q\/CB x y H Q
def GQ:gk X (binaryOp .Mult) Kz:=GP.or (Cd.or CD)
def KA:T->T->FX
 |.int i,.int j=>Q_ (.int i) (.int j)
 |.lst a,.int k=>Q_ (.lst a) (.int k)
 |.str l,.int k=>gd ((k=0\/k=1)/\l≠[]/\l.length<=1000000) (.str (bX k.toNat l).flatten)
 |_,_=>none
def RB:sf X KA Kz:=λB hB al HF H x y t tx ty Q sm rx ry h k=>by
 cases tx<;>first|(cases h;done)|(cases ty<;>first|(cases h;done)|skip)
 ·obtain⟨c,rfl⟩:=aZ h
  exact .inl ⟨_,_,rx,ry,c,k _ HF H (.refl sm) rfl⟩
 ·obtain⟨c,rfl⟩:=aZ h
  obtain⟨rfl,_⟩:=rx;refine .inr (.inr ⟨_,_,rfl,ry,c.1,c.2.1,c.2.2,k _ HF H (.refl sm) ⟨rfl,?_⟩⟩);rcases c.1 with e|e
  ·rw[e];simp
  ·rw[e];simpa using c.2.2
 ·obtain⟨c,rfl⟩:=aZ h
  obtain⟨l,xs,rfl,q,r⟩:=rx;refine .inr (.inl ⟨l,_,xs,rfl,ry,sm _ _ q,by omega,by omega,by rw[<- r.len,sizeLine_eq];omega,λp hp=>?_⟩)
  exact k _ _ _ (Gr.new sm hp) ⟨p,_,rfl,ai,(r.flat _).same (aX (sm.free hp))⟩
def dP:Operator->T->T->FX
 |.Add=>Q8
 |.Sub=>Q9
 |.Mult=>KA
 |.FloorDiv=>Ra
 |.Mod=>Rb
 |_=>λ_ _=>none
def RC(hB:B.K=X.K)(op:Operator)(ha:PE X a (tE B fa))(hb:PE X b (tE B fb)):PE X (.BinOp a op b pos) (tE B (bA (dP op) fa fb)):=by
 have no:∀f:T->T->FX,(∀x y,f x y=none)->PE X (.BinOp a op b pos) (tE B (bA f fa fb)):=λf hf _ _ _ _ _ _ z=>by
  obtain⟨_,_,_,_,_,h,_⟩:=z;obtain⟨⟨tx,s1⟩,h1,h⟩:=aa h;obtain⟨⟨ty,s2⟩,h2,h⟩:=aa h;obtain⟨t',h3,h⟩:=aa h;rw[hf]at h3;cases h3
 cases op
 case Add=>exact aP (mH GO ha hb) (k9 hB Rw)
 case Sub=>exact aP (mH LZ ha hb) (k9 hB Ry)
 case Mult=>exact aP (mH GQ ha hb) (k9 hB RB)
 case FloorDiv=>exact aP (mH FU ha hb) (k9 hB Rz)
 case Mod=>exact aP (mH L5 ha hb) (k9 hB RA)
 all_goals exact no _ λ_ _=>rfl
def RD(hB:B.K=X.K)(ha:PE X a (tE B fa)):PE X (.UnaryOp .USub a pos) (tE B (dq j3 fa)):=
 aP (P9 L6 ha) (Kr hB λB hB al HF H x t tx Q sm rx h k=>by
  cases tx<;>first|(cases h;done)|skip
  cases h;exact⟨_,rx,k _ HF H (.refl sm) rfl⟩)
end
section
def vW{B:KT}{al:D2}{H:Hp}{t:T}{v:V}(h:Rep B al H t v)(f:bK t=true):(t=.non/\v=.non)\/(∃b,t=.bl b/\v=.bl b)\/(∃i,t=.int i/\v=.int i)\/∃l,t=.str l/\v=.str ⟨l.toArray⟩:=by
 cases t with
 |non=>exact .inl ⟨rfl,h⟩
 |bl b=>exact .inr (.inl ⟨b,rfl,h⟩)
 |int i=>exact .inr (.inr (.inl ⟨i,rfl,h⟩))
 |str l=>exact .inr (.inr (.inr ⟨l,rfl,h.1⟩))
 |_=>cases f
def gH{B:KT}{al:D2}{H:Hp}{t:T}{v:V}(h:Rep B al H t v)(f:bK t=true):eW v=true:=by
 rcases vW h f with⟨_,rfl⟩|⟨_,_,rfl⟩|⟨_,_,rfl⟩|⟨_,_,rfl⟩<;>rfl
def str_beq(l m:Bi):((⟨l.toArray⟩:Str) == ⟨m.toArray⟩)=decide (l=m):=by
 by_cases h:l=m
 ·subst h;simp
 ·rw[decide_eq_false h,beq_eq_false_iff_ne]
  intro e;injection e with e
  exact h (by simpa using e)
def rm{B:KT}{al:D2}{H:Hp}{t u:T}{v w:V}(h:Rep B al H t v)(h':Rep B al H u w)(f:bK t=true)(f':bK u=true):E4 v w=eqT t u:=by
 rcases vW h f with⟨rfl,rfl⟩|⟨b,rfl,rfl⟩|⟨i,rfl,rfl⟩|⟨l,rfl,rfl⟩<;>rcases vW h' f' with⟨rfl,rfl⟩|⟨c,rfl,rfl⟩|⟨j,rfl,rfl⟩|⟨m,rfl,rfl⟩<;>first|rfl|exact str_beq _ _|exact Bool.beq_eq_decide_eq _ _
def tH{ae:dm}{σ:St}{H HF:Hp}{s:Shared}{a:Addr}{vs:List V}(I:Inv X ae σ H s)(sm:aO HF H)(h:HF a=some (.lst vs)):∃aF:Bz,Vals vs aF/\s.heap.IsList a aF.toArray:=by
 obtain⟨aF,r,p,hz⟩:=I.list (cJ.of (sm _ _ h));exact⟨aF,r,p.isList⟩
theorem tK{p:T->T->Bool}:∀{as bs:FV},all2 p as bs=true->∀{j:Nat}{a b:T},as[j]?=some a->bs[j]?=some b->p a b=true
 |a::as,b::bs,h,0,_,_,e1,e2=>by
  simp at e1 e2;subst e1 e2;exact(xm.mp h).1
 |a::as,b::bs,h,j+1,_,_,e1,e2=>tK (xm.mp h).2 (j:=j) (by simpa using e1) (by simpa using e2)
 |[],_,_,_,_,_,e1,_=>by simp at e1
 |_::_,[],_,_,_,_,_,e2=>by simp at e2
theorem nu:∀(xs ys:FV),((cP (min xs.length ys.length)).all (λj=>eqT (xs.getD j .non) (ys.getD j .non))&&xs.length == ys.length)=jB xs ys
 |[],[]=>rfl
 |[],_::_=>by simp[jB]
 |_::_,[]=>by simp[jB]
 |x::xs,y::ys=>by
  have ih:=nu xs ys;rw[eT,eT,Nat.succ_min_succ,wZ,eU,Jt];have e:(xs.length+1 == ys.length+1)=(xs.length == ys.length):=by
   by_cases h:xs.length=ys.length<;>simp[h]
  rw[e];show((eqT x y&&(cP (min xs.length ys.length)).all λj=>eqT (xs.getD j .non) (ys.getD j .non))&&_)=(eqT x y&&jB xs ys);rw[<- ih,Bool.and_assoc]
theorem tL:∀{xs ys:FV},xs.length≠ys.length->jB xs ys=false
 |[],[],h=>absurd rfl h
 |[],_::_,_=>rfl
 |_::_,[],_=>rfl
 |x::xs,y::ys,h=>by
  show(eqT x y&&jB xs ys)=false;rw[tL (λe=>h (by simp[e])),JM]
def CF{al:D2}{HF:Hp}{A:Around}{s:Shared}{ts us:FV}{vs ws:List V}{aF its':Bz}(r:aB B al HF ts vs)(r':aB B al HF us ws)(rv:Vals vs aF)(RE:Vals ws its')(sh:all2 (λa b=>bK a&&bK b) ts us=true)
  (ih:∀{t u:T}{v w:V}{x y:Value},Rep B al HF t v->Rep B al HF u w->RelV v x->RelV w y->(bK t&&bK u)=true->SeqAt.EqAt A s x y (eqT t u)) :
  ∀j(h1:j<aF.toArray.size)(h2:j<its'.toArray.size),SeqAt.EqAt A s aF.toArray[j] its'.toArray[j] ((λj=>eqT (ts.getD j .non) (us.getD j .non)) j):=by
 intro j h1 h2;have l1:=rv.length;have l2:=RE.length;have l3:=r.len;have l4:=r'.len;have WC:j<ts.length:=by rw[l3,l1];simpa using h1
 have vc:j<us.length:=by rw[l4,l2];simpa using h2
 obtain⟨v,e1,q1⟩:=r.get (fj WC);obtain⟨w,e2,q2⟩:=r'.get (fj vc);obtain⟨x,e3,q3⟩:=rv.get e1;obtain⟨y,e4,q4⟩:=RE.get e2;have q5:aF.toArray[j]=x:=by
  obtain⟨_,z⟩:=c_.mp e3;simpa using z
 have q6:its'.toArray[j]=y:=by
  obtain⟨_,z⟩:=c_.mp e4;simpa using z
 rw[q5,q6];have g1:ts.getD j .non=ts[j]:=by rw[ze,fj WC];rfl
 have g2:us.getD j .non=us[j]:=by rw[ze,fj vc];rfl
 show SeqAt.EqAt A s x y (eqT (ts.getD j .non) (us.getD j .non));rw[g1,g2];exact ih q1 q2 q3 q4 (tK sh (fj WC) (fj vc))
open PySem.SeqAt in
def GR{al:D2}{HF:Hp}{A:Around}{s:Shared}{t u:T}{v w:V}{x y:Value}(rt:Rep B al HF t v)(ru:Rep B al HF u w)(rx:RelV v x)(ry:RelV w y)(f1:bK t=true)(f2:bK u=true):RcAt A s x y (eqT t u)/\RcNeAt A s x y (!eqT t u):=by
 rw[<- rm rt ru f1 f2];have g1:=gH rt f1;have g2:=gH ru f2;cases v with
 |non=>
  cases rx;cases w with
  |non=>cases ry;exact⟨RcAt.none_none,RcNeAt.none_none⟩
  |bl b=>cases ry;exact⟨RcAt.none_bool b,RcNeAt.none_bool b⟩
  |int b=>obtain⟨t,rfl⟩:=ry;exact⟨RcAt.none_int b t,RcNeAt.none_int b t⟩
  |str b=>obtain⟨t,rfl⟩:=ry;exact⟨RcAt.none_str b t,RcNeAt.none_str b t⟩
  |_=>exact absurd (show false=true from g2) fL
 |bl a=>
  cases rx;cases w with
  |non=>cases ry;exact⟨RcAt.bool_none a,RcNeAt.bool_none a⟩
  |bl b=>cases ry;exact⟨RcAt.bool_bool a b,RcNeAt.bool_bool a b⟩
  |int b=>obtain⟨t,rfl⟩:=ry;exact⟨RcAt.bool_int a b t,RcNeAt.bool_int a b t⟩
  |str b=>obtain⟨t,rfl⟩:=ry;exact⟨RcAt.bool_str a b t,RcNeAt.bool_str a b t⟩
  |_=>exact absurd (show false=true from g2) fL
 |int a=>
  obtain⟨t',rfl⟩:=rx;cases w with
  |non=>cases ry;exact⟨RcAt.int_none a t',RcNeAt.int_none a t'⟩
  |bl b=>cases ry;exact⟨RcAt.int_bool a t' b,RcNeAt.int_bool a t' b⟩
  |int b=>obtain⟨t,rfl⟩:=ry;exact⟨RcAt.int_int a t' b t,RcNeAt.int_int a t' b t⟩
  |str b=>obtain⟨t,rfl⟩:=ry;exact⟨RcAt.int_str a t' b t,RcNeAt.int_str a t' b t⟩
  |_=>exact absurd (show false=true from g2) fL
 |str a=>
  obtain⟨t',rfl⟩:=rx;cases w with
  |non=>cases ry;exact⟨RcAt.str_none a t',RcNeAt.str_none a t'⟩
  |bl b=>cases ry;exact⟨RcAt.str_bool a t' b,RcNeAt.str_bool a t' b⟩
  |int b=>obtain⟨t,rfl⟩:=ry;exact⟨RcAt.str_int a t' b t,RcNeAt.str_int a t' b t⟩
  |str b=>obtain⟨t,rfl⟩:=ry;exact⟨RcAt.str_str a t' b t,RcNeAt.str_str a t' b t⟩
  |_=>exact absurd (show false=true from g2) fL
 |_=>exact absurd (show false=true from g1) fL
def CG{al:D2}(hB:B.K=X.K){ae:dm}{σ:St}{H HF:Hp}{s:Shared}(I:Inv X ae σ H s)(sm:aO HF H)(A:Around){t u:T}{v w:V}{x y:Value}(hu:A.units+6<cLine)(rt:Rep B al HF t v)(ru:Rep B al HF u w)(rx:RelV v x)(ry:RelV w y)(sh:shape 5 t u=true) :
  SeqAt.RcAt A s x y (eqT t u)/\SeqAt.RcNeAt A s x y (!eqT t u):=by
 have flat:(bK t&&bK u)=true->SeqAt.RcAt A s x y (eqT t u)/\SeqAt.RcNeAt A s x y (!eqT t u):=λsh=>by
  obtain⟨f1,f2⟩:=xm.mp sh;exact GR rt ru rx ry f1 f2
 have U5:A.units<cLine:=by omega
 have dp:=λ{t u:T} {v w:V} {x y:Value} (a:Rep B al HF t v) (b:Rep B al HF u w) (c:RelV v x) (d:RelV w y) (e:(bK t&&bK u)=true)=>show SeqAt.EqAt A.in1 s x y (eqT t u)from by
  obtain⟨f1,f2⟩:=xm.mp e;rw[<- rm a b f1 f2];exact B6 c d (gH a f1) (gH b f2)
 cases t with
 |lst ts=>
  cases u with
  |lst us=>
   obtain⟨a,vs,rfl,q,r⟩:=id rt;obtain⟨b,ws,rfl,q',r'⟩:=id ru;cases rx;cases ry;obtain⟨aF,rv,ht⟩:=tH I sm q;obtain⟨its',RE,U6⟩:=tH I sm q';have l1:=rv.length;have l2:=RE.length;have l3:=r.len;have l4:=r'.len;by_cases hsz:ts.length=us.length
   ·have it:=CF (A:=A.in1) (s:=s) r r' rv RE sh dp
    have hs:aF.toArray.size=its'.toArray.size:=by rw[cQ,cQ];omega
    have z:=SeqAt.RcAt.lists ht U6 hs U5 it;have z2:=SeqAt.RcNeAt.lists ht U6 hs U5 it;have e:=nu ts us;rw[<- hsz,wY,beq_self_eq_true,Bv]at e;rw[cQ,<- l1,<- l3,e]at z z2;exact⟨z,z2⟩
   ·have hs:(aF.toArray.size != its'.toArray.size)=true:=by rw[cQ,cQ,bne_iff_ne];omega
    have z:=SeqAt.RcAt.lists_lengths (s:=s) (A:=A) ht U6 hs U5;have z2:=SeqAt.RcNeAt.lists_lengths (s:=s) (A:=A) ht U6 hs U5;have e:eqT (.lst ts) (.lst us)=false:=tL hsz;rw[e];exact⟨z,z2⟩
  |_=>exact flat sh
 |_=>exact flat (by cases u<;>exact sh)
def CH(hu:X.A.units+6<cLine):gk X (compareOp .Eq) (λx y H Q=>∃B al HF t u,B.K=X.K/\aO HF H/\Rep B al HF t x/\Rep B al HF u y/\shape 5 t u=true/\Q (.bl (eqT t u)) H):=by
 intro ae s σ H x y v u Q I rx ry h;obtain⟨B,al,HF,t,u',hB,sm,rt,ru,sh,q⟩:=h;exact(CG hB I sm X.A hu rt ru rx ry sh).1 _ _ _ _ (iE I q rfl)
def CI(hu:X.A.units+6<cLine):gk X (compareOp .NotEq) (λx y H Q=>∃B al HF t u,B.K=X.K/\aO HF H/\Rep B al HF t x/\Rep B al HF u y/\shape 5 t u=true/\Q (.bl (!eqT t u)) H):=by
 intro ae s σ H x y v u Q I rx ry h;obtain⟨B,al,HF,t,u',hB,sm,rt,ru,sh,q⟩:=h;exact(CG hB I sm X.A hu rt ru rx ry sh).2 _ _ _ _ (iE I q rfl)
def CJ:gk X (compareOp .Is) (λx y H Q=>∃a b,x=.bl a/\y=.bl b/\Q (.bl (a == b)) H):=by
 intro ae s σ H x y v u Q I rx ry h;obtain⟨a,b,rfl,rfl,q⟩:=h;cases rx;cases ry;exact PyProof.Rows.is_bool (iE I q rfl)
theorem tM{B:KT}{al:D2}{H:Hp}:∀{ts:FV}{vs:List V},aB B al H ts vs->ts.all bK=true->vs.all eW=true
 |[],_,h,_=>by cases(show _=[]from h);rfl
 |t::ts,_,h,f=>by
  obtain⟨v,r,rfl,h1,h2⟩:=h;rw[eU,dh]at f;rw[eU,gH h1 f.1,tM h2 f.2];rfl
theorem any_eq{B:KT}{al:D2}{H:Hp}{x:T}{xv:V}(hx:Rep B al H x xv)(fx:bK x=true):∀{ts:FV}{vs:List V},aB B al H ts vs->ts.all bK=true->(vs.any λy=>E4 y xv)=ts.any λy=>eqT y x
 |[],_,h,_=>by cases(show _=[]from h);rfl
 |t::ts,_,h,f=>by
  obtain⟨v,r,rfl,h1,h2⟩:=h;rw[eU,dh]at f;rw[qE,qE,rm h1 hx f.1 fx,any_eq hx fx h2 f.2]
def vX{α:Type}(xs:List α)(i:Int):atT xs i=B5 xs i:=by
 unfold atT B5 Gh;by_cases h0:0<=i
 ·rw[if_pos h0,if_pos h0]
  by_cases h1:i<xs.length
  ·rw[if_pos h1,if_pos h1];rfl
  ·rw[if_neg h1,if_neg h1];rfl
 ·rw[if_neg h0,if_neg h0]
  by_cases h1:-(xs.length:Int)<=i
  ·rw[if_pos h1,if_pos h1];rfl
  ·rw[if_neg h1,if_neg h1];rfl
def rn{B:KT}{al:D2}{H:Hp}{ts:FV}{vs:List V}{i:Int}{t:T}(r:aB B al H ts vs)(h:atT ts i=some t):∃v,B5 vs i=some v/\Rep B al H t v:=by
 rw[vX]at h;unfold B5 at h ⊢;rw[<- r.len];cases e:Gh ts.length i with
 |none=>rw[e]at h;cases h
 |some j=>
  rw[e]at h;exact r.get h
end
section
variable{p2:Pos}{Pf Ph:FO}{Pj Pk:Option Expr}
def ML:T->Bool
 |.non=>true
 |_=>false
def CK{al:D2}{H:Hp}{t:T}{v:V}(h:Rep B al H t v):decide (v=.non)=ML t:=by
 cases t with
 |non=>cases(show v=.non from h);rfl
 |bl b=>cases(show v=.bl b from h);rfl
 |int i=>cases(show v=.int i from h);rfl
 |str l=>obtain⟨rfl,_⟩:=h;rfl
 |tup ts=>obtain⟨a,vs,rfl,_⟩:=h;rfl
 |lst ts=>obtain⟨a,vs,rfl,_⟩:=h;rfl
 |scr ts=>obtain⟨a,rfl,_⟩:=h;rfl
 |obj _ _=>obtain⟨a,_,_,_,_,rfl,_⟩:=h;rfl
 |own _=>obtain⟨a,rfl,_⟩:=h;rfl
 |iA _ _=>obtain⟨a,xs,rfl,_⟩:=h;rfl
def Ą:R2:=λx y H Q=>(y=.non/\Q (.bl (decide (x=.non))) H)\/∃a b,x=.bl a/\y=.bl b/\Q (.bl (a == b)) H
def WD:R2:=λx y H Q=>(y=.non/\Q (.bl (!decide (x=.non))) H)\/∃a b,x=.bl a/\y=.bl b/\Q (.bl (a != b)) H
def GS{tx ty t:T}(h:Wt tx ty=some t):(ty=.non/\t=.bl (ML tx))\/∃a b,tx=.bl a/\ty=.bl b/\t=.bl (a == b):=by
 cases tx<;>cases ty<;>first|(cases h;done)|(cases h;exact .inl ⟨rfl,rfl⟩)|(cases h;exact .inr ⟨_,_,rfl,rfl,rfl⟩)
def CL{tx ty t:T}(h:MA tx ty=some t):(ty=.non/\t=.bl (!ML tx))\/∃a b,tx=.bl a/\ty=.bl b/\t=.bl (a != b):=by
 cases tx<;>cases ty<;>first|(cases h;done)|(cases h;exact .inl ⟨rfl,rfl⟩)|(cases h;exact .inr ⟨_,_,rfl,rfl,rfl⟩)
def WE:sf X Wt Ą:=λB hB al HF H x y t tx ty Q sm rx ry h k=>by
 rcases GS h with⟨rfl,rfl⟩|⟨a,b,rfl,rfl,rfl⟩
 ·exact .inl ⟨ry,by rw[CK rx];exact k _ HF H (.refl sm) rfl⟩
 ·exact .inr ⟨a,b,rx,ry,k _ HF H (.refl sm) rfl⟩
def RG:sf X MA WD:=λB hB al HF H x y t tx ty Q sm rx ry h k=>by
 rcases CL h with⟨rfl,rfl⟩|⟨a,b,rfl,rfl,rfl⟩
 ·exact .inl ⟨ry,by rw[CK rx];exact k _ HF H (.refl sm) rfl⟩
 ·exact .inr ⟨a,b,rx,ry,k _ HF H (.refl sm) rfl⟩
def CM(K:bD)(neg:Bool):R2:=λx y H Q=>(∃i j,x=.str i/\y=.str j/\Q (.bl (if neg then(!(!(Builtin.Str.occurrences j i 0 j.length 1).isEmpty))else(!(Builtin.Str.occurrences j i 0 j.length 1).isEmpty))) H)\/UQ K neg x y H Q
def MM:gk X (compareOp .In) (CM X.K false):=zH.or zS
def GU:gk X (compareOp .NotIn) (CM X.K true):=qL.or qV
def GW{tx ty:T}{k:Bool}(h:Pd tx ty=some k):(∃x l,tx=.str x/\ty=.str l/\k=Wu x l)\/((∃ys,(ty=.tup ys\/ty=.lst ys)/\(bK tx=true/\ys.all bK=true)/\k=ys.any λy=>eqT y tx)):=by
 cases ty with
 |str l=>
  cases tx with
  |str m=>cases h;exact .inl ⟨m,l,rfl,rfl,rfl⟩
  |_=>cases h
 |tup ys=>
  have h:gd (bK tx=true/\ys.all bK=true) (ys.any λy=>eqT y tx)=some k:=by cases tx<;>exact h
  obtain⟨c,rfl⟩:=aZ h;exact .inr ⟨ys,.inl rfl,c,rfl⟩
 |lst ys=>
  have h:gd (bK tx=true/\ys.all bK=true) (ys.any λy=>eqT y tx)=some k:=by cases tx<;>exact h
  obtain⟨c,rfl⟩:=aZ h;exact .inr ⟨ys,.inr rfl,c,rfl⟩
 |_=>cases tx<;>cases h
def xO(x l:Bi):(!(Builtin.Str.occurrences (⟨l.toArray⟩:Str) ⟨x.toArray⟩ 0 (⟨l.toArray⟩:Str).length 1).isEmpty)=(cP (l.length+1)).any λi=>decide (i+x.length<=l.length)&&((l.drop i).take x.length == x):=by
 rw[JN,StrLaws.found_iff,Bk];constructor
 ·rintro⟨i,h1,h2⟩
  rw[StrLaws.subAt_eq,fU]at h2;rw[fU,fU]at h1;exact⟨i,Fo.mpr (by omega),by rw[decide_eq_true h1,vv];exact h2⟩
 ·rintro⟨i,_,h⟩
  rw[dh,decide_eq_true_iff]at h;exact⟨i,by rw[fU,fU];exact h.1,by rw[StrLaws.subAt_eq,fU];exact h.2⟩
def GX(x l:Bi):(!(Builtin.Str.occurrences (⟨l.toArray⟩:Str) ⟨x.toArray⟩ 0 (⟨l.toArray⟩:Str).length 1).isEmpty)=Wu x l:=by
 match x with
 |[]=>exact xO ..
 |[c]=>exact StrLaws.found_one ..
 |_::_::_=>exact xO ..
def KC{neg:Bool}{B:KT}(hB:B.K=X.K){al:D2}{HF H:Hp}{x y:V}{tx ty:T}{k:Bool}{Q:VK}(sm:aO HF H)(rx:Rep B al HF tx x)(ry:Rep B al HF ty y)(h:Pd tx ty=some k)(q:Q (.bl (if neg then !k else k)) H):CM X.K neg x y H Q:=by
 rcases GW h with⟨x,l,rfl,rfl,rfl⟩|⟨ys,hy,⟨f1,f2⟩,rfl⟩
 ·obtain⟨rfl,_⟩:=rx
  obtain⟨rfl,_⟩:=ry;refine .inl ⟨_,_,rfl,rfl,?_⟩;rw[GX];exact q
 ·right
  have main:∀a vs,y=.ref a->(cJ X.K H a vs\/lO X.K H a vs)->aB B al HF ys vs->UQ X.K neg x y H Q:=λa vs ey sq r=>by
   refine⟨a,vs,ey,sq,gH rx f1,tM r f2,?_⟩;unfold V3;rw[any_eq rx f1 r f2];exact q
  rcases hy with rfl|rfl
  ·obtain⟨a,vs,rfl,q1,r⟩:=ry
   exact main a vs rfl (.inr (hB▸cY sm q1)) r
  ·obtain⟨a,vs,rfl,q1,r⟩:=ry
   exact main a vs rfl (.inl (cJ.of (sm _ _ q1))) r
def WG:sf X inD (CM X.K false):=λB hB al HF H x y t tx ty Q sm rx ry h k=>by
 unfold inD at h;cases e:Pd tx ty with
 |none=>rw[e]at h;cases h
 |some d=>rw[e]at h;cases h;exact KC hB sm rx ry e (k _ HF H (.refl sm) rfl)
def RI:sf X MB (CM X.K true):=λB hB al HF H x y t tx ty Q sm rx ry h k=>by
 unfold MB at h;cases e:Pd tx ty with
 |none=>rw[e]at h;cases h
 |some d=>rw[e]at h;cases h;exact KC hB sm rx ry e (k _ HF H (.refl sm) rfl)
def RJ(X:Cx)(neg:Bool):R2:=λx y H Q=>∃B al HF t u,B.K=X.K/\aO HF H/\Rep B al HF t x/\Rep B al HF u y/\shape 5 t u=true/\Q (.bl (if neg then !eqT t u else eqT t u)) H
def WI:sf X Ws (RJ X false):=λB hB al HF H x y t tx ty Q sm rx ry h k=>by
 obtain⟨c,rfl⟩:=aZ h;exact⟨B,al,HF,tx,ty,hB,sm,rx,ry,c,k _ HF H (.refl sm) rfl⟩
def WJ:sf X Y0 (RJ X true):=λB hB al HF H x y t tx ty Q sm rx ry h k=>by
 obtain⟨c,rfl⟩:=aZ h;exact⟨B,al,HF,tx,ty,hB,sm,rx,ry,c,k _ HF H (.refl sm) rfl⟩
def xP(f:Int->Int->Bool):sf X (Ct f) (AI λi j=>.bl (f i j)):=Rx (G:=λi j=>.bl (f i j)) (λtx ty t h=>by
 cases tx<;>first | (cases h;done) | (cases ty<;>first | (cases h;done) | (cases h;exact⟨_,_,rfl,rfl,rfl⟩))) λ_ _ _ _ _=>rfl
def RK:CmpOp->T->T->FX
 |.Eq=>Ws
 |.NotEq=>Y0
 |.Lt=>Ct λi j=>decide (i<j)
 |.LtE=>Ct λi j=>decide (i<=j)
 |.Gt=>Ct λi j=>decide (j<i)
 |.GtE=>Ct λi j=>decide (j<=i)
 |.Is=>Wt
 |.IsNot=>MA
 |.In=>inD
 |.NotIn=>MB
def MN{op:CmpOp}{k:Nat}(hr:bM k X.A):∃r,gk X (compareOp op) r/\sf X (RK op) r:=by
 have hu:X.A.units+6<cLine:=by have:=hr.units;omega
 cases op
 case Eq=>exact⟨_,CH hu,WI⟩
 case NotEq=>exact⟨_,CI hu,WJ⟩
 case Lt=>exact⟨_,Qc,xP _⟩
 case LtE=>exact⟨_,Qd,xP _⟩
 case Gt=>exact⟨_,Qe,xP _⟩
 case GtE=>exact⟨_,Qf,xP _⟩
 case Is=>exact⟨_,L7.or CJ,WE⟩
 case IsNot=>exact⟨_,FW.or sX,RG⟩
 case In=>exact⟨_,MM,WG⟩
 case NotIn=>exact⟨_,GU,RI⟩
def bu(a:FE):FT:=λs=>(a s).bind λp=>(aT (MD p.1)).bind λb=>.ok (b,p.2)
def CN{f:FE}{σ:St}{H:Hp}{Q:Bool->Hp->Prop}(h:tT B (bu f) σ H Q):tE B f σ H (λx H'=>∃k,x=.bl k/\Q k H'):=by
 obtain⟨g,s,t,s',x,h,k⟩:=h;obtain⟨⟨d,s1⟩,h1,h⟩:=aa h;obtain⟨d',h2,h⟩:=aa h;cases mj (aj h2);cases h;exact⟨g,s,_,s1,x,h1,λv g1 H1 p1 x1 r1=>⟨_,r1,k g1 H1 p1 x1⟩⟩
def jf:T->T->FX
 |.iA _ _,_=>none
 |x,y=>GH x y
def CO{tx ty t:T}(h:jf tx ty=some t):∃i,ty=.int i/\((∃xs,(tx=.lst xs\/tx=.tup xs)/\atT xs i=some t)\/(∃l c,tx=.str l/\atT l i=some c/\t=.str [c])\/∃ns n,tx=.scr ns/\atT ns i=some n/\t=.int n):=by
 cases tx<;>first|(cases h;done)|(cases ty<;>first|(cases h;done)|skip)
 ·rename_i l i
  have h:(atT l i).map (λc=>T.str [c])=some t:=h;cases e:atT l i with
  |none=>rw[e]at h;cases h
  |some c=>rw[e]at h;cases h;exact⟨i,rfl,.inr (.inl ⟨l,c,rfl,e,rfl⟩)⟩
 ·exact⟨_,rfl,.inl ⟨_,.inr rfl,h⟩⟩
 ·exact⟨_,rfl,.inl ⟨_,.inl rfl,h⟩⟩
 ·rename_i l i
  have h:(atT l i).map T.int=some t:=h;cases e:atT l i with
  |none=>rw[e]at h;cases h
  |some c=>rw[e]at h;cases h;exact⟨i,rfl,.inr (.inr ⟨l,c,rfl,e,rfl⟩)⟩
def MO{α β:Type}(f:α->β){l:List α}{i:Int}{c:α}(h:atT l i=some c):B5 (l.map f) i=some (f c):=by
 rw[vX]at h;unfold B5 at h ⊢;rw[b_];cases e:Gh l.length i with
 |none=>rw[e]at h;cases h
 |some j=>
  rw[e]at h;show(A9 f _)[j]?=_;rw[fZ,show _[j]?=some c from h];rfl
def WK:sf X jf (Yz X.K):=λB hB al HF H x y t tx ty Q sm rx ry h k=>by
 obtain⟨i,rfl,⟨xs,hx|hx,e⟩|⟨l,c,rfl,e,rfl⟩|⟨ns,n,rfl,e,rfl⟩⟩:=CO h
 ·subst hx
  obtain⟨p,vs,rfl,q,r⟩:=rx;obtain⟨v,e,rv⟩:=rn r e;exact .inl ⟨p,vs,_,v,rfl,ry,cJ.of (sm _ _ q),e,k v HF H (.refl sm) rv⟩
 ·subst hx
  obtain⟨p,vs,rfl,q,r⟩:=rx;obtain⟨v,e,rv⟩:=rn r e;exact .inr (.inl ⟨p,vs,_,v,rfl,ry,hB▸cY sm q,e,k v HF H (.refl sm) rv⟩)
 ·obtain⟨rfl,hz⟩:=rx
  refine .inr (.inr ⟨_,_,c,rfl,ry,WA hz,?_,k _ HF H (.refl sm) ⟨rfl,by simp⟩⟩)
  rw[<- vX];exact e
 ·obtain⟨p,rfl,q⟩:=rx
  exact .inl ⟨p,_,_,.int n,rfl,ry,hB▸sm.seq q,MO V.int e,k _ HF H (.refl sm) rfl⟩
def RL(hB:B.K=X.K)(ha:PE X a (tE B fa))(hb:PE X b (tE B fb))(hs:jY b):PE X (.Subscript a b pos) (tE B (bA jf fa fb)):=aP (Ke Me ha hb hs) (k9 hB WK)
end
end D
namespace L2
open PySem PySem.Spec PyProof.Rows
section
variable{X:Cx}
theorem qc:∀(ls:BM)(t:Nat),Vals (ls.map V.str) (strsFrom t ls)
 |[],_=>.nil
 |x::ls,t=>.cons ⟨_,rfl⟩ (qc ls (t+1))
def CP:zR X "str.split" (λx vs H Q=>∃a b,x=.str a/\vs=[.str b]/\(b.length == 0)=false/\a.length<=sizeLine/\(Txt.split a b).length<=sizeLine/\∀l,H l=none->Q (.ref l) (upd H l (.lst ((Txt.split a b).map V.str)))):=by
 intro ae s σ H x vs v us Q I rx rv h;obtain⟨a,b,rfl,rfl,hb,ha,hz,q⟩:=h;obtain⟨t,rfl⟩:=rx;obtain⟨u,rfl,⟨t',rfl⟩⟩:=rv.one;unfold Txt.split at hz q;by_cases c1:(decide (a.length<b.length) ||decide (Builtin.Str.strKind a<Builtin.Str.strKind b))=true
 ·rw[if_pos c1]at hz q
  refine call_meets F.slot_str_split (typeIs_str s a t) F.entry_str_split (F.args_str_split_2 _ _) (meets_str_split_cannot_occur a b t t' c1) ?_;exact⟨.ref s.heap.objs.size,_,I.zT (t':=s.toks) (ys:=[V.str a]) (.cons ⟨_,rfl⟩ .nil) hz,rfl,q _ I.fresh⟩
 ·rw[if_neg c1]at hz q
  have Y5:(decide (a.length<b.length) ||decide (Builtin.Str.strKind a<Builtin.Str.strKind b))=false:=by
   rcases JO (decide (a.length<b.length) ||decide (Builtin.Str.strKind a<Builtin.Str.strKind b))with z|z
   ·exact absurd z c1
   ·exact z
  by_cases c2:(Builtin.Str.occurrences a b 0 a.length (a.length+1)).isEmpty=true
  ·rw[if_pos c2]at hz q
   refine call_meets F.slot_str_split (typeIs_str s a t) F.entry_str_split (F.args_str_split_2 _ _) (meets_str_split_not_found a b t t' Y5 hb c2) ?_;exact⟨.ref s.heap.objs.size,_,I.zT (t':=s.toks) (ys:=[V.str a]) (.cons ⟨_,rfl⟩ .nil) hz,rfl,q _ I.fresh⟩
  ·rw[if_neg c2]at hz q
   have ą:(Builtin.Str.occurrences a b 0 a.length (a.length+1)).isEmpty=false:=by
    rcases JO (Builtin.Str.occurrences a b 0 a.length (a.length+1)).isEmpty with z|z
    ·exact absurd z c2
    ·exact z
   refine call_meets F.slot_str_split (typeIs_str s a t) F.entry_str_split (F.args_str_split_2 _ _) (meets_str_split_sep a b t t' Y5 hb ą ha hz) ?_;exact⟨.ref s.heap.objs.size,_,I.zT (qc _ _) (by rw[b_];exact hz),rfl,q _ I.fresh⟩
end
section
variable{X:Cx}
def CQ:zR X "str.find" (λx vs H Q=>∃a b,x=.str a/\vs=[.str b]/\Q (.int (Txt.find a b)) H):=by
 intro ae s σ H x vs v us Q I rx rv h;obtain⟨a,b,rfl,rfl,q⟩:=h;obtain⟨t,rfl⟩:=rx;obtain⟨u,rfl,⟨t',rfl⟩⟩:=rv.one;exact SC.find ⟨.int _,H,I.tok _,⟨_,rfl⟩,q⟩
end
end L2
namespace D
open PySem L2
variable{X:Cx}{env:Env}{a b c e o tg:Expr}{fa fb fc fo:FE}{fl:FL}{g g':G}{H H':Hp}{B:KT}{es:D1}{bF bP p pos:Pos}{s s':S}{σ:St}{x y:Str}
section
variable{p2:Pos}{Pf Ph:FO}{Pj Pk:Option Expr}
def CS(lo hi:Ee)(n:Nat):Builtin.Str.strSliceIndices lo hi 1 n=Builtin.Str.strSliceIndices (some ((D.gK n 0 lo:Nat):Int)) (some ((D.gK n n hi:Nat):Int)) 1 n:=by
 have c:∀v:Int,max 0 (min (if v<0 then v+(n:Int)else v) (n:Int))=((if v<0 then(v+(n:Int)).toNat else min v.toNat n:Nat):Int):=λv=>by
  by_cases hv:v<0
  ·rw[if_pos hv,if_pos hv];omega
  ·rw[if_neg hv,if_neg hv];omega
 have d:∀m:Nat,m<=n->max 0 (min (if((m:Nat):Int)<0 then((m:Nat):Int)+(n:Int)else((m:Nat):Int)) (n:Int))=((m:Nat):Int):=λm hm=>by
  rw[if_neg (by omega)];omega
 have l1:D.gK n 0 lo<=n:=by
  cases lo with
  |none=>exact jb _
  |some v=>show(if v<0 then(v+(n:Int)).toNat else min v.toNat n)<=n;split<;>omega
 have l2:D.gK n n hi<=n:=by
  cases hi with
  |none=>exact bV _
  |some v=>show(if v<0 then(v+(n:Int)).toNat else min v.toNat n)<=n;split<;>omega
 unfold Builtin.Str.strSliceIndices;simp only[show((1:Int) > 0)from by decide,if_true]
 rw[d _ l1,d _ l2]
 congr 1
 ·cases lo with
  |none=>rfl
  |some v=>exact c v
 ·cases hi with
  |none=>rfl
  |some v=>exact c v
def CT(n d:Nat)(hd:d<=n)(o:Ee):D.gK n d o<=n:=by
 cases o with
 |none=>exact hd
 |some v=>show(if v<0 then(v+(n:Int)).toNat else min v.toNat n)<=n;split<;>omega
def cut_str(l:Bi)(lo hi:Ee):Txt.slice ⟨l.toArray⟩ lo hi=⟨(cA l lo hi).toArray⟩:=by
 have e0:Txt.slice ⟨l.toArray⟩ lo hi=StrLaws.sliceText ⟨l.toArray⟩ lo hi:=rfl;have e1:StrLaws.sliceText ⟨l.toArray⟩ lo hi=StrLaws.sliceText ⟨l.toArray⟩ (some ((D.gK l.length 0 lo:Nat):Int)) (some ((D.gK l.length l.length hi:Nat):Int)):=by
  unfold StrLaws.sliceText;rw[fU,CS]
 rw[e0,e1];have h2:=CT l.length l.length (bV _) hi;by_cases hab:D.gK l.length 0 lo<=D.gK l.length l.length hi
 ·rw[StrLaws.sliceText_nat _ hab (by rw[fU];exact h2)]
  rfl
 ·have h1:=CT l.length 0 (jb _) lo
  have e3:cA l lo hi=[]:=by
   unfold cA;rw[show D.gK l.length l.length hi-D.gK l.length 0 lo=0 by omega,List.take_zero]
  rw[e3];have e4:Builtin.Str.strSliceIndices (some ((D.gK l.length 0 lo:Nat):Int)) (some ((D.gK l.length l.length hi:Nat):Int)) 1 l.length=[]:=by
   have d:∀m:Nat,m<=l.length->max 0 (min (if((m:Nat):Int)<0 then((m:Nat):Int)+(l.length:Int)else((m:Nat):Int)) (l.length:Int))=((m:Nat):Int):=λm hm=>by
    rw[if_neg (by omega)];omega
   unfold Builtin.Str.strSliceIndices;simp only[show((1:Int) > 0)from by decide,if_true]
   rw[d _ h1,d _ h2];simp only[sliceRange];rw[if_pos (by decide),if_neg (by omega)]
   rfl
  unfold StrLaws.sliceText;rw[fU,e4];rw[if_neg (by simp;omega)]
  rfl
def CU{α:Type}(l:List α)(lo hi:Ee):(cA l lo hi).length<=l.length:=by
 unfold cA;rw[Bh,vn];omega
def rq(xs:List V)(lo hi:Ee):zQ xs lo hi=cA xs lo hi:=by
 have e:∀(n d:Nat)(o:Ee),HT.gK n d o=D.gK n d o:=λn d o=>by cases o<;>rfl
 unfold zQ cA;rw[e,e]
def aB.cut{B:KT}{al:D2}{H:Hp}{ts:FV}{vs:List V}(r:aB B al H ts vs)(lo hi:Ee):aB B al H (cA ts lo hi) (cA vs lo hi):=by
 unfold cA;rw[r.len];exact(r.drop _).take _
def GY{α β:Type}(f:α->β)(l:List α)(lo hi:Ee):(cA l lo hi).map f=cA (l.map f) lo hi:=by
 unfold cA;rw[b_,List.map_take,Bl]
theorem tN{B:KT}{al:D2}{H:Hp}:∀{ts:FV}{vs:List V}{ls:Ap},aB B al H ts vs->strsOf ts=some ls->vs=(ls.map λl=>(⟨l.toArray⟩:Str)).map V.str
 |[],_,_,h,e=>by cases(show _=[]from h);cases e;rfl
 |t::ts,_,ls,h,e=>by
  obtain⟨v,r,rfl,h1,h2⟩:=h;cases t<;>first|(cases e;done)|skip
  rename_i l;have e:(strsOf ts).map (l::·)=some ls:=e
  cases e':strsOf ts with
  |none=>rw[e']at e;cases e
  |some ms=>
   rw[e']at e;cases e;obtain⟨rfl,_⟩:=h1;rw[tN h2 e'];rfl
theorem join_eq(sep:Bi):∀ls:Ap,Str.join ⟨sep.toArray⟩ (ls.map λl=>(⟨l.toArray⟩:Str))=⟨(cV sep ls).toArray⟩
 |[]=>rfl
 |[c]=>rfl
 |c::d::r=>by
  have ih:=join_eq sep (d::r);show(⟨c.toArray⟩:Str)++⟨sep.toArray⟩++Str.join ⟨sep.toArray⟩ ((d::r).map λl=>(⟨l.toArray⟩:Str))=⟨(c++sep++cV sep (d::r)).toArray⟩;rw[ih,MJ,MJ]
theorem qe(sep:Bi):∀ls:Ap,(cV sep ls).length<=(ls.map (·.length)).sum+ls.length*sep.length
 |[]=>by simp[cV]
 |[c]=>by simp[cV]
 |c::d::r=>by
  have ih:=qe sep (d::r);show(c++sep++cV sep (d::r)).length<=_;rw[dg,dg,dZ,Bm,eT,A4];omega
def CV(ls:Ap):((ls.map λl=>(⟨l.toArray⟩:Str)).map (·.length))=ls.map (·.length):=by
 rw[gR];apply vq;intro l _;exact fU l
def MP(l s:Bi):Txt.startswith ⟨l.toArray⟩ ⟨s.toArray⟩=pre s l:=by
 unfold Txt.startswith pre;rw[StrLaws.subAt_eq];show(decide (0+(⟨s.toArray⟩:Str).length<=l.toArray.size)&&((l.drop 0).take (⟨s.toArray⟩:Str).length == s))=_;rw[fU,cQ,A6,w_]
def MQ(l s:Bi):Txt.endswith ⟨l.toArray⟩ ⟨s.toArray⟩=U3 s l:=by
 unfold Txt.endswith U3;rw[StrLaws.subAt_eq,fU,fU];show(decide (0+s.length<=l.length)&&((l.drop (l.length-s.length)).take s.length == s))=_;rw[A6];by_cases h:s.length<=l.length
 ·rw[decide_eq_true h,vv,vv]
  rw[xf (by rw[vn];omega)]
 ·rw[decide_eq_false h,Bu,Bu]
theorem kK{B:KT}{al:D2}{H:Hp}:∀{ts:FV}{vs:List V}{ks:FC},aB B al H ts vs->boolsOf ts=some ks->vs=ks.map V.bl
 |[],_,_,h,e=>by cases(show _=[]from h);cases e;rfl
 |t::ts,_,ls,h,e=>by
  obtain⟨v,r,rfl,h1,h2⟩:=h;cases t<;>first|(cases e;done)|skip
  rename_i l;have e:(boolsOf ts).map (l::·)=some ls:=e
  cases e':boolsOf ts with
  |none=>rw[e']at e;cases e
  |some ms=>
   rw[e']at e;cases e;cases(show v=.bl l from h1);rw[kK h2 e'];rfl
def tQ(tn T:String):Option Bool:=if(Value.type tn == Value.type T)=true then some true else if PySem.W.kitMeta T=true then(fastBuiltinMro tn).map (·.contains (Value.type T))else none
def jE(K:bD){tn T:String}{b:Bool}(h:tQ tn T=some b):sE K (.type tn) (.type T)=some b:=h
structure jF(T:String):Prop where
 non:tQ "NoneType" T=some false
 bl:tQ "bool" T=some (T == "bool" ||T == "int")
 int:tQ "int" T=some (T == "int")
 str:tQ "str" T=some (T == "str")
 tup:tQ "tuple" T=some (T == "tuple")
 lst:tQ "list" T=some (T == "list")
 dic:tQ "dict" T=some (T == "dict")
def MR:jF "int" := by constructor<;>decide +kernel
def GZ:jF "bool" := by constructor<;>decide +kernel
def MS:jF "str" := by constructor<;>decide +kernel
def CW:jF "tuple" := by constructor<;>decide +kernel
def G0:jF "list" := by constructor<;>decide +kernel
def bb(c:Nat):Bi->Ap
 |[]=>[[]]
 |d::l=>if d=c then[]::bb c l else match bb c l with
  |p::r=>(d::p)::r
  |[]=>[[d]]
theorem jG{c:Nat}:∀{p:Bi},c∉p->bb c p=[p]
 |[],_=>rfl
 |d::p,h=>by
  have hd:d≠c:=λe=>h (by rw[e];exact fY ..)
  have hp:c∉p:=λe=>h (bW _ e);unfold bb;rw[if_neg hd,jG hp]
theorem ny{c:Nat}(l:Bi):∀{p:Bi},c∉p->bb c (p++[c]++l)=p::bb c l
 |[],_=>by
  show bb c (c::l)=_;rw[bb,if_pos rfl]
 |d::p,h=>by
  have hd:d≠c:=λe=>h (by rw[e];exact fY ..)
  have hp:c∉p:=λe=>h (bW _ e);show bb c (d::(p++[c]++l))=_;rw[bb,if_neg hd,ny l hp]
theorem k_{c:Nat}:∀{ls:Ap},ls≠[]->(∀p∈ls,c∉p)->bb c (cV [c] ls)=ls
 |[],h,_=>absurd rfl h
 |[p],_,h=>jG (h p (fY ..))
 |p::q::r,_,h=>by
  show bb c (p++[c]++cV [c] (q::r))=_;rw[ny _ (h p (fY ..)),k_ (by simp) λx hx=>h x (bW _ hx)]
def split_len(x y:Str):(Txt.split x y).length<=x.length+2:=by
 unfold Txt.split;split
 ·simp
 ·split
  ·simp
  ·rw[length_partsBetween]
   have:=StrLaws.occ_length_le x y 0 x.length (x.length+1)
   omega
def CY(x y:Str):Txt.split x y≠[]:=by
 unfold Txt.split;split
 ·simp
 ·split
  ·simp
  ·intro e
   have:=length_partsBetween x (Builtin.Str.occurrences x y 0 x.length (x.length+1)) y.length
   rw[e]at this;simp at this
def CZ(a:Bi)(c:Nat):Txt.split ⟨a.toArray⟩ ⟨#[c]⟩=(bb c a).map λl=>(⟨l.toArray⟩:Str):=by
 obtain⟨L,hL⟩:∃L:Ap,L=(Txt.split ⟨a.toArray⟩ ⟨#[c]⟩).map λp=>p.cps.toList:=⟨_,rfl⟩;have e1:Txt.split ⟨a.toArray⟩ ⟨#[c]⟩=L.map λl=>(⟨l.toArray⟩:Str):=by
  rw[hL,gR]
  conv=>lhs;rw[<- List.map_id (Txt.split ⟨a.toArray⟩ ⟨#[c]⟩)]
  apply vq;intro p _;show p=(⟨p.cps.toList.toArray⟩:Str);rw[Array.toArray_toList]
 have kG:L≠[]:=by
  rw[hL];intro e;exact CY _ _ (List.map_eq_nil_iff.mp e)
 have pM:∀p∈L,c∉p:=by
  rw[hL];intro p hp;obtain⟨q,hq,rfl⟩:=jc.mp hp;exact StrLaws.split_free _ c q hq
 have hj:=StrLaws.join_split ⟨a.toArray⟩ ⟨#[c]⟩;rw[e1,show(⟨#[c]⟩:Str)=⟨([c]:Bi).toArray⟩from rfl,join_eq]at hj;have Ć:cV [c] L=a:=by
  injection hj with hj
  simpa using hj
 rw[e1,<- Ć,k_ kG pM]
theorem qg{B:KT}{al:D2}{H:Hp}:∀{ls:Ap},(∀l∈ls,l.length<=1000000)->aB B al H (ls.map T.str) (ls.map λl=>SV l)
 |[],_=>rfl
 |l::ls,h=>⟨_,_,rfl,⟨rfl,h l (fY ..)⟩,qg λx hx=>h x (bW _ hx)⟩
theorem j6(c:Nat):∀(a:Bi),∀l∈bb c a,l.length<=a.length
 |[],l,h=>by
  rw[iu.mp h];simp
 |d::a,l,h=>by
  have ih:=j6 c a;rw[bb]at h;split at h
  ·rcases gh.mp h with e|e
   ·rw[e];simp
   ·have:=ih l e;simp;omega
  ·split at h
   ·rename_i p r Y6
    rcases gh.mp h with e|e
    ·have:=ih p (by rw[Y6];exact fY ..)
     rw[e];simp;omega
    ·have:=ih l (by rw[Y6];exact bW _ e)
     simp;omega
   ·rw[iu.mp h];simp
def RM:PO X none (tP B q_):=Kp Ge λσ H Q z=>by
 obtain⟨g,s,t,s',x,h,k⟩:=z;cases h;exact k g H .refl x
def xQ{t:T}{i:Int}(h:Rf t=some i):t=.int i:=by
 cases t<;>first|(cases h;done)|(cases h;rfl)
def RN(ha:PE X a (tE B fa)):PO X (some a) (tP B (ni fa)):=Kp (Gg ha) λσ H Q z=>by
 obtain⟨g,s,t,s',x,h,k⟩:=z;obtain⟨⟨d,s1⟩,h1,h⟩:=aa h;obtain⟨i,h2,h⟩:=aa h;cases xQ (aj h2);cases h;exact⟨g,s,_,s1,x,h1,λv g1 H1 p1 x1 r1=>⟨_,r1,k g1 H1 p1 x1⟩⟩
def WM(K:bD):V->Ee->Ee->Hp->VK->Prop:=λx lo hi H Q=>(∃z,x=.str z/\z.length<=sizeLine/\Q (.str (Txt.slice z lo hi)) H)\/Qz K x lo hi H Q
def RQ:Kd X (WM X.K):=Mp.or Gj
def WN(hB:B.K=X.K)(ha:PE X a (tE B fa))(hl:PO X Pj (tP B Pf))(hh:PO X Pk (tP B Ph)):PE X (.Subscript a (.Slice Pj Pk none p2) pos) (tE B (ph fa Pf Ph)):=by
 refine aP (sU RQ ha hl hh) λσ H Q zz=>?_;obtain⟨g,s,t,s',x,h,k⟩:=zz;obtain⟨⟨tx,s1⟩,h1,h⟩:=aa h;obtain⟨⟨lo,s2⟩,h2,h⟩:=aa h;obtain⟨⟨hi,s3⟩,h3,h⟩:=aa h;obtain⟨t',h4,h⟩:=aa h;cases h;have h4:AK lo hi tx=some _:=aj h4;refine⟨g,s,_,s1,x,h1,λv g1 H1 p1 x1 r1=>⟨g1,s1,_,s2,x1,h2,λg2 H2 p2 x2=>⟨g2,s2,_,_,x2,h3,λg3 H3 p3 x3=>?_⟩⟩⟩;have r3:=(r1.mv p2.pre p2.fr).mv p3.pre p3.fr;have pp:=(p1.trans p2).trans p3;cases tx<;>first|(cases h4;done)|skip
 ·cases h4
  obtain⟨rfl,hz⟩:=r3;refine .inl ⟨_,rfl,WA hz,?_⟩;rw[cut_str];exact k _ g3 H3 pp x3 ⟨rfl,fK (CU _ _ _) hz⟩
 ·cases h4
  obtain⟨a,vs,rfl,q,r⟩:=r3;refine .inr ⟨a,vs,rfl,cJ.of (x3.sub _ _ q),λl hl=>?_⟩;rw[rq];have gr:=Gr.new (o:=.lst (cA vs lo hi)) x3.sub hl;exact k _ _ _ (pp.trans (x3.kr gr)) (x3.grow gr) ⟨l,_,rfl,ai,(r.cut _ _).same gr.fr⟩
 ·cases h4
  obtain⟨a,rfl,q⟩:=r3;refine .inr ⟨a,_,rfl,hB▸x3.sub.seq q,λl hl=>?_⟩;rw[rq,<- GY];exact k _ _ _ (pp.trans (x3.kr (Gr.new x3.sub hl))) (x3.grow (Gr.new x3.sub hl)) ⟨l,_,rfl,ai,aB.ints _⟩
end
section
def noStar:Expr->Bool
 |.Starred _ _=>false
 |_=>true
def ao(h:noStar e=true):starEach (e::es) env=(false,eval e env)::starEach es env:=by
 cases e<;>first|rfl|(cases h)
theorem eY:∀{es:D1},es.all noStar=true->(backTo pos (starEach es env)).any (·.1)=false
 |[],_=>rfl
 |e::es,h=>by
  rw[eU,dh]at h;rw[ao h.1];show(false ||(backTo pos (starEach es env)).any (·.1))=false
  rw[eY h.2];rfl
theorem nE:∀{es:D1},es.all noStar=true->(backTo pos (starEach es env)).all (λx=>!x.1)=true
 |[],_=>rfl
 |e::es,h=>by
  rw[eU,dh]at h;rw[ao h.1];show(true&&(backTo pos (starEach es env)).all (λx=>!x.1))=true;rw[nE h.2];rfl
def o_(h:(e::es).all noStar=true)(hl:es.length<29):((backTo bP (starEach (e::es) env)).all (λx=>!x.1)&&(backToKw bP (keywordEach [] env)).all (λx=>x.1.isSome)
   && decide ((e::es).length+([]:List Keyword).length+(if([]:List Keyword).isEmpty then 0 else 1)<30))=true:=by
 rw[nE h,dh];exact⟨rfl,decide_eq_true (show es.length+1+0+0<30 by omega)⟩
def bB:Expr->Bool
 |.Call (.Name _ _) [] [] _=>false
 |_=>true
def fJ{f:Str}{ie:Sem Value}(h:bB o=true):attributeBase o f env ie=ie:=by
 unfold attributeBase;split
 ·cases h
 ·rfl
def LM(X:Cx)(f:Bi->FV->FX)(r:V->List V->Hp->VK->Prop):Prop:=∀(B:KT)(_:B.K=X.K)(al:D2)(HF H:Hp)(l:Bi)(xs:List V)(t:T)(ts:FV)(Q:VK),aO HF H->l.length<=1000000->aB B al HF ts xs->f l ts=some t->(∀v gb H',Gr HF H gb H'->Rep B al gb t v->Q v H')->r (SV l) xs H Q
def G2:T->Option Bi
 |.str l=>some l
 |_=>none
def pA(f:Bi->FV->FX)(o:FE)(fl:FL):FE:=λs=>(o s).bind λp=>(aT (G2 p.1)).bind λl=>(fl p.2).bind λq=>(aT (f l q.1)).bind λt=>.ok (t,q.2)
def C0{t:T}{l:Bi}(h:G2 t=some l):t=.str l:=by
 cases t<;>first|(cases h;done)|(cases h;rfl)
def WO{f:Bi->FV->FX}{r:V->List V->Hp->VK->Prop}(hB:B.K=X.K)(hr:LM X f r):∀σ H Q,tE B (pA f fo fl) σ H Q->YB X.K "str" r (tE B fo) (tA B fl) σ H Q:=by
 rintro σ H Q ⟨g,s,t,s',x,h,k⟩
 obtain⟨⟨tx,s1⟩,h1,h⟩:=aa h;obtain⟨l,h2,h⟩:=aa h;obtain⟨⟨ts,s2⟩,h3,h⟩:=aa h;obtain⟨t',h4,h⟩:=aa h;cases h;cases C0 (aj h2);refine⟨g,s,_,s1,x,h1,λv g1 H1 p1 x1 r1=>?_⟩;obtain⟨rfl,hz⟩:=r1;exact⟨rfl,g1,s1,_,_,x1,h3,λvs g2 H2 p2 x2 r2=>hr B hB g2.al g2.HF H2 l vs _ ts Q x2.sub hz r2 (aj h4) λu gb H' gr r3=>k u (g2.grow gb) H' ((p1.trans p2).trans (x2.kr gr)) (x2.grow gr) r3⟩
def AM(l:Bi):FV->FX
 |[.str s]=>some (.bl (pre s l))
 |_=>none
def WU(l:Bi):FV->FX
 |[.str s]=>some (.bl (U3 s l))
 |_=>none
def joinM(l:Bi):FV->FX
 |[t]=>Kl (.str l) t
 |_=>none
def splitM(l:Bi):FV->FX
 |[.str [c]]=>gd (l.length<=100000) (.lst ((bb c l).map .str))
 |_=>none
open PySem.Spec PyProof.Rows in
def tR(l:Bi):FV->FX
 |[.str s]=>some (.int (Txt.find ⟨l.toArray⟩ ⟨s.toArray⟩))
 |[.str s,.int i]=>some (.int (Txt.find3 ⟨l.toArray⟩ ⟨s.toArray⟩ i))
 |_=>none
def cM{al:D2}{H:Hp}{t:T}{xs:List V}(r:aB B al H [t] xs):∃v,xs=[v]/\Rep B al H t v:=by
 obtain⟨v,w,rfl,h,e⟩:=r;cases(show w=[]from e);exact⟨v,rfl,h⟩
def G4{al:D2}{H:Hp}{t u:T}{xs:List V}(r:aB B al H [t,u] xs):∃v w,xs=[v,w]/\Rep B al H t v/\Rep B al H u w:=by
 obtain⟨v,ws,rfl,h,e⟩:=r;obtain⟨w,rfl,h'⟩:=cM e;exact⟨v,w,rfl,h,h'⟩
def WW:LM X AM (λx vs H Q=>∃a b,x=.str a/\vs=[.str b]/\Q (.bl (Txt.startswith a b)) H):=λB hB al HF H l xs t ts Q sm hz r h k=>by
 match ts,h with
 |[.str s],h=>
  cases h;obtain⟨v,rfl,rfl,_⟩:=cM r;refine⟨_,_,rfl,rfl,?_⟩;rw[MP];exact k _ HF H (.refl sm) rfl
def WY:LM X WU (λx vs H Q=>∃a b,x=.str a/\vs=[.str b]/\Q (.bl (Txt.endswith a b)) H):=λB hB al HF H l xs t ts Q sm hz r h k=>by
 match ts,h with
 |[.str s],h=>
  cases h;obtain⟨v,rfl,rfl,_⟩:=cM r;refine⟨_,_,rfl,rfl,?_⟩;rw[MQ];exact k _ HF H (.refl sm) rfl
def MT:LM X joinM (λx vs H Q=>∃sep l ys,x=.str sep/\vs=[.ref l]/\cJ X.K H l (ys.map V.str)/\(ys.map (·.length)).sum+ys.length*sep.length<=16777216/\Q (.str (Str.join sep ys)) H):=λB hB al HF H l xs t ts Q sm hz r h k=>by
 match ts,h with
 |[u],h=>
  obtain⟨v,rfl,ru⟩:=cM r;have h:Kl (.str l) u=some t:=h;cases u with
  |lst us=>
   have h:(strsOf us).bind (λys=>gd ((ys.map (·.length)).sum+ys.length*l.length<=1000000) (T.str (cV l ys)))=some t:=h
   obtain⟨ls,h1,h⟩:=dM.mp h;obtain⟨z,rfl⟩:=aZ h;obtain⟨a,vs,rfl,q,r⟩:=ru;have e:=tN r h1;subst e;refine⟨_,a,_,rfl,rfl,cJ.of (sm _ _ q),?_,?_⟩
   ·rw[CV,b_,fU];omega
   ·rw[join_eq]
    exact k _ HF H (.refl sm) ⟨rfl,fK (qe _ _) z⟩
  |_=>cases h
def m_find:LM X tR (λx vs H Q=>(∃a b,x=.str a/\vs=[.str b]/\Q (.int (Txt.find a b)) H)\/∃a b i,x=.str a/\vs=[.str b,.int i]/\Q (.int (Txt.find3 a b i)) H):=λB hB al HF H l xs t ts Q sm hz r h k=>by
 match ts,h with
 |[.str s],h=>
  cases h;obtain⟨v,rfl,rfl,_⟩:=cM r;exact .inl ⟨_,_,rfl,rfl,k _ HF H (.refl sm) rfl⟩
 |[.str s,.int i],h=>
  cases h;obtain⟨v,w,rfl,⟨rfl,_⟩,rfl⟩:=G4 r;exact .inr ⟨_,_,_,rfl,rfl,k _ HF H (.refl sm) rfl⟩
def m_split:LM X splitM (λx vs H Q=>∃a b,x=.str a/\vs=[.str b]/\(b.length == 0)=false/\a.length<=sizeLine/\(Txt.split a b).length<=sizeLine/\∀l,H l=none->Q (.ref l) (upd H l (.lst ((Txt.split a b).map V.str)))):=λB hB al HF H l xs t ts Q sm hz r h k=>by
 match ts,h with
 |[.str [c]],h=>
  obtain⟨z,rfl⟩:=aZ h;obtain⟨v,rfl,rfl,_⟩:=cM r;have W0:=split_len ⟨l.toArray⟩ ⟨([c]:Bi).toArray⟩;rw[fU]at W0;refine⟨_,_,rfl,rfl,rfl,by rw[fU,sizeLine_eq];omega,by rw[sizeLine_eq];omega,λq hq=>?_⟩
  have e:(Txt.split ⟨l.toArray⟩ ⟨([c]:Bi).toArray⟩).map V.str=(bb c l).map λl=>SV l:=by
   rw[show(⟨([c]:Bi).toArray⟩:Str)=⟨#[c]⟩from rfl,CZ,gR];rfl
  rw[e];refine k _ _ _ (Gr.new sm hq) ⟨q,_,rfl,ai,qg λm hm=>?_⟩
  have:=j6 c l m hm
  omega
 |[.str []],h=>cases h
 |[.str (_::_::_)],h=>cases h
def zR.or{id:String}{r r':V->List V->Hp->VK->Prop}(h:zR X id r)(h':zR X id r'):zR X id (λx vs H Q=>r x vs H Q\/r' x vs H Q):=λae s σ H x vs v us Q I rx rv q=>by
 rcases q with q|q
 ·exact h ae s σ H x vs v us Q I rx rv q
 ·exact h' ae s σ H x vs v us Q I rx rv q
structure Y7(X:Cx)(n:Str)(f:Bi->FV->FX):Prop where
 ex:∃id r,Slot "str" n id/\typeOf (.builtin id)=pure (.type "method_descriptor")/\zR X id r/\LM X f r
def RS{n:Str}{f:Bi->FV->FX}(M:Y7 X n f)(hB:B.K=X.K)(ho:PE X o (tE B fo))(ha:PA X (e::es) (tA B fl))(hb:bB o=true)(hs:(e::es).all noStar=true)(hl:es.length<29)(gD:(bF.endLine == bP.line)=true) :
  PE X (.Call (.Attribute o n bF) (e::es) [] bP) (tE B (pA f fo fl)):=by
 obtain⟨id,r,h1,h2,h3,h4⟩:=M.ex;have Gu:=hs;rw[eU,dh]at Gu;exact aP (xE PySem.F.plainAttrs_str h1 h2 h3 ho ha (fJ hb) (o_ hs hl) gD (ao Gu.1) (eY Gu.2)) (WO hB h4)
def vY:List (Str×(Bi->FV->FX)):=[("startswith",AM),("endswith",WU),("join",joinM),("split",splitM),("find",tR)]
def MU:∀p∈vY,Y7 X p.1 p.2:=by
 intro p h;simp only[vY,gh,jV,or_false]at h;rcases h with rfl|rfl|rfl|rfl|rfl
 ·exact⟨_,_,PySem.F.slot_str_startswith,PySem.F.type_str_startswith,oZ,WW⟩
 ·exact⟨_,_,PySem.F.slot_str_endswith,PySem.F.type_str_endswith,sW,WY⟩
 ·exact⟨_,_,PySem.F.slot_str_join,PySem.F.type_str_join,Gx,MT⟩
 ·exact⟨_,_,PySem.F.slot_str_split,PySem.F.type_str_split,CP,m_split⟩
 ·exact⟨_,_,PySem.F.slot_str_find,PySem.F.type_str_find,zR.or CQ Cj,m_find⟩
end
section
def cD:FV->FX
 |[t]=>(match t with
  |.iA _ _=>none
  |t=>Cu t)
 |_=>none
def RT:LN X cD (λxs H Q=>∃x n,xs=[x]/\Qh X.K x H n/\Q (.int n) H):=λB hB al HF H xs t ts Q sm r h k=>by
 match ts,h with
 |[tx],h=>
  obtain⟨v,rfl,rx⟩:=cM r;cases tx<;>first|(cases h;done)|skip
  ·cases h
   obtain⟨rfl,hz⟩:=rx;exact⟨_,_,rfl,⟨WA hz,(fU _).symm⟩,k _ HF H (.refl sm) rfl⟩
  ·cases h
   obtain⟨a,vs,rfl,q,r⟩:=rx;exact⟨_,_,rfl,.inr ⟨vs,hB▸cY sm q,r.len⟩,k _ HF H (.refl sm) rfl⟩
  ·cases h
   obtain⟨a,vs,rfl,q,r⟩:=rx;exact⟨_,_,rfl,.inl ⟨vs,cJ.of (sm _ _ q),r.len⟩,k _ HF H (.refl sm) rfl⟩
  ·cases h
   obtain⟨a,rfl,q⟩:=rx;exact⟨_,_,rfl,.inl ⟨_,hB▸sm.seq q,(b_ _).symm⟩,k _ HF H (.refl sm) rfl⟩
def z8:FV->FX
 |[t]=>GJ t
 |_=>none
def vZ:FV->FX
 |[t]=>MC t
 |_=>none
def RU:LN X z8 (λxs H Q=>∃(p:Addr)(ks:FC),xs=[.ref p]/\cJ X.K H p (ks.map V.bl)/\Q (.bl (ks.all id)) H):=λB hB al HF H xs t ts Q sm r h k=>by
 match ts,h with
 |[tx],h=>
  obtain⟨v,rfl,rx⟩:=cM r;have h:GJ tx=some t:=h;cases tx with
  |lst us=>
   obtain⟨ks,h1,h⟩:=cz.mp (show(boolsOf us).map _=some t from h);obtain⟨a,vs,rfl,q,r⟩:=rx;have e:=kK r h1;subst e h;exact⟨a,ks,rfl,cJ.of (sm _ _ q),k _ HF H (.refl sm) rfl⟩
  |_=>cases h
def RV:LN X vZ (λxs H Q=>∃(p:Addr)(ks:FC),xs=[.ref p]/\cJ X.K H p (ks.map V.bl)/\Q (.bl (ks.any id)) H):=λB hB al HF H xs t ts Q sm r h k=>by
 match ts,h with
 |[tx],h=>
  obtain⟨v,rfl,rx⟩:=cM r;have h:MC tx=some t:=h;cases tx with
  |lst us=>
   obtain⟨ks,h1,h⟩:=cz.mp (show(boolsOf us).map _=some t from h);obtain⟨a,vs,rfl,q,r⟩:=rx;have e:=kK r h1;subst e h;exact⟨a,ks,rfl,cJ.of (sm _ _ q),k _ HF H (.refl sm) rfl⟩
  |_=>cases h
def tU(i:Int):Bi:=(toString i).toList.map Char.toNat
def strN:FV->FX
 |[.int i]=>gd (i.natAbs.log2<1920/\(tU i).length<=1000000) (.str (tU i))
 |_=>none
def RW:LN X strN (λxs H Q=>∃i,xs=[.int i]/\i.natAbs.log2<1920/\Q (.str (toString i)) H):=λB hB al HF H xs t ts Q sm r h k=>by
 match ts,h with
 |[.int i],h=>
  obtain⟨v,rfl,rx⟩:=cM r;obtain⟨⟨h1,h2⟩,rfl⟩:=aZ h;cases rx;refine⟨i,rfl,h1,k _ HF H (.refl sm) ⟨?_,h2⟩⟩;show V.str (Str.ofString (toString i))=_;rw[Str.ofString_eq_toList];rfl
def C1:FV->FX
 |[.str l]=>(PySem.intText? ⟨l.toArray⟩).bind λn=>gd (l.length<=640) (.int n)
 |[.bl b]=>some (.int (if b then 1 else 0))
 |_=>none
abbrev RY:List V->Hp->VK->Prop:=λxs H Q=>(∃y n,xs=[.str y]/\PySem.intText? y=some n/\y.length<=640/\Q (.int n) H)\/∃b,xs=[.bl b]/\Q (.int (if b then 1 else 0)) H
def z9:eV X (.type "int") RY:=by
 intro ae s σ H xs us Q I r h;rcases h with⟨y,n,rfl,hn,hl,q⟩|⟨b,rfl,q⟩
 ·obtain⟨u,rfl,t,rfl⟩:=vals1 r
  exact PySem.W.KIN.call_text hn hl ⟨.int n,H,I.tok _,⟨_,rfl⟩,q⟩
 ·obtain⟨u,rfl,e⟩:=vals1 r
  cases(show u=Value.bool b from e);exact PySem.call_int_bool ⟨.int (if b then 1 else 0),H,I.tok _,⟨_,rfl⟩,q⟩
def RZ:LN X C1 RY:=λB hB al HF H xs t ts Q sm r h k=>by
 match ts,h with
 |[.str l],h=>
  obtain⟨v,rfl,rx⟩:=cM r;obtain⟨n,h1,h⟩:=dM.mp h;obtain⟨z,rfl⟩:=aZ h;obtain⟨rfl,_⟩:=rx;exact .inl ⟨_,n,rfl,h1,by rw[fU];exact z,k _ HF H (.refl sm) rfl⟩
 |[.bl b],h=>
  obtain⟨v,rfl,rx⟩:=cM r;cases h;cases rx;exact .inr ⟨b,rfl,k _ HF H (.refl sm) rfl⟩
def tW:FV->FX
 |[t]=>Km t
 |_=>none
def MV:LN X tW (λxs H Q=>∃p ys,xs=[.ref p]/\(cJ X.K H p ys\/lO X.K H p ys)/\∀l,H l=none->Q (.ref l) (upd H l (.lst ys))):=λB hB al HF H xs t ts Q sm r h k=>by
 match ts,h with
 |[tx],h=>
  obtain⟨v,rfl,rx⟩:=cM r;have h:Km tx=some t:=h;cases tx<;>first|(cases h;done)|skip
  ·cases h
   obtain⟨l,xs,rfl,q,r⟩:=rx;exact⟨l,xs,rfl,.inr (hB▸cY sm q),λp hp=>k _ _ _ (Gr.new sm hp) ⟨p,_,rfl,ai,r.same (aX (sm.free hp))⟩⟩
  ·cases h
   obtain⟨l,xs,rfl,q,r⟩:=rx;exact⟨l,xs,rfl,.inl (cJ.of (sm _ _ q)),λp hp=>k _ _ _ (Gr.new sm hp) ⟨p,_,rfl,ai,r.same (aX (sm.free hp))⟩⟩
structure W2(X:Cx)(n:Str)(f:FV->FX):Prop where
 ex:∃r,LN X f r/\((∃id,bootBuiltins n=some (.builtin id)/\eV X (.builtin id) r)\/∃ty,bootBuiltins n=some (.type ty)/\eV X (.type ty) r)
 nn:n ≠ "__name__"
 nd:df n
def KD{f:FV->FX}(M:W2 X x f)(hB:B.K=X.K)(hg:Gl X x)(hm:X.mg x=none)(ha:PA X (e::es) (tA B fl))(hs:(e::es).all noStar=true):PE X (.Call (.Name x p) (e::es) [] pos) (tE B (bz f fl)):=by
 obtain⟨⟨r,h1,h2⟩,nn,nd⟩:=M;rw[eU,dh]at hs;rcases h2 with⟨id,hb,hc⟩|⟨ty,hb,hc⟩
 ·exact aP (gB hc hg hm hb ha nn nd (ao hs.1) (eY hs.2)) (Ks hB h1)
 ·exact aP (gC hc hg hm hb ha nn nd (ao hs.1) (eY hs.2)) (Ks hB h1)
def v5:List (Str×(FV->FX)):=[("len",cD),("all",z8),("any",vZ),("str",strN),("int",C1),("list",tW)]
def C2(hc:X.calm=true):∀p∈v5,W2 X p.1 p.2:=by
 intro p h;simp only[v5,gh,jV,or_false]at h;rcases h with rfl|rfl|rfl|rfl|rfl|rfl
 ·exact⟨⟨_,RT,.inl ⟨_,PySem.boot_len,mK⟩⟩,by decide,by decide⟩
 ·exact⟨⟨_,RU,.inl ⟨_,PyProof.Rows.boot_all,Cm hc⟩⟩,by decide,by decide⟩
 ·exact⟨⟨_,RV,.inl ⟨_,PyProof.Rows.boot_any,Cn hc⟩⟩,by decide,by decide⟩
 ·exact⟨⟨_,RW,.inr ⟨_,J3,qO⟩⟩,by decide,by decide⟩
 ·exact⟨⟨_,RZ,.inr ⟨_,J4,z9⟩⟩,by decide,by decide⟩
 ·exact⟨⟨_,MV,.inr ⟨_,zp,gU⟩⟩,by decide,by decide⟩
end
structure Pg where
 cn:BM
 an:BM
 tab:Ap
 sub:Ap
def Pg.fn(P:Pg):List BM:=P.tab.map λl=>l.map λi=>P.an.getD i Str.empty
structure Pn(K:bD)(mg:Str->Dx)(n:Str)(ns:BM)(C:Addr):Prop where
 at_:oJ K mainGlobals n=some (some (.ref C))
 gl:mg n=some (.ref C)
 nd:ns.Nodup
 o_:ns.length<=100
 cl:pQ K C
 na:∀f∈ns,eG K C f
 ca:ir K (.ref C) "__class__" = some (some (.builtin "object.__class__"))
 mo:AZ K C (.type "object")=some true
structure nF(K:bD)(mg:Str->Dx)(P:Pg):Prop where
 cls:∀(c:Nat)(n:Str)(ns:BM),P.cn[c]?=some n->P.fn[c]?=some ns->∃C,Pn K mg n ns C
 sub:∀(c d:Nat)(n n':Str)(C D:Addr)(l:Bi),P.cn[c]?=some n->P.cn[d]?=some n'->mg n=some (.ref C)->mg n'=some (.ref D)->P.sub[c]?=some l->sE K (.ref C) (.ref D)=some (decide (d∈l))
 gt:AX K (.builtin "object.__class__") "__get__" = some (some (.builtin "getset_descriptor.__get__"))/\AY K (.builtin "object.__class__")=some true
abbrev Pg.kt(P:Pg)(X:Cx):KT:=⟨X.K,X.prog,X.w,P.cn,P.fn⟩
variable{P:Pg}
def nF.of(O:nF X.K X.mg P){c:Nat}{C:Addr}{ns:BM}(h:iP (P.kt X) c C ns):∃n,P.cn[c]?=some n/\P.fn[c]?=some ns/\Pn X.K X.mg n ns C:=by
 obtain⟨n,h1,h2,h3,h4⟩:=h;obtain⟨C',F⟩:=O.cls c n ns h1 h2
 have:C=C':=by
  have:=(show oJ X.K mainGlobals n=some (some (.ref C))from h4).symm.trans F.at_
  injection this with this
  injection this with this
  injection this
 subst this;exact⟨n,h1,h2,F⟩
theorem gZ{f:Str}:∀{ns:BM}{vs:List V}{j:Nat},ns.Nodup->ns[j]?=some f->(ns.zip vs).lookup f=vs[j]?
 |[],vs,j,_,h=>by simp at h
 |n::ns,[],j,_,_=>by simp
 |n::ns,v::vs,0,nd,h=>by
  simp at h;subst h;rw[jW,List.lookup_cons_self];rfl
 |n::ns,v::vs,j+1,nd,h=>by
  simp at h;have e:(f == n)=false:=beq_eq_false_iff_ne.mpr λz=>by subst z;exact(lK.mp nd).1 (jT h)
  rw[jW,ju,e];simpa using gZ (lK.mp nd).2 h
theorem nG{f:Str}:∀{ns:BM}{vs:List V},f∉ns->(ns.zip vs).lookup f=none
 |[],vs,_=>by simp
 |n::ns,[],_=>by simp
 |n::ns,v::vs,h=>by
  have e:(f == n)=false:=beq_eq_false_iff_ne.mpr λz=>h (by rw[z];exact fY ..)
  rw[jW,ju,e];exact nG λz=>h (bW _ z)
theorem xR{f:Str}{v:V}:∀{ns:BM}{vs:List V}{j:Nat},ns.Nodup->ns[j]?=some f->vs.length<=ns.length->j<vs.length->L2.cU f v (ns.zip vs)=ns.zip (vs.set j v)
 |[],vs,j,_,h,_,_=>by simp at h
 |n::ns,[],j,_,_,_,h=>by simp at h
 |n::ns,w::vs,0,nd,h,_,_=>by
  simp at h;subst h;show(if n=n then(n,v)::ns.zip vs else(n,w)::L2.cU n v (ns.zip vs))=_
  rw[if_pos rfl];rfl
 |n::ns,w::vs,j+1,nd,h,hl,hj=>by
  simp at h hl hj;show(if n=f then(n,v)::ns.zip vs else(n,w)::L2.cU f v (ns.zip vs))=_
  rw[if_neg λz=>(lK.mp nd).1 (by rw[z];exact jT h),xR (lK.mp nd).2 h hl hj]
  rfl
theorem rA{f:Str}{v:V}:∀{ns:BM}{vs:List V},ns.Nodup->ns[vs.length]?=some f->L2.cU f v (ns.zip vs)=ns.zip (vs++[v])
 |[],vs,_,h=>by simp at h
 |n::ns,[],nd,h=>by
  simp at h;subst h;show L2.cU n v []=(n,v)::ns.zip [];simp[L2.cU]
 |n::ns,w::vs,nd,h=>by
  simp at h;show(if n=f then(n,v)::ns.zip vs else(n,w)::L2.cU f v (ns.zip vs))=_
  rw[if_neg λz=>(lK.mp nd).1 (by rw[z];exact jT h),rA (lK.mp nd).2 h]
  rfl
def G5{l:Bi}{f j:Nat}(h:l.idxOf? f=some j):l[j]?=some f:=by
 rw[Jw,Jx]at h;obtain⟨hj,h1,_⟩:=h;rw[fj hj,eq_of_beq h1]
def ml{c f j:Nat}{n:Str}{ns:BM}(hf:P.an[f]?=some n)(hc:P.fn[c]?=some ns)(h:iM P.tab c f=some j):ns[j]?=some n:=by
 unfold iM at h;obtain⟨l,h1,h2⟩:=dM.mp h;unfold Pg.fn at hc;rw[fZ,h1]at hc;cases hc;rw[fZ,G5 h2];show some (P.an.getD f Str.empty)=_;rw[ze,hf];rfl
def KG(O:nF X.K X.mg P){f:Nat}{n:Str}(hf:P.an[f]?=some n)(he:PE X e (tE (P.kt X) fa))(hb:bB e=true):PE X (.Attribute e n pos) (tE (P.kt X) (au P.tab f fa)):=by
 refine aP (BU he (fJ hb)) λσ H Q zz=>?_;obtain⟨g,s,t,s',x,h,k⟩:=zz;obtain⟨⟨tx,s1⟩,h1,h⟩:=aa h;refine⟨g,s,_,s1,x,h1,λv g1 H1 p1 x1 r1=>?_⟩;cases tx<;>first|(cases h;done)|skip
 ·rename_i c fs
  obtain⟨u,h2,h⟩:=aa h;cases h;obtain⟨j,h3,h4⟩:=dM.mp (aj h2);obtain⟨a,C,dx,ns,vs,rfl,hC,hq,hl,hd,r⟩:=r1;obtain⟨m,hm,u_,F⟩:=O.of hC;have hj:=ml hf u_ h3;obtain⟨w,hw,qT⟩:=r.get h4;exact⟨a,C,dx,_,w,rfl,x1.sub _ _ hq,F.cl,F.na _ (jT hj),by rw[gZ F.nd hj,hw],k _ g1 H1 p1 x1 qT⟩
 ·rename_i kk
  obtain⟨c,h2,h⟩:=aa h;obtain⟨ob,h3,h4⟩:=dM.mp (aj h2);obtain⟨j,h5,h6⟩:=dM.mp h4;obtain⟨a,rfl,ha⟩:=r1;rcases x1.st.at_ kk ob h3 with⟨a',C,dx,ns,vs,Z⟩|⟨a',Z⟩
  case inr=>
   obtain⟨l,q,_⟩:=dM.mp h5;have z:(P.tab.map _)[ob.c]?=none:=Z.nf;rw[fZ,q]at z;cases z
  have:=Z.al.symm.trans ha
  cases this;obtain⟨m,hm,u_,F⟩:=O.of Z.cl;have hj:=ml hf u_ h5;obtain⟨w,hw,sl⟩:=Z.f j c h6;cases c with
  |val t'=>
   cases h;exact⟨a,C,dx,_,w,rfl,Z.h,F.cl,F.na _ (jT hj),by rw[gZ F.nd hj,hw],k _ g1 H1 p1 x1 sl⟩
  |ol ts=>cases h
  |od ks ts=>cases h
  |yg t=>cases h
def tyB(ty:String):T->Option Bool
 |.non=>some false
 |.bl _=>some (ty == "bool" ||ty == "int")
 |.int _=>some (ty == "int")
 |.str _=>some (ty == "str")
 |.tup _=>some (ty == "tuple")
 |.lst _=>some (ty == "list")
 |_=>none
def R0(ty:String):T->FX:=λt=>(tyB ty t).map .bl
def MW{B:KT}{al:D2}{H:Hp}{t:T}{v:V}{Ty:String}{u:Bool}(ka:jF Ty)(r:Rep B al H t v)(h:tyB Ty t=some u):∃tn,jd B.K H v tn/\sE B.K tn (.type Ty)=some u:=by
 cases t with
 |non=>cases(show v=.non from r);cases h;exact⟨_,.non,jE B.K ka.non⟩
 |bl b=>cases(show v=.bl b from r);cases h;exact⟨_,.bl _,jE B.K ka.bl⟩
 |int i=>cases(show v=.int i from r);cases h;exact⟨_,.int _,jE B.K ka.int⟩
 |str l=>obtain⟨rfl,_⟩:=r;cases h;exact⟨_,.str _,jE B.K ka.str⟩
 |tup ts=>obtain⟨a,vs,rfl,q,_⟩:=r;cases h;exact⟨_,.tup q,jE B.K ka.tup⟩
 |lst ts=>obtain⟨a,vs,rfl,q,_⟩:=r;cases h;exact⟨_,.lst q,jE B.K ka.lst⟩
 |_=>cases h
def qh:List (Str×String):=[("int","int"),("bool","bool"),("str","str"),("tuple","tuple"),("list","list")]
def KI:∀q∈qh,jF q.2/\bootBuiltins q.1=some (.type q.2)/\q.1 ≠ "__name__" /\ (q.1 == ("__debug__" : Str))=false:=by
 intro p h;simp only[qh,gh,jV,or_false]at h;rcases h with rfl|rfl|rfl|rfl|rfl
 ·exact⟨MR,J4,by decide,by decide⟩
 ·exact⟨GZ,PyProof.Rows.boot_bool,by decide,by decide⟩
 ·exact⟨MS,J3,by decide,by decide⟩
 ·exact⟨CW,PyProof.Rows.boot_tuple,by decide,by decide⟩
 ·exact⟨G0,zp,by decide,by decide⟩
def MX{B:KT}(hB:B.K=X.K){ty:String}{py:Pos}(hy:(y,ty)∈qh)(hm:X.mg "isinstance" = none)(R3:X.mg y=none)(ha:PE X a (tE B fa))(hg:Gl X "isinstance")(MK:Gl X y)(hs:noStar a=true) :
  PE X (.Call (.Name "isinstance" p) [a,.Name y py] [] pos) (tE B (dq (R0 ty) fa)):=by
 obtain⟨ka,hb,hn,hd⟩:=KI _ hy;have u9:starEach [Expr.Name y py] X.env=(false,eval (.Name y py) X.env)::starEach [] X.env:=rfl;refine aP (gB kZ hg hm BB (aV ha (aV (xu MK R3 hb (v:=.ty ty) rfl hn hd) cu u9) (ao hs)) (he:=ao hs) (hpl:=rfl))
  (Kr hB (r:=λx H Q=>∃x' T' t b,[x,.ty ty]=[x',.ty T']/\jd X.K H x' t/\sE X.K t (.type T')=some b/\Q (.bl b) H) λB hB al HF H x t tx Q sm rx h k=>?_)
 obtain⟨u,h1,rfl⟩:=cz.mp h;obtain⟨tn,h2,h3⟩:=MW ka (rx.same sm) h1;exact⟨x,ty,tn,u,rfl,hB▸h2,hB▸h3,k _ HF H (.refl sm) rfl⟩
def gM(sub:Ap)(ds:Bi):T->FX
 |.obj c _=>(sub[c]?).map λl=>.bl (ds.any λd=>decide (d∈l))
 |_=>none
def C3:eV X (.builtin "isinstance") (λxs H Q=>∃x D t b,xs=[x,.ref D]/\jd X.K H x t/\sE X.K t (.ref D)=some b/\Q (.bl b) H):=by
 intro ae s σ H xs us Q I r h;obtain⟨x,D,t,b,rfl,ty,e,q⟩:=h;obtain⟨u,u',rfl,ru,Wj⟩:=vals2 r;cases Wj;exact pR I ru ty e λtk=>⟨.bl b,H,I.tok _,rfl,q⟩
def R4(O:nF X.K X.mg P){d:Nat}{py:Pos}(hy:P.cn[d]?=some y)(hm:X.mg "isinstance" = none)(ha:PE X a (tE (P.kt X) fa))(hg:Gl X "isinstance")(MK:Gl X y)(hs:noStar a=true)(hd:df y)(Lu:(P.fn[d]?).isSome=true) :
  PE X (.Call (.Name "isinstance" p) [a,.Name y py] [] pos) (tE (P.kt X) (dq (gM P.sub [d]) fa)):=by
 obtain⟨ns,u_⟩:=JR.mp Lu;obtain⟨D,FD⟩:=O.cls d y ns hy u_;have u9:starEach [Expr.Name y py] X.env=(false,eval (.Name y py) X.env)::starEach [] X.env:=rfl;refine aP (gB C3 hg hm BB (aV ha (aV (xr (v:=.ref D) MK FD.gl rfl hd) cu u9) (ao hs)) (he:=ao hs) (hpl:=rfl)) λσ H Q zz=>?_;obtain⟨g,s,t,s',x,h,k⟩:=zz;obtain⟨⟨tx,s1⟩,h1,h⟩:=aa h;obtain⟨t',h2,h⟩:=aa h;cases h;refine⟨g,s,_,_,x,h1,λv g1 H1 p1 x1 r1=>?_⟩;have h2:=aj h2;cases tx<;>first|(cases h2;done)|skip
 obtain⟨l,hl,rfl⟩:=cz.mp h2;obtain⟨a,C,dx,E6,vs,rfl,hC,hq,hle,hdx,r⟩:=r1;obtain⟨m,ć,Ĉ,F⟩:=O.of hC;refine⟨_,D,_,_,rfl,.ins (x1.sub _ _ hq) F.cl F.ca O.gt.1 O.gt.2 F.mo,O.sub _ d m y C D l ć hy F.gl FD.gl hl,?_⟩
 have:=k (V.bl (decide (d∈l))) g1 H1 p1 x1 (by show _=V.bl (([d]:Bi).any λd=>decide (d∈l));simp)
 exact this
abbrev j7(P:Pg)(K:bD)(Pr:Program)(w:World):KT:=⟨K,Pr,w,P.cn,P.fn⟩
def qi(B:KT)(f:Fn):Sp:=λvs H Q _=>∃g ts m t m',fT B g H m/\aB B g.al g.HF ts vs/\f ts m=.ok (t,m')/\∀v g' H',ez g H g' H'->fT B g' H' m'->Rep B g'.al g'.HF t v->Q v H'
structure W3(P:Pg)(Pr:Program)(w:World)(K:bD)(mg:Str->Dx)(base:Heap)(k:Nat)(x:Str)(ds:FV)(f:Fn):Prop where
 ex:∃(fa:Addr)(fd:FuncData)(ps:BM)(gn:Bz)(dV:List V),dF Pr w K mg base lR k fa fd ps (qi (j7 P K Pr w) f)/\mg x=some (.ref fa)/\sD K (.ref fa)=true/\Binds K fd ps gn/\Vals dV gn/\∀al H,aB (j7 P K Pr w) al H ds dV
def j8{f:Fn}{ds:FV}{t:T}(h:aw f ds fl s=.ok (t,s')):∃ts s1 m',fl s=.ok (ts,s1)/\f (ts++ds) s1.m=.ok (t,m')/\s'={s1 with m:=m'}:=by
 obtain⟨⟨ts,s1⟩,h1,h⟩:=aa h;dsimp only at h;cases q:f (ts++ds) s1.m with
 |ok r=>rw[q]at h;cases h;exact⟨ts,s1,r.2,h1,q,rfl⟩
 |bad=>rw[q]at h;cases h
 |exc c fs s2=>rw[q]at h;cases h
def tX{B:KT}{f:Fn}{ts:FV}{t:T}{m':He}{vs:List V}{Q:VK}{E:XK}(x:SR B g H σ s)(r:aB B g.al g.HF ts vs)(h:f ts s.m=.ok (t,m'))(k:∀v g' H',ez g H g' H'->SR B g' H' σ {s with m:=m'}->Rep B g'.al g'.HF t v->Q v H'):qi B f vs H Q E:=
 ⟨g.ah,ts,s.m,t,m',x.st.ah,r,h,λv g' H' p y rv=>let⟨p2,x2⟩:=x.back p y;k v (G.back g g') H' p2 x2 rv⟩
def s_call{k j:Nat}{ds:FV}{f:Fn}(D:W3 P X.prog X.w X.K X.mg X.base k x ds f)(hr:bM j X.A)(z_:k<=j)(ha:PA X (e::es) (tA (P.kt X) fl))(hg:Gl X x)(qQ:df x)(hs:(e::es).all noStar=true) :
  PE X (.Call (.Name x p) (e::es) [] pos) (tE (P.kt X) (aw f ds fl)):=by
 obtain⟨ff,fd,ps,gn,dV,F,hm,hk,hb,hd,E7⟩:=D.ex;rw[eU,dh]at hs;refine aP (F_ F (hr.mono z_) hg hm hk hb hd mR ha qQ (ao hs.1) (eY hs.2)) λσ H Q zz=>?_;obtain⟨g,s,t,s',x,h,k⟩:=zz;obtain⟨ts,s1,m',h1,h2,rfl⟩:=j8 h;exact⟨g,s,ts,s1,x,h1,λvs g1 H1 p1 x1 r1=>tX x1 (r1.app (E7 _ _)) h2 λv g' H' p2 x2 rv=>k v g' H' (p1.trans p2) x2 rv⟩
def G6{k j:Nat}{ds:FV}{f:Fn}(D:W3 P X.prog X.w X.K X.mg X.base k x ds f)(hr:bM j X.A)(z_:k<=j)(hg:Gl X x)(qQ:df x) :
  PE X (.Call (.Name x p) [] [] pos) (tE (P.kt X) (aw f ds ba)):=by
 obtain⟨ff,fd,ps,gn,dV,F,hm,hk,hb,hd,E7⟩:=D.ex;refine aP (BY F (hr.mono z_) hg hm hk hb hd mR qQ) λσ H Q zz=>?_;obtain⟨g,s,t,s',x,h,k⟩:=zz;obtain⟨ts,s1,m',h1,h2,rfl⟩:=j8 h;cases h1;exact tX (E:=E0) (vs:=[]++dV) x (E7 _ _) h2 λv g' H' p2 x2 rv=>k v g' H' p2 x2 rv
structure U7(P:Pg)(Pr:Program)(w:World)(K:bD)(mg:Str->Dx)(base:Heap)(k:Nat)(c:Nat)(m:Str)(f:Fn):Prop where
 ex:∃(C fa:Addr)(fd:FuncData)(ps:BM)(ns:BM),iP (j7 P K Pr w) c C ns/\pQ K C/\Meth K C m fa/\dF Pr w K mg base lR k fa fd ps (qi (j7 P K Pr w) f)/\Binds K fd ps []/\m∉ns
def KJ{ι:Type}{t:ι->TE}{t':TE}{C:ι->Prop}(h:∀i,C i->PE X e (t i))(k:∀σ H Q,t' σ H Q->∃i,C i/\t i σ H Q):PE X e t':=λae s σ H Q I q=>by
 obtain⟨i,hi,hq⟩:=k σ H Q q;exact h i hi ae s σ H Q I hq
def C4(X:Cx)(o:Expr)(m:Str)(bF:Pos)(es:D1)(pos:Pos):Prop:=∃pl,eval (.Call (.Attribute o m bF) es [] pos) X.env=(do
   let ov <- eval o X.env
   standAt bF.atName
   let(f,first) <- holding [ov] (getMethod ov m pl)
   callWith pos f first (backTo pos (starEach es X.env)) (backToKw pos (keywordEach [] X.env)))
def tY{gm:Nat->Option Fn}{t:T}(h:av gm fo fl s=.ok (t,s')):∃tx s1 c f ts s2 m',fo s=.ok (tx,s1)/\((∃k ob,tx=.own k/\s1.m[k]?=some ob/\ob.c=c)\/∃fs,tx=.obj c fs)/\gm c=some f/\fl s1=.ok (ts,s2)/\f (tx::ts) s2.m=.ok (t,m')/\s'={s2 with m:=m'}:=by
 obtain⟨⟨tx,s1⟩,h1,h⟩:=aa h;cases tx<;>first|(cases h;done)|skip
 ·rename_i c fs
  obtain⟨f,h2,h⟩:=aa h;obtain⟨us,s2,m',h3,h4,rfl⟩:=j8 h;obtain⟨⟨ts,s3⟩,h5,h6⟩:=aa h3;cases h6;rw[dc]at h4;exact⟨_,s1,c,f,ts,_,m',h1,.inr ⟨fs,rfl⟩,aj h2,h5,h4,rfl⟩
 ·rename_i kk
  obtain⟨f,h2,h⟩:=aa h;obtain⟨ob,h7,h8⟩:=dM.mp (aj h2);obtain⟨us,s2,m',h3,h4,rfl⟩:=j8 h;obtain⟨⟨ts,s3⟩,h5,h6⟩:=aa h3;cases h6;rw[dc]at h4;exact⟨_,s1,ob.c,f,ts,_,m',h1,.inl ⟨kk,ob,rfl,h7,rfl⟩,h8,h5,h4,rfl⟩
def C5{B:KT}{C:Addr}{ns:BM}{c:Nat}{tx:T}{v:V}(x:SR B g H σ s)(hC:iP B c C ns)(r:Rep B g.al g.HF tx v)(h:(∃k ob,tx=.own k/\s.m[k]?=some ob/\ob.c=c)\/∃fs,tx=.obj c fs):∃a dx vs,v=.ref a/\H a=some (.ins C dx (ns.zip vs)):=by
 rcases h with⟨k,ob,rfl,h1,rfl⟩|⟨fs,rfl⟩
 ·obtain⟨a,rfl,ha⟩:=r
  rcases x.st.at_ k ob h1 with⟨a',C',dx,E6,vs,Z⟩|⟨a',Z⟩
  case inr=>
   obtain⟨n,q,_⟩:=hC;rw[Z.nc]at q;cases q
  have:=Z.al.symm.trans ha
  cases this;obtain⟨rfl,rfl⟩:=Z.cl.eq hC;exact⟨a,dx,vs,rfl,Z.h⟩
 ·obtain⟨a,C',dx,E6,vs,rfl,ĉ,hq,_⟩:=r
  obtain⟨rfl,rfl⟩:=ĉ.eq hC;exact⟨a,dx,vs,rfl,x.sub _ _ hq⟩
def MY{m:Str}{k j:Nat}{gm:Nat->Option Fn}(D:∀c f,gm c=some f->U7 P X.prog X.w X.K X.mg X.base k c m f)(hr:bM j X.A)(z_:k<=j)(ho:PE X o (tE (P.kt X) fo))(ha:PA X (e::es) (tA (P.kt X) fl))(hs:(e::es).all noStar=true)(mc:C4 X o m bF (e::es) pos) :
  PE X (.Call (.Attribute o m bF) (e::es) [] pos) (tE (P.kt X) (av gm fo fl)):=by
 obtain⟨pl,mc⟩:=mc;rw[eU,dh]at hs;refine KJ (ι:=Addr×Fn) (C:=λi=>∃c fa fd ps ns,iP (P.kt X) c i.1 ns/\gm c=some i.2/\pQ X.K i.1/\Meth X.K i.1 m fa/\dF X.prog X.w X.K X.mg X.base lR k fa fd ps (qi (P.kt X) i.2)/\Binds X.K fd ps []/\m∉ns)
  (t:=λi=>xA i.1 m (qi (P.kt X) i.2) [] E0 (tE (P.kt X) fo) (tA (P.kt X) fl)) (λi ⟨c,fa,fd,ps,ns,hC,_,cl,M,F,hb,_⟩=>Ga (pl:=pl) ho cl M F (hr.mono z_) hb .nil mR ha (ao hs.1) (eY hs.2) mc) ?_
 rintro σ H Q ⟨g,s,t,s',x,h,k⟩
 obtain⟨tx,s1,c,f,ts,s2,m',h1,hc,hf,h3,h4,rfl⟩:=tY h;obtain⟨C,fa,fd,ps,ns,hC,cl,M,F,hb,hn⟩:=(D c f hf).ex;refine⟨(C,f),⟨c,fa,fd,ps,ns,hC,hf,cl,M,F,hb,hn⟩,g,s,_,s1,x,h1,λv g1 H1 p1 x1 r1=>?_⟩;obtain⟨a,dx,vs,rfl,hi⟩:=C5 x1 hC r1 hc;refine⟨a,dx,_,rfl,hi,nG hn,g1,s1,ts,s2,x1,h3,λus g2 H2 p2 x2 r2=>?_⟩;show qi _ _ (V.ref a::(us++[])) H2 Q E0;rw[dc];exact tX (ts:=tx::ts) x2 ⟨_,us,rfl,r1.mv p2.pre p2.fr,r2⟩ h4 λv g' H' p3 x3 rv=>k v g' H' ((p1.trans p2).trans p3) x3 rv
def G7{m:Str}{k j:Nat}{gm:Nat->Option Fn}(D:∀c f,gm c=some f->U7 P X.prog X.w X.K X.mg X.base k c m f)(hr:bM j X.A)(z_:k<=j)(ho:PE X o (tE (P.kt X) fo))(mc:C4 X o m bF [] pos) :
  PE X (.Call (.Attribute o m bF) [] [] pos) (tE (P.kt X) (av gm fo ba)):=by
 obtain⟨pl,mc⟩:=mc;refine KJ (ι:=Addr×Fn) (C:=λi=>∃c fa fd ps ns,iP (P.kt X) c i.1 ns/\gm c=some i.2/\pQ X.K i.1/\Meth X.K i.1 m fa/\dF X.prog X.w X.K X.mg X.base lR k fa fd ps (qi (P.kt X) i.2)/\Binds X.K fd ps []/\m∉ns)
  (t:=λi=>xA i.1 m (qi (P.kt X) i.2) [] E0 (tE (P.kt X) fo) F9) (λi ⟨c,fa,fd,ps,ns,hC,_,cl,M,F,hb,_⟩=>BZ (pl:=pl) ho cl M F (hr.mono z_) hb .nil mR mc) ?_
 rintro σ H Q ⟨g,s,t,s',x,h,k⟩
 obtain⟨tx,s1,c,f,ts,s2,m',h1,hc,hf,h3,h4,rfl⟩:=tY h;cases h3;obtain⟨C,fa,fd,ps,ns,hC,cl,M,F,hb,hn⟩:=(D c f hf).ex;refine⟨(C,f),⟨c,fa,fd,ps,ns,hC,hf,cl,M,F,hb,hn⟩,g,s,_,s1,x,h1,λv g1 H1 p1 x1 r1=>?_⟩;obtain⟨a,dx,vs,rfl,hi⟩:=C5 x1 hC r1 hc;exact⟨a,dx,_,rfl,hi,nG hn,tX (E:=E0) (ts:=[tx]) (vs:=[.ref a]) x1 (.one r1) h4 λv g' H' p3 x3 rv=>k v g' H' (p1.trans p3) x3 rv⟩
def Y8(C:Addr)(ns:BM):Sp:=λvs H Q _=>∃x dx args,vs=.ref x::args/\args.length=ns.length/\H x=some (.ins C dx [])/\Q .non (upd H x (.ins C dx (ns.zip args)))
structure Y9(P:Pg)(Pr:Program)(w:World)(K:bD)(mg:Str->Dx)(base:Heap)(k:Nat)(c n:Nat)(x:Str):Prop where
 ex:∃(C fi:Addr)(fd:FuncData)(ps:BM)(ns:BM),iP (j7 P K Pr w) c C ns/\ns.length=n/\mg x=some (.ref C)/\Mk K C fi/\dF Pr w K mg base lR k fi fd ps (Y8 C ns)/\Binds K fd ps []
def G8{B:KT}{c:Nat}{C x dx:Addr}{ns:BM}{ts:FV}{vs:List V}(X1:SR B g H σ s)(hC:iP B c C ns)(hl:vs.length<=ns.length)(r:aB B g.al g.HF ts vs)(nx:H x=none)(nd:H dx=none)(kG:dx≠x) :
  ∃gr:Gr g.HF H (upd (upd g.HF dx (.own x)) x (.ins C dx (ns.zip vs))) (upd (upd H dx (.own x)) x (.ins C dx (ns.zip vs))),Rep B g.al (upd (upd g.HF dx (.own x)) x (.ins C dx (ns.zip vs))) (.obj c ts) (.ref x):=by
 have g2:=Gr.new (o:=.own x) X1.sub nd;have W4:upd H dx (.own x) x=none:=by rw[aq (Ne.symm kG)];exact nx
 have g3:=Gr.new (o:=.ins C dx (ns.zip vs)) g2.sub W4;exact⟨g2.trans g3,x,C,dx,ns,vs,rfl,hC,ai,hl,by rw[aq kG,ai],r.same (g2.fr.trans g3.fr)⟩
def R5{k j c n:Nat}(D:Y9 P X.prog X.w X.K X.mg X.base k c n x)(hr:bM j X.A)(z_:k+1<=j)(ha:PA X (e::es) (tA (P.kt X) fl))(hg:Gl X x)(qQ:df x)(hs:(e::es).all noStar=true) :
  PE X (.Call (.Name x p) (e::es) [] pos) (tE (P.kt X) (fH c n fl)):=by
 obtain⟨C,f,fd,ps,ns,hC,hn,hm,M,F,hb⟩:=D.ex;rw[eU,dh]at hs;refine aP (qR M F (hr.mono z_) hg hm hb .nil mR ha qQ (ao hs.1) (eY hs.2)) λσ H Q zz=>?_;obtain⟨g,s,t,s',x,h,k⟩:=zz;obtain⟨⟨ts,s1⟩,h1,h⟩:=aa h;dsimp only at h;split at h
 ·rename_i hl
  cases h;refine⟨g,s,ts,_,x,h1,λvs g1 H1 p1 x1 r1 x dx nx nd kG=>?_⟩;have Ċ:vs.length=ns.length:=by rw[<- r1.len,hl,hn]
  refine⟨x,dx,vs++[],rfl,by rw[dc,Ċ],ai,rfl,?_⟩
  rw[dc,xn];obtain⟨gr,rp⟩:=G8 (c:=c) (ts:=ts) x1 hC (by omega) r1 nx nd kG
  exact k _ (g1.grow _) _ (p1.trans (x1.kr gr)) (x1.grow gr) rp
 ·cases h
section
end
section
structure Walk(B:KT)(al:D2)(J:It)(HF:Hp)(ts:FV):Prop where
 go:∀i H,aO HF H->i<ts.length->J.go i H
 yld:∀i H x H',aO HF H->i<ts.length->J.yld i H x H'->∃t,ts[i]?=some t/\∀tZ,aO HF tZ->aO tZ H->∃MZ,Gr tZ H MZ H'/\Rep B al MZ t x
 stop:∀i H,aO HF H->i=ts.length->J.stop i H
def Aa{B:KT}{al:D2}{HF:Hp}{l:Addr}{ts:FV}{vs:List V}(h:HF l=some (.lst vs))(r:aB B al HF ts vs):Walk B al (UK B.K l) HF ts:=by
 refine⟨λi H sm hi=>?_,λi H x H' sm hi y=>?_,λi H sm hi=>⟨vs,cJ.of (sm _ _ h),by rw[hi,r.len];exact bV _⟩⟩
 ·obtain⟨v,e,_⟩:=r.get (fj hi)
  exact⟨vs,v,cJ.of (sm _ _ h),e⟩
 ·obtain⟨rfl,y⟩:=y
  have e:=y vs (cJ.of (sm _ _ h));obtain⟨t,e1,e2⟩:=r.vS e;exact⟨t,e1,λtZ s1 s2=>⟨tZ,.refl s2,e2.same s1⟩⟩
def C6{B:KT}{al:D2}{HF:Hp}{l:Addr}{ts:FV}{vs:List V}(h:lO B.K HF l vs)(r:aB B al HF ts vs):Walk B al (VP B.K l) HF ts:=by
 refine⟨λi H sm hi=>?_,λi H x H' sm hi y=>?_,λi H sm hi=>⟨vs,cY sm h,by rw[hi,r.len];exact bV _⟩⟩
 ·obtain⟨v,e,_⟩:=r.get (fj hi)
  exact⟨vs,v,cY sm h,e⟩
 ·obtain⟨rfl,y⟩:=y
  have e:=y vs (cY sm h);obtain⟨t,e1,e2⟩:=r.vS e;exact⟨t,e1,λtZ s1 s2=>⟨tZ,.refl s2,e2.same s1⟩⟩
def j9{B:KT}{al:D2}{J:It}{src:List V}{ts:FV}{HF:Hp}(d:UY J src (λ_=>True))(r:aB B al HF ts src):Walk B al J HF ts:=by
 refine⟨λi H sm hi=>d.go i H trivial (by rw[<- r.len];exact hi),λi H x H' sm hi y=>?_,λi H sm hi=>d.stop i H trivial (by rw[<- r.len];exact hi)⟩
 obtain⟨rfl,e⟩:=d.yld i H x H' trivial (by rw[<- r.len];exact hi) y
 obtain⟨t,e1,e2⟩:=r.vS e;exact⟨t,e1,λtZ s1 s2=>⟨tZ,.refl s2,e2.same s1⟩⟩
theorem aB.i0{B:KT}{al:D2}{H:Hp}(lo:Int)(n:Nat):aB B al H (D.i0 lo n) ((cP n).map λk=>V.int (lo+(k:Nat))):=by
 have e1:D.i0 lo n=((cP n).map λk=>lo+((k:Nat):Int)).map T.int:=by unfold D.i0;rw[gR];rfl
 have e2:((cP n).map λk=>V.int (lo+(k:Nat)))=((cP n).map λk=>lo+((k:Nat):Int)).map V.int:=by rw[gR];rfl
 rw[e1,e2];exact aB.ints _
def C7(hi:Int)(n:Nat):UY (Wh hi n) ((cP n).map λk=>V.int (hi-(k:Nat))) (λ_=>True):=
 ⟨λi H _ h=>by rw[b_,jU]at h;exact h,
  λi H x H' _ hi y=>by
  obtain⟨e,ex⟩:=y;refine⟨e,?_⟩;have hi:i<n:=by rw[b_,jU]at hi;exact hi
  rw[fZ,Fv hi,ex];rfl,
  λi H _ h=>by rw[b_,jU]at h;exact zc h.symm⟩
def aB.ċ{B:KT}{al:D2}{H:Hp}(hi:Int)(n:Nat):aB B al H ((cP n).map λk=>T.int (hi-(k:Nat))) ((cP n).map λk=>V.int (hi-(k:Nat))):=by
 have e1:((cP n).map λk=>T.int (hi-(k:Nat)))=((cP n).map λk=>hi-((k:Nat):Int)).map T.int:=by rw[gR];rfl
 have e2:((cP n).map λk=>V.int (hi-(k:Nat)))=((cP n).map λk=>hi-((k:Nat):Int)).map V.int:=by rw[gR];rfl
 rw[e1,e2];exact aB.ints _
structure Sets(B:KT)(al:D2)(HF:Hp)(S:Bi)(σ σ':St)(ρ ρ':FK):Prop where
 len:σ'.length=σ.length
 lenR:ρ'.length=ρ.length
 off:∀(i:Nat),i∉S->σ'[i]?=σ[i]?/\ρ'[i]?=ρ[i]?
 on:∀(i:Nat),i∈S->i<ρ.length->∃(t:T)(v:V),ρ'[i]?=some (some (.val t))/\σ'[i]?=some (some v)/\Rep B al HF t v
structure rB(B:KT)(g:TG)(fg:FG)(S:Bi):Prop where
 ok:∀(al:D2)(HF H:Hp)(σ:St)(ρ:FK)(t:T)(v:V)(ρ':FK)(Q:St->Hp->Prop),aO HF H->Rep B al HF t v->fg t ρ=some ρ'->ρ.length=σ.length->(∀σ',Sets B al HF S σ σ' ρ ρ'->Q σ' H)->g v σ H Q
def Sets.one{B:KT}{al:D2}{HF:Hp}{i:Nat}{σ:St}{ρ:FK}{t:T}{v:V}(hl:ρ.length=σ.length)(r:Rep B al HF t v):Sets B al HF [i] σ (σ.set i (some v)) ρ (ρ.set i (some (.val t))):=by
 refine⟨fh,fh,λj hj=>?_,λj hj iB=>?_⟩
 ·have:i≠j:=λe=>hj (by simp[e])
  rw[cT this,cT this];exact⟨rfl,rfl⟩
 ·have:j=i:=by simpa using hj
  subst this;exact⟨t,v,by rw[cj iB],by rw[cj (by omega)],r⟩
def xS{B:KT}(i:Nat):rB B (xy i) (setG i) [i]:=⟨λal HF H σ ρ t v ρ' Q sm r h hl q=>by
 cases h;exact q _ (.one hl r)⟩
def Sets.cons{B:KT}{al:D2}{HF:Hp}{i:Nat}{S:Bi}{σ σ':St}{ρ ρ':FK}{t:T}{v:V}(hl:ρ.length=σ.length)(r:Rep B al HF t v)(h:Sets B al HF S (σ.set i (some v)) σ' (ρ.set i (some (.val t))) ρ'):Sets B al HF (i::S) σ σ' ρ ρ':=by
 have o:=Sets.one (B:=B) (al:=al) (i:=i) hl r;refine⟨h.len.trans o.len,h.lenR.trans o.lenR,λj hj=>?_,λj hj iB=>?_⟩
 ·obtain⟨h1,h2⟩:=h.off j (λz=>hj (by simp[z]))
  obtain⟨h3,h4⟩:=o.off j (λz=>hj (by simp at z;simp[z]))
  exact⟨h1.trans h3,h2.trans h4⟩
 ·by_cases hs:j∈S
  ·exact h.on j hs (by rw[fh];exact iB)
  ·obtain⟨h1,h2⟩:=h.off j hs
   obtain⟨t',v',a,b,c⟩:=o.on j (by rcases gh.mp hj with z|z;exact(by simp[z]);exact absurd z hs) iB
   exact⟨t',v',h2.trans a,h1.trans b,c⟩
def nI:Bi->J_
 |[]=>P1
 |i::is=>Ka (xy i) (nI is)
theorem qj{B:KT}{al:D2}:∀(is:Bi)(HF H:Hp)(σ:St)(ρ:FK)(ts:FV)(vs:List V)(ρ':FK)(Q:St->Hp->Prop),aO HF H->aB B al HF ts vs->xJ is ts ρ=some ρ'->ρ.length=σ.length->(∀σ',Sets B al HF is σ σ' ρ ρ'->Q σ' H)->nI is vs σ H Q
 |[],HF,H,σ,ρ,ts,vs,ρ',Q,sm,r,h,hl,q=>by
  cases ts with
  |cons t ts=>cases h
  |nil=>
   cases h;cases(show vs=[]from r);exact⟨rfl,q _ ⟨rfl,rfl,λ_ _=>⟨rfl,rfl⟩,λi hi=>by cases hi⟩⟩
 |i::is,HF,H,σ,ρ,ts,vs,ρ',Q,sm,r,h,hl,q=>by
  cases ts with
  |nil=>cases h
  |cons t ts=>
   obtain⟨v,ik,rfl,r1,r2⟩:=r;refine⟨v,ik,rfl,?_⟩;exact qj is HF H _ _ ts ik ρ' Q sm r2 h (by rw[fh,fh];exact hl) λσ' s=>q σ' (.cons hl r1 s)
def C8{B:KT}(is:Bi){n:Nat}(hn:is.length=n:=by rfl):rB B (LJ B.K n (nI is)) (gG is) is:=⟨λal HF H σ ρ t v ρ' Q sm r h hl q=>by
 cases t<;>first|(cases h;done)|skip
 ·rename_i ts
  obtain⟨a,vs,rfl,q1,r⟩:=r;have dD:∀(is:Bi)(ts:FV)(ρ:FK),xJ is ts ρ=some ρ'->is.length=ts.length:=by
   intro is
   induction is with
   |nil=>intro ts ρ h;cases ts with
    |nil=>rfl
    |cons=>cases h
   |cons i is ih=>intro ts ρ h;cases ts with
    |nil=>cases h
    |cons t ts=>simp[ih ts _ h]
  exact⟨a,vs,rfl,cY sm q1,by rw[<- r.len,<- dD _ _ _ h,hn],qj is HF H σ ρ ts vs ρ' Q sm r h hl q⟩
⟩
theorem Walk.mv{al GL:D2}{J:It}{HF gb:Hp}{ts:FV}(w:Walk B al J HF ts)(p:al <+: GL)(s:aO HF gb):Walk B GL J gb ts:=
 ⟨λi H h=>w.go i H (s.trans h),λi H x H' h hi y=>let⟨t,h1,h2⟩:=w.yld i H x H' (s.trans h) hi y;⟨t,h1,λtZ s1 s2=>let⟨MZ,gr,r⟩:=h2 tZ (s.trans s1) s2;⟨MZ,gr,r.mv p (aO.refl _)⟩⟩,λi H h=>w.stop i H (s.trans h)⟩
def tI(B:KT)(f:FL):TI:=λσ H R=>∃g s ts s',SR B g H σ s/\f s=.ok (ts,s')/\∀J g' H',ez g H g' H'->SR B g' H' σ s'->Walk B g'.al J g'.HF ts->R J H'
def t_:PI X tg e (tI B fQ):=λ_ _ _ _ _ _ ⟨_,_,_,_,_,h,_⟩=>by cases h
def KL{t t':TI}(h:PI X tg e t)(h':PI X tg e t'):PI X tg e (λσ H R=>t σ H R\/t' σ H R):=λae s σ H R I q=>by
 rcases q with q|q
 ·exact h ae s σ H R I q
 ·exact h' ae s σ H R I q
def M0:T->Bool
 |.str _=>false
 |_=>true
def M3:T->FR
 |.str _=>none
 |t=>U4 t
def Ab(a:FE):FL:=λs=>(a s).bind λp=>(aT (M3 p.1)).bind λts=>.ok (ts,p.2)
def Ac{al:D2}{HF:Hp}{a:Addr}{ns:Fh}(h:cJ B.K HF a (ns.map V.int)):Walk B al (UK B.K a) HF (ns.map T.int):=by
 refine⟨λi H sm hi=>?_,λi H x H' sm hi y=>?_,λi H sm hi=>⟨_,sm.seq h,by rw[hi,b_,b_];exact bV _⟩⟩
 ·rw[b_]at hi
  exact⟨_,.int ns[i],sm.seq h,by rw[fZ,fj hi];rfl⟩
 ·rw[b_]at hi
  obtain⟨rfl,y⟩:=y;have e:=y _ (sm.seq h);obtain⟨t,e1,e2⟩:=(aB.ints (B:=B) (al:=al) (H:=HF) ns).vS e;exact⟨t,e1,λtZ s1 s2=>⟨tZ,.refl s2,e2.same s1⟩⟩
def KN(hB:B.K=X.K)(ha:PE X e (tE B fa)):PI X tg e (tI B (Ab fa)):=by
 refine k8 (KL (FI ha) (LS ha)) λσ H R zz=>?_;obtain⟨g,s,t,s',x,h,k⟩:=zz;obtain⟨⟨tx,s1⟩,h1,h⟩:=aa h;obtain⟨ts,h2,h⟩:=aa h;cases h;have h2:=aj h2;have W5:=hB.symm;cases tx<;>first|(cases h2;done)|skip
 ·cases h2
  refine .inr ⟨g,s,_,_,x,h1,λv g1 H1 p1 x1 r1=>?_⟩;obtain⟨l,vs,rfl,q,r⟩:=r1;refine⟨l,rfl,⟨vs,hB▸cY x1.sub q⟩,?_⟩;rw[W5];exact k _ g1 H1 p1 x1 (C6 q r)
 ·cases h2
  refine .inl ⟨g,s,_,_,x,h1,λv g1 H1 p1 x1 r1=>?_⟩;obtain⟨l,vs,rfl,q,r⟩:=r1;refine⟨l,rfl,⟨vs,cJ.of (x1.sub _ _ q)⟩,?_⟩;rw[W5];exact k _ g1 H1 p1 x1 (Aa q r)
 ·cases h2
  refine .inl ⟨g,s,_,_,x,h1,λv g1 H1 p1 x1 r1=>?_⟩;obtain⟨l,rfl,q⟩:=r1;refine⟨l,rfl,⟨_,hB▸x1.sub.seq q⟩,?_⟩;rw[W5];exact k _ g1 H1 p1 x1 (Ac q)
def R6(hB:B.K=X.K){px:Pos}(ha:PE X e (tE B fa)):PI X (.Name x px) e (tI B (k7 fa)):=by
 refine k8 (KL (KN hB ha) (Mm ha)) λσ H R zz=>?_;obtain⟨g,s,t,s',z,h,k⟩:=zz;obtain⟨⟨tx,s1⟩,h1,h⟩:=aa h;obtain⟨ts,h2,h⟩:=aa h;cases h;by_cases hs:M0 tx=true
 ·refine .inl ⟨g,s,t,_,z,?_,k⟩
  unfold Ab;rw[h1];show(aT (M3 tx)).bind _=_;have e:M3 tx=U4 tx:=by cases tx<;>first|rfl|(cases hs)
  rw[e,h2];rfl
 ·cases tx<;>first|(exact absurd rfl hs)|skip
  have h2:=aj h2;cases h2;refine .inr ⟨g,s,_,_,z,h1,λv g1 H1 p1 x1 r1=>?_⟩;obtain⟨rfl,hz⟩:=r1;exact⟨_,rfl,k _ g1 H1 p1 x1 (j9 (Gw _) (aB.signs _))⟩
def C9(hg:Gl X "range")(hm:X.mg "range" = none)(ha:PE X a (tE B fa))(hs:noStar a=true):PI X tg (.Call (.Name "range" p) [a] [] pos) (tI B (vR nj (bH fa ba))):=by
 have h0:starEach [a] X.env=[(false,eval a X.env)]:=ao hs;refine k8 (zE hg hm (aV ha cu h0) h0) λσ H R zz=>?_;obtain⟨g,s,t,s',x,h,k⟩:=zz;obtain⟨⟨ts,s1⟩,h1,h⟩:=aa h;obtain⟨us,h2,h⟩:=aa h;cases h;obtain⟨⟨tx,s2⟩,h3,h1⟩:=aa h1;cases h1;have h2:=aj h2;cases tx<;>first|(cases h2;done)|skip
 obtain⟨z,rfl⟩:=aZ h2;refine⟨g,s,_,_,x,h3,λv g1 H1 p1 x1 r1=>?_⟩;cases r1;exact⟨_,rfl,by omega,by omega,k _ g1 H1 p1 x1 (j9 (p9 0 _) (aB.i0 0 _))⟩
def C_(hg:Gl X "range")(hm:X.mg "range" = none)(ha:PE X a (tE B fa))(hb:PE X b (tE B fb))(hs:noStar a=true)(Gu:noStar b=true):PI X tg (.Call (.Name "range" p) [a,b] [] pos) (tI B (vR nj (bH fa (bH fb ba)))):=by
 have h0:starEach [b] X.env=[(false,eval b X.env)]:=ao Gu;have Y_:starEach [a,b] X.env=[(false,eval a X.env),(false,eval b X.env)]:=by rw[ao hs,h0]
 refine k8 (zF hg hm (aV ha (aV hb cu h0) (by rw[Y_,h0])) Y_ h0) λσ H R zz=>?_
 obtain⟨g,s,t,s',x,h,k⟩:=zz;obtain⟨⟨ts,s1⟩,h1,h⟩:=aa h;obtain⟨us,h2,h⟩:=aa h;cases h;obtain⟨⟨tx,s2⟩,h3,h1⟩:=aa h1;obtain⟨⟨ty,s3⟩,h4,h1⟩:=aa h1;cases h1;obtain⟨⟨tz,s4⟩,h5,h4⟩:=aa h4;cases h4;have h2:=aj h2;cases tx<;>first|(cases h2;done)|(cases tz<;>first|(cases h2;done)|skip)
 obtain⟨z,rfl⟩:=aZ h2;refine⟨g,s,_,_,x,h3,λv g1 H1 p1 x1 r1=>⟨g1,_,_,_,x1,h5,λw g2 H2 p2 x2 r2=>?_⟩⟩;cases r1;cases r2;exact⟨_,_,rfl,⟨by omega,by omega,by omega,by omega⟩,k _ g2 H2 (p1.trans p2) x2 (j9 (p9 _ _) (aB.i0 _ _))⟩
def nk.sets{al:D2}{S':Bi}{σ':St}{r r':FK}(x:nk B g H σ r)(W6:al=g.al)(t:Sets B al g.HF S' σ σ' r r'):nk B g H σ' r':=by
 subst W6;refine⟨by rw[t.lenR,t.len];exact x.len,λi c h=>?_⟩
 by_cases hi:i∈S'
 ·have iB:i<r.length:=by rw[<- t.lenR];exact(c_.mp h).1
  obtain⟨u,v,h1,h2,h3⟩:=t.on i hi iB;rw[h]at h1;cases h1;exact⟨v,h2,h3⟩
 ·obtain⟨h1,h2⟩:=t.off i hi
  rw[h2]at h;obtain⟨v,h3,h4⟩:=x.at_ i c h;exact⟨v,h1.trans h3,h4⟩
end
def v9{B:KT}{al:D2}{HF:Hp}{S:Bi}{σ':St}{ρ ρ':FK}{k:Nat}{js:Bi}{σ:St}(hS:∀i∈S,i<k)(s:Sets B al HF S (cL k js σ) σ' ρ ρ'):c8 (cL k js σ) σ':=by
 have gen:∀(a b:St),a.length=b.length->(∀(i:Nat)(v:V),a[i]?=some (some v)->b[i]?=some (some v))->c8 a b:=by
  intro a
  induction a with
  |nil=>intro b hl _;cases b with
   |nil=>trivial
   |cons=>cases hl
  |cons x a ih=>intro b hl h;cases b with
   |nil=>cases hl
   |cons y b=>
    have hr:=ih b (by simpa using hl) λi v e=>by simpa using h (i+1) v (by simpa using e)
    cases x with
    |none=>exact hr
    |some v=>
     have:=h 0 v rfl
     simp at this;subst this;exact⟨rfl,hr⟩
 refine gen _ _ s.len.symm λi v e=>?_;by_cases hi:i∈S
 ·have hk:=hS i hi
  unfold cL at e;rw[gi (by rw[vm];exact hk),A8,if_pos hk]at e
  cases e
 ·rw[(s.off i hi).1];exact e
section
variable{scope:Scope}{ls fs:BM}{js S':Bi}{iter elt:Expr}{ifs:D1}{gt:TG}{pK:FL}{fg:FG}{ft:FT}{fe:FE}
theorem SR.kJ:∀(js:Bi){g:G}{s:S},SR B g H σ s->∃g',ez g H g' H/\SR B g' H σ {s with r:=kJ js s.r}
 |[],g,s,x=>⟨g,.refl,x⟩
 |j::js,g,s,x=>by
  show ∃g',ez g H g' H/\SR B g' H σ {s with r:=D.kJ js (z6 s.r j)}
  have one:∃g1,ez g H g1 H/\SR B g1 H σ {s with r:=z6 s.r j}:=by
   unfold z6;split
   ·rename_i ts h
    obtain⟨g1,v,p,y,_⟩:=x.i6 h;exact⟨g1,p,y⟩
   ·exact⟨g,.refl,x⟩
  obtain⟨g1,p1,x1⟩:=one;obtain⟨g2,p2,x2⟩:=SR.kJ js x1;exact⟨g2,p1.trans p2,x2⟩
def nk.block{r:FK}(x:nk B g H σ r)(k:Nat)(js:Bi):nk B g.ah H (cL k js σ) (jC k js r):=by
 refine⟨by unfold jC cL;simp,λi c h=>?_⟩
 unfold jC at h;unfold cL;by_cases hi:i<k
 ·rw[gi (by simpa using hi),A8,if_pos hi]at h
  cases h
 ·rw[e_ (by simpa using hi),vm,fZ]at h
  rw[e_ (by simpa using hi),vm,fZ]
  cases hj:js[i-k]? with
  |none=>rw[hj]at h;cases h
  |some j=>
   rw[hj]at h;have h:(match r[j]? with|some (some (.val t))=>some (C.val t)|_=>none)=some c:=by injection h
   split at h
   ·rename_i t hr
    cases h;obtain⟨v,h1,h2⟩:=x.at_ j _ hr;exact⟨v,by show some ((σ[j]?).join)=_;rw[h1];rfl,h2⟩
   ·cases h
def SR.ua{D:Addr}{u:HO}(x:SR B g H σ s)(hf:g.HF D=none)(ho:g.o D=none)(hl:∃w,H D=some w):SR B g (upd H D u) σ s:=by
 have ne:∀b p,g.o b=some p->b≠D:=λb p e z=>by rw[z,ho]at e;cases e
 refine⟨x.st.mv (λb w e=>?_) (λb p e=>?_) (aO.refl _) rfl λl p h _=>⟨h,aq (ne l p h)⟩,x.lc.len,λi c e=>?_⟩
 ·have:b≠D:=λz=>by rw[z,hf]at e;cases e
  rw[aq this];exact x.sub _ _ e
 ·obtain⟨h1,w,h2⟩:=x.st.live b p e
  exact⟨h1,w,by rw[aq (ne b p e)];exact h2⟩
 ·obtain⟨v,h1,h2⟩:=x.lc.at_ i c e
  exact⟨v,h1,aY.mv (g:=g) (g':=g) (aO.refl _) d_ (λl h=>⟨h,aq (ne l _ h)⟩) h2⟩
def ez.ua{D:Addr}{u:HO}{g1:G}{H1:Hp}(p:ez g H g1 H1)(h0:H D=none):ez g H g1 (upd H1 D u):=
 ⟨p.fr,p.pre,λb w h n z=>by
  have:b≠D:=aL h h0
  rw[aq this];exact p.rest b w h n z,λb h=>by
  by_cases hb:b=D
  ·subst hb;exact h0
  ·rw[aq hb]at h;exact p.there b h⟩
def R7:E5 X [] (tT B fm):=λae s σ H Q I z=>by
 obtain⟨g,st,t,s',x,h,k⟩:=z;cases h;exact Gp ae s σ H Q I (k g H .refl x)
def R8{c:Expr}(h:PT X c (tT B ft)):E5 X [c] (tT B ft):=Gq h
def v_{k:Nat}(E8:rB B gt fg S')(hS:∀i∈S',i<k):∀σ H Q,tO B (cC pK k js fg ft fe) σ H Q->tComp (tI B pK) k js gt (tT B ft) (tE B fe) σ H Q:=by
 rintro σ H Q ⟨g,s,ys,s',x,h,kk⟩
 obtain⟨⟨xs,s1⟩,h1,h⟩:=aa h;dsimp only at h;split at h
 case isFalse=>cases h
 rename_i hz;obtain⟨⟨rs,mm⟩,h2,h⟩:=aa h;cases h;unfold tComp;refine⟨g,s,xs,s1,x,h1,λJ g1 H1 p1 x1 wk D hD=>?_⟩;obtain⟨g2,p2,x2⟩:=x1.kJ js;have wk:=wk.mv p2.pre p2.fr;obtain⟨b,hb⟩:∃b,b=jC k js (_root_.D.kJ js s1.r):=⟨_,rfl⟩;rw[<- hb]at h2;have Za:=p1.trans p2;have Č:H D=none:=Za.there D hD;have nD:∀{gg:G}{ss:S},SR B gg H1 σ ss->gg.HF D=none/\gg.o D=none:=λ{gg ss} x=>⟨x.sub.free hD,by
  cases q:gg.o D with
  |none=>rfl
  |some p=>obtain⟨_,u,z⟩:=x.st.live D p q;rw[hD]at z;cases z⟩
 obtain⟨f2,o2⟩:=nD x2;obtain⟨Zb,_,_⟩:=lV (u:=.lst []) x2 hD;refine⟨λi m zs H2=>m=xs.length-i/\i<=xs.length/\∃g3 m3 done rest,ez g2 H1 g3 H2/\SR B g3 H2 σ ⟨_root_.D.kJ js s1.r,m3⟩/\g3.HF D=none/\g3.o D=none/\H2 D=some (.lst zs)/\aB B g3.al g3.HF done zs/\done.length<=i/\dw fg ft fe b (xs.drop i) m3=.ok (rest,mm)/\rs=done++rest,
  ⟨xs.length,by simp,jb _,g2.grow g2.HF,s1.m,[],rs,x2.kr Zb,x2.grow Zb,f2,o2,ai,rfl,bV _,by rw[w_];exact h2,rfl⟩,?_⟩
 rintro i m zs H2 ⟨rfl,hi,g3,m3,done,rest,p3,x3,f3,o3,hl,rd,hdn,hr,rfl⟩
 by_cases iB:i<xs.length
 ·have Zc:=p3.fr.trans x3.sub
  refine .inr ⟨wk.go i H2 Zc iB,λv H3 y=>?_⟩;obtain⟨t,ht,y2⟩:=wk.yld i H2 v H3 Zc iB y;obtain⟨R9,M4,rx⟩:=y2 g3.HF p3.fr x3.sub;have R_:xs.drop i=t::xs.drop (i+1):=by
   obtain⟨hh,e⟩:=c_.mp ht;rw[zk hh,e]
  rw[R_]at hr;obtain⟨b1,q1,hr⟩:=aa hr;obtain⟨⟨c,s5⟩,q2,hr⟩:=aa hr;have x4:=x3.grow M4;have p4:=p3.trans (x3.kr M4);obtain⟨hl4,f4⟩:=M4.rest D _ hl f3;have eb:=x4.lc.block k js;rw[<- hb]at eb;refine E8.ok g3.al R9 H3 _ _ t v b1 _ x4.sub (rx.mv p3.pre (aO.refl _)) (aj q1) eb.len λσ5 FN=>⟨v9 hS FN,?_⟩;have xb:SR B (g3.grow R9).ah H3 σ5 ⟨b1,m3⟩:=⟨x4.st.ah,eb.sets rfl FN⟩;refine⟨(g3.grow R9).ah,⟨b1,m3⟩,c,s5,xb,q2,λg6 H6 p6 x6=>?_⟩;cases c with
  |true=>
   obtain⟨⟨y',s7⟩,q3,hr⟩:=aa hr;obtain⟨⟨č,m8⟩,q4,hr⟩:=aa hr;cases hr;refine qX ⟨g6,s5,y',s7,x6,q3,λv7 g7 H7 p7 x7 r7=>?_⟩;obtain⟨pB,xB⟩:=x4.back (p6.trans p7) x7.st;have p8:=p4.trans pB;obtain⟨U8,f7,o7⟩:=(x3.kr M4 |>.trans pB).rest D _ hl f3 o3;have Ď:zs.length<sizeLine:=by rw[<- rd.len,sizeLine_eq];omega
   refine⟨U8,Ď,xs.length-(i+1),by omega,rfl,iB,G.back (g3.grow R9) g7,s7.m,done++[y'],č,p8.ua hD,xB.ua f7 o7 ⟨_,U8⟩,f7,o7,ai,?_,by simp;omega,q4,by simp⟩
   have st:=(x3.kr M4).trans pB;exact(rd.mv st.pre st.fr).app (.one r7)
  |false=>
   obtain⟨pB,xB⟩:=x4.back p6 x6.st;obtain⟨U8,f7,o7⟩:=(x3.kr M4 |>.trans pB).rest D _ hl f3 o3;have st:=(x3.kr M4).trans pB;exact qW ⟨xs.length-(i+1),by omega,rfl,iB,G.back (g3.grow R9) g6,s5.m,done,rest,p4.trans pB,xB,f7,o7,U8,rd.mv st.pre st.fr,by omega,hr,rfl⟩
 ·have e:i=xs.length:=by omega
  subst e;rw[Ba]at hr;cases hr;rw[dc]at kk;exact .inl ⟨wk.stop _ H2 (p3.fr.trans x3.sub) rfl,kk D zs g3 H2 (Za.trans p3) x3 Č f3 o3 hl rd⟩
def M5(ls:BM)(hc:X.calm=true)(Sc:f_ X scope)(F:fM X scope js fs)(hi:PI X tg iter (tI B pK))(hg:∀cl C fp s H,PG (X.block (ls++fs) scope cl C fp s H) tg gt)(E8:rB B gt fg S')
  (ht:∀cl C fp s H,E5 (X.block (ls++fs) scope cl C fp s H) ifs (tT B ft)) (he:∀cl C fp s H,PE (X.block (ls++fs) scope cl C fp s H) elt (tE B fe))
  (hS:∀i∈S',i<ls.length) (hs:∀x,foldedSetIterable iter X.env x=pure x):PE X (.ListComp elt [⟨tg,iter,ifs,0⟩] scope pos) (tO B (cC pK ls.length js fg ft fe)):=
 aP (Gs ls hc Sc F hi hg ht he hs) (v_ E8 hS)
end
def Dc(B:KT)(g:G)(H:Hp)(D:Ends):Out->S->Prop
 |.nx,s'=>∀σ' g' H',ez g H g' H'->SR B g' H' σ' s'->D.nx σ' H'
 |.rt t,s'=>∀v g' H',ez g H g' H'->fT B g' H' s'.m->Rep B g'.al g'.HF t v->D.rt v H'
 |.bk,s'=>∀σ' g' H',ez g H g' H'->SR B g' H' σ' s'->D.bk σ' H'
 |.ct,s'=>∀σ' g' H',ez g H g' H'->SR B g' H' σ' s'->D.ct σ' H'
def tS(B:KT)(f:FS):TS:=λD σ H=>∃g s o s',SR B g H σ s/\f s=.ok (o,s')/\Dc B g H D o s'
section
variable{bU zX:Pos}{ft:FT}{H1:Hp}{g1:G}{F Gf:FS}{st:Stmt}{rest M6:Fs}{i:Nat}
def Dc.mv{D:Ends}{o:Out}(k:Dc B g H D o s')(p:ez g H g1 H1):Dc B g1 H1 D o s':=by
 cases o with
 |nx=>exact λσ' g' H' q x=>k σ' g' H' (p.trans q) x
 |rt t=>exact λv g' H' q x r=>k v g' H' (p.trans q) x r
 |bk=>exact λσ' g' H' q x=>k σ' g' H' (p.trans q) x
 |ct=>exact λσ' g' H' q x=>k σ' g' H' (p.trans q) x
def Sa:jx X M6 (tS B cW):=λ_ _ _ _ _ _ ⟨_,_,_,_,_,h,_⟩=>by cases h
def cO:PS X st (tS B cW):=λ_ _ _ _ _ _ ⟨_,_,_,_,_,h,_⟩=>by cases h
def Sb:jx X [] (tS B aC):=Cw xw λD σ H z=>by
 obtain⟨g,s,o,s',x,h,k⟩:=z;cases h;exact k σ g H .refl x
def M7(h1:PS X st (tS B F))(h2:jx X rest (tS B Gf)):jx X (st::rest) (tS B (af F Gf)):=Cw (sO h1 h2) λD σ H z=>by
 obtain⟨g,s,o,s',x,h,k⟩:=z;obtain⟨⟨o1,s1⟩,e1,h⟩:=aa h;refine⟨g,s,o1,s1,x,e1,?_⟩;cases o1 with
 |nx=>exact λσ1 g1 H1 p1 x1=>⟨g1,s1,o,s',x1,h,k.mv p1⟩
 |rt t=>cases h;exact k
 |bk=>cases h;exact k
 |ct=>cases h;exact k
def Sd(h:PS X st (tS B F)):jx X [st] (tS B F):=xx h
def M8:PS X (.Pass pos) (tS B aC):=c9 FA λD σ H z=>by
 obtain⟨g,s,o,s',x,h,k⟩:=z;cases h;exact k σ g H .refl x
def G9:PS X (.Break pos) (tS B Ri):=c9 BL λD σ H z=>by
 obtain⟨g,s,o,s',x,h,k⟩:=z;cases h;exact k σ g H .refl x
def M9:PS X (.Continue pos) (tS B Rj):=c9 sP λD σ H z=>by
 obtain⟨g,s,o,s',x,h,k⟩:=z;cases h;exact k σ g H .refl x
def KO(hN:X.N.Nodup)(hi:X.N[i]?=some x)(hx:Loc X.env.scope x)(he:PE X e (tE B fa))(hs:swapsWith e (some (.Name x bU)) pos.line X.env=pure false)(hf:X.fn x=true\/X.env.scope.names.lookup x=some .local) :
  PS X (.Assign [.Name x bU] e pos) (tS B (aI i fa)):=c9 (vC hN hi hx he hs hf) λD σ H z=>by
 obtain⟨g,s,o,s',x,h,k⟩:=z;obtain⟨⟨t,s1⟩,e1,h⟩:=aa h;cases h;exact⟨g,s,t,s1,x,e1,λv g1 H1 p1 x1 r1=>k _ g1 H1 p1 (x1.set r1)⟩
def xT{D:Ends}{ts:FV}{s1:S}(k:Dc B g H D .nx (jR s1 i (.ol ts))){l:Addr}{vs:List V}(p1:ez g H g1 H1)(x1:SR B g1 H1 σ s1)(h0:H l=none)(n1:g1.HF l=none)(n2:g1.o l=none)(hl:H1 l=some (.lst vs))(r:aB B g1.al g1.HF ts vs):D.nx (σ.set i (some (.ref l))) H1:=by
 refine k _ (g1.own l (.loc i)) H1 ⟨p1.fr,p1.pre,λb u h n z=>?_,p1.there⟩ (x1.own n2 n1 hl r);obtain⟨a,b',c⟩:=p1.rest b u h n z
 have:b≠l:=aL h h0
 exact⟨a,b',by show(if b=l then some (iQ.loc i)else g1.o b)=none;rw[if_neg this];exact c⟩
def KP(hN:X.N.Nodup)(hi:X.N[i]?=some x)(hx:Loc X.env.scope x)(he:PE X e (tO B fl))(hs:swapsWith e (some (.Name x bU)) pos.line X.env=pure false)(hf:X.fn x=true\/X.env.scope.names.lookup x=some .local) :
  PS X (.Assign [.Name x bU] e pos) (tS B (gX i fl)):=c9 (vC hN hi hx he hs hf) λD σ H z=>by
 obtain⟨g,s,o,s',x,h,k⟩:=z;obtain⟨⟨ts,s1⟩,e1,h⟩:=aa h;cases h;exact⟨g,s,ts,s1,x,e1,λl vs g1 H1 p1 x1 h0 n1 n2 hl r=>xT k p1 x1 h0 n1 n2 hl r⟩
section
variable{scope:Scope}{ls fs:BM}{js S':Bi}{iter elt:Expr}{ifs:D1}{gt:TG}{pK:FL}{fg:FG}{fe:FE}
def M_(ls:BM)(hc:X.calm=true)(hN:X.N.Nodup)(hi:X.N[i]?=some x)(hx:Loc X.env.scope x)(Sc:f_ X scope)(Fr:fM X scope js fs)(hit:PI X tg iter (tI B pK))(hg:∀cl C fp s H,PG (X.block (ls++fs) scope cl C fp s H) tg gt)(E8:rB B gt fg S')
  (ht:∀cl C fp s H,E5 (X.block (ls++fs) scope cl C fp s H) ifs (tT B ft)) (he:∀cl C fp s H,PE (X.block (ls++fs) scope cl C fp s H) elt (tE B fe))
  (hS:∀i∈S',i<ls.length) (hs:∀x,foldedSetIterable iter X.env x=pure x) (hf:X.fn x=true\/X.env.scope.names.lookup x=some .local)
  (UW:swapsWith (.ListComp elt [⟨tg,iter,ifs,0⟩] scope bP) (some (.Name x bU)) pos.line X.env=pure true) :
  PS X (.Assign [.Name x bU] (.ListComp elt [⟨tg,iter,ifs,0⟩] scope bP) pos) (tS B (gX i (cC pK ls.length js fg ft fe))) /\
  PS X (.Assign [.Name x bU] (.ListComp elt [⟨tg,iter,ifs,0⟩] scope bP) pos) (tS B (aI i (fq (cC pK ls.length js fg ft fe)))):=by
 constructor
 ·refine c9 (xG ls hc hN hi hx Sc Fr hit hg ht he hs hf UW) λD σ H zz=>?_
  obtain⟨g,s,o,s',x,h,k⟩:=zz;obtain⟨⟨ts,s1⟩,e1,h⟩:=aa h;cases h;exact v_ E8 hS σ H _ ⟨g,s,ts,s1,x,e1,λl vs g1 H1 p1 x1 h0 n1 n2 hl r=>xT k p1 x1 h0 n1 n2 hl r⟩
 ·refine c9 (xG ls hc hN hi hx Sc Fr hit hg ht he hs hf UW) λD σ H zz=>?_
  obtain⟨g,s,o,s',x,h,k⟩:=zz;obtain⟨⟨t,s2⟩,e0,h⟩:=aa h;obtain⟨⟨ts,s1⟩,e1,e0⟩:=aa e0;cases e0;cases h;exact v_ E8 hS σ H _ ⟨g,s,ts,s1,x,e1,λl vs g1 H1 p1 x1 h0 n1 n2 hl r=>k _ (g1.grow (upd g1.HF l (.lst vs))) H1 (p1.Cy h0 n1) ((x1.Cy n1 n2 hl).set (t:=.lst ts) ⟨l,vs,rfl,ai,r.same (aX n1)⟩)⟩
end
def KQ(he:PE X e (tE B fa)):PS X (.Return (some e) pos) (tS B (aA fa)):=c9 (LG he) λD σ H z=>by
 obtain⟨g,s,o,s',x,h,k⟩:=z;obtain⟨⟨t,s1⟩,e1,h⟩:=aa h;cases h;exact⟨g,s,t,s1,x,e1,λv g1 H1 p1 x1 r1=>k v g1 H1 p1 x1.st r1⟩
def Na:PS X (.Return none pos) (tS B (aA (cF .non))):=c9 FF λD σ H z=>by
 obtain⟨g,s,o,s',x,h,k⟩:=z;cases h;exact k _ g H .refl x.st rfl
def Nb(he:PE X e (tE B fa))(hs:swapsWith e none pos.line X.env=pure false):PS X (.Expr e pos) (tS B (aK fa)):=c9 (qJ he hs) λD σ H z=>by
 obtain⟨g,s,o,s',x,h,k⟩:=z;obtain⟨⟨t,s1⟩,e1,h⟩:=aa h;cases h;exact⟨g,s,t,s1,x,e1,λv g1 H1 p1 x1 r1=>k σ g1 H1 p1 x1⟩
def W7{A A':Fs}(hc:PT X c (tT B ft))(ha:jx X A (tS B F))(hb:jx X A' (tS B Gf)):PS X (.If c A A' pos) (tS B (aR ft F Gf)):=c9 (PY hc ha hb) λD σ H z=>by
 obtain⟨g,s,o,s',x,h,k⟩:=z;obtain⟨⟨d,s1⟩,e1,h⟩:=aa h;refine⟨g,s,d,s1,x,e1,λg1 H1 p1 x1=>?_⟩;cases d with
 |true=>exact qX ⟨g1,s1,o,s',x1,h,k.mv p1⟩
 |false=>exact qW ⟨g1,s1,o,s',x1,h,k.mv p1⟩
def g_{r:FK}{ts:FV}(h:pj r[i]?=some ts):r[i]?=some (some (.ol ts)):=by
 unfold pj at h;split at h
 ·rename_i h2;cases h;exact h2
 ·cases h
def SR.wa(x:SR B g H σ s){ts:FV}(h:s.r[i]?=some (some (.ol ts))):∃l vs,σ[i]?=some (some (.ref l))/\g.o l=some (.loc i)/\H l=some (.lst vs)/\aB B g.al g.HF ts vs:=by
 obtain⟨v,h1,l,vs,rfl,h2,h3,h4⟩:=x.lc.at_ i _ h;exact⟨l,vs,h1,h2,h3,h4⟩
def Se{py:Pos}(he:PE X e (tE B fa))(hN:X.N[i]?=some y)(hv:xo X.env.scope y)(hd:df y)(pO:kB y)(hs:noStar e=true)(gD:(bF.endLine == bP.line)=true) :
  PS X (.Expr (.Call (.Attribute (.Name y py) "append" bF) [e] [] bP) pos) (tS B (iO i fa)):=by
 refine c9 (qJ (xE PySem.F.plainAttrs_list PySem.F.slot_list_append PySem.F.type_list_append kF (gj hN hv hd pO) (aV he cu (ao hs)) (fJ rfl) (o_ (by rw[eU,hs];rfl) (by decide)) gD (ao hs) rfl) rfl) λD σ H zz=>?_
 obtain⟨g,s,o,s',x,h,k⟩:=zz;obtain⟨us,e0,h⟩:=aa h;obtain⟨⟨t,s1⟩,e1,h⟩:=aa h;obtain⟨ts,e2,h⟩:=aa h;obtain⟨oH,e3,h⟩:=aa h;obtain⟨z,rfl⟩:=aZ (aj e3);cases h;obtain⟨l0,Ā,q1,q2,q3,q4⟩:=x.wa (g_ (aj e0));refine⟨_,q1,.inl ⟨rfl,_,cJ.of q3⟩,g,s,t,s1,x,e1,λv g1 H1 p1 x1 r1=>?_⟩;have ho:=g_ (aj e2);obtain⟨l,vs,w1,w2,w3,w4⟩:=x1.wa ho;rw[q1]at w1;cases w1;obtain⟨x2,p2⟩:=x1.chg ho q1 (w4.app (.one r1));exact⟨l0,vs,v,rfl,rfl,w3,by rw[<- w4.len,sizeLine_eq];omega,k σ g1 _ (p1.trans p2) x2⟩
def Sf{iter:Expr}{body:Fs}{gt:TG}{fg:FG}{S':Bi}(hc:X.calm=true)(hi:PI X tg iter (tI B fl))(hg:PG X tg gt)(E8:rB B gt fg S')(hb:jx X body (tS B F))(hp:PassesOwn (model X.prog X.w) X.A X.env X.xe)
  (hs:∀x,foldedSetIterable iter X.env x=pure x):PS X (.For tg iter body [] pos) (tS B (f6 fl fg F)):=by
 refine c9 (LU hp hc hi hg hb hs) λD σ H zz=>?_;obtain⟨g,s,o,s',x,h,k⟩:=zz;obtain⟨⟨xs,s1⟩,e1,h⟩:=aa h;refine⟨g,s,xs,s1,x,e1,λJ g1 H1 p1 x1 wk=>?_⟩;refine⟨λi m σ2 H2=>m=xs.length-i/\i<=xs.length/\∃g2 s2,ez g1 H1 g2 H2/\SR B g2 H2 σ2 s2/\bZ fg F (xs.drop i) s2=.ok (o,s'),
  ⟨xs.length,by simp,jb _,g1,s1,.refl,x1,by rw[w_];exact h⟩,?_⟩
 rintro i m σ2 H2 ⟨rfl,Q4,g2,s2,p2,x2,iS⟩
 have W8:=p2.fr.trans x2.sub;by_cases iB:i<xs.length
 ·have hx:xs[i]?=some xs[i]:=fj iB
  rw[zk iB]at iS;obtain⟨r3,q1,iS⟩:=aa iS;obtain⟨⟨o3,s4⟩,q2,iS⟩:=aa iS;refine .inr ⟨wk.go i H2 W8 iB,λσ' H'=>∃g' s5,ez g1 H1 g' H'/\SR B g' H' σ' s5/\bZ fg F (xs.drop (i+1)) s5=.ok (o,s'),
   λσ' H' ⟨g',s5,a,b,c⟩=>⟨xs.length-(i+1),by omega,rfl,iB,g',s5,a,b,c⟩,λv H3 y=>?_⟩
  obtain⟨t,ht,y2⟩:=wk.yld i H2 v H3 W8 iB y;rw[hx]at ht;cases ht;obtain⟨MZ,Zd,rx⟩:=y2 g2.HF p2.fr x2.sub;have x3:=x2.grow Zd;have p3:=p2.trans (x2.kr Zd);refine E8.ok g2.al MZ H3 σ2 s2.r _ v r3 _ x3.sub (rx.mv p2.pre (aO.refl _)) (aj q1) x3.lc.len λσ4 st=>⟨g2.grow MZ,⟨r3,s2.m⟩,o3,s4,⟨x3.st,x3.lc.sets rfl st⟩,q2,?_⟩;cases o3 with
  |nx=>exact λσ5 g5 H5 p5 x5=>⟨g5,s4,p3.trans p5,x5,iS⟩
  |ct=>exact λσ5 g5 H5 p5 x5=>⟨g5,s4,p3.trans p5,x5,iS⟩
  |bk=>
   cases iS;exact λσ5 g5 H5 p5 x5=>k σ5 g5 H5 ((p1.trans p3).trans p5) x5
  |rt t=>
   cases iS;exact λv g5 H5 p5 x5 r=>k v g5 H5 ((p1.trans p3).trans p5) x5 r
 ·have e:i=xs.length:=by omega
  subst e;rw[Ba]at iS;cases iS;exact .inl ⟨wk.stop _ H2 W8 rfl,k σ2 g2 H2 (p1.trans p2) x2⟩
def G_{body:Fs}(n:Nat)(hc:PT X c (tT B ft))(hb:jx X body (tS B F))(hp:PassesOwn (model X.prog X.w) X.A X.env X.xe):PS X (.While c body [] pos) (tS B (gY n ft F)):=by
 refine c9 (BP hp hc hb) λD σ H zz=>?_;obtain⟨g,s,o,s',x,h,k⟩:=zz;refine⟨λm σ2 H2=>∃g2 s2,ez g H g2 H2/\SR B g2 H2 σ2 s2/\dN ft F m s2=.ok (o,s'),⟨n,g,s,.refl,x,h⟩,?_⟩
 rintro m σ2 H2 ⟨g2,s2,p2,x2,iS⟩
 cases m with
 |zero=>cases iS
 |succ m=>
  obtain⟨⟨d,s3⟩,q1,iS⟩:=aa iS;refine⟨g2,s2,d,s3,x2,q1,λg3 H3 p3 x3=>?_⟩;cases d with
  |false=>
   cases iS;exact qW (k σ2 g3 H3 (p2.trans p3) x3)
  |true=>
   obtain⟨⟨o4,s4⟩,q2,iS⟩:=aa iS;refine qX ⟨λσ' H'=>∃g' s5,ez g H g' H'/\SR B g' H' σ' s5/\dN ft F m s5=.ok (o,s'),λσ' H' ⟨g',s5,a,b,c⟩=>⟨m,vj m,g',s5,a,b,c⟩,?_⟩;refine⟨g3,s3,o4,s4,x3,q2,?_⟩;have U9:=p2.trans p3;cases o4 with
   |nx=>exact λσ5 g5 H5 p5 x5=>⟨g5,s4,U9.trans p5,x5,iS⟩
   |ct=>exact λσ5 g5 H5 p5 x5=>⟨g5,s4,U9.trans p5,x5,iS⟩
   |bk=>
    cases iS;exact λσ5 g5 H5 p5 x5=>k σ5 g5 H5 (U9.trans p5) x5
   |rt t=>
    cases iS;exact λv g5 H5 p5 x5 r=>k v g5 H5 (U9.trans p5) x5 r
end
section
def Ad{N:BM}{vs:List V}{ts:FV}(r:aB B g.al g.HF ts vs):nk B g H (L2.start N vs) (ts.map (λt=>some (C.val t))++bX (N.length-ts.length) none):=by
 refine⟨by unfold L2.start;simp[r.len],λi c h=>?_⟩
 by_cases hi:i<ts.length
 ·rw[gi (by simpa using hi),fZ,fj hi]at h
  cases h;obtain⟨v,h1,h2⟩:=r.get (fj hi);refine⟨v,?_,h2⟩;unfold L2.start;rw[gi (by rw[b_,<- r.len];exact hi),fZ,h1];rfl
 ·rw[e_ (by simpa using hi),A8]at h
  split at h<;>cases h
def xU{np n:Nat}{F:FS}{ts:FV}{m m':He}{t:T}(h:aG np n F ts m=.ok (t,m')):ts.length=np/\∃o s',F ⟨ts.map (λt=>some (.val t))++bX (n-ts.length) none,m⟩=.ok (o,s')/\s'.m=m'/\(o=.rt t\/(o=.nx/\t=.non)):=by
 unfold aG at h;split at h
 ·rename_i hl
  obtain⟨⟨o,s'⟩,h1,h⟩:=aa h;refine⟨hl,o,s',h1,?_⟩;cases o with
  |rt u=>cases h;exact⟨rfl,.inl rfl⟩
  |nx=>cases h;exact⟨rfl,.inr ⟨rfl,rfl⟩⟩
  |bk=>cases h
  |ct=>cases h
 ·cases h
variable{P:Program}{w:World}{K:bD}{mg:Str->Dx}{base:Heap}
structure wb(K:bD)(x qual:Str)(st:Stmt)(f:Addr)(fd:FuncData):Prop where
 ex:∃(oc:Value)(od:Option Addr)(dV kV doc pm:Value)(an:Option Addr)(jP ct:Value)(E3:Array Dx),
  fd=zb x qual (j0 st) (cK st) (aH st) dV kV doc pm an jP ct/\K.lookup f=some ⟨oc,od,.func fd,E3⟩/\A1 K jP qual=true
 kp:sD K (.ref f)=true
def wb.ok{x qual:Str}{st:Stmt}{f:Addr}{fd:FuncData}{N ps:BM}{k:Nat}{sp:Sp}(F:wb K x qual st f fd)(Sc:gT N ps (aH st))(len:∀vs H Q E,sp vs H Q E->vs.length=ps.length)
  (B3:∀(jP:Value)(A:Around)(outer:List Env)(s:Shared)(H:Hp)(vs:List V)(Q:VK)(E:XK),bM k (A.deeper (J5 qual (aH st) s.heap.objs.size f jP))->sp vs H Q E ->
   ∃t,jx (oW lR P w K mg base N qual (aH st) f jP A outer s H E).J9 (cK st) t/\t {nx:=λ_ H'=>Q .non H',rt:=Q} (L2.start N vs) H):dF P w K mg base lR (k+1) f fd ps sp:=by
 obtain⟨oc,od,dV,kV,doc,pm,an,jP,ct,E3,rfl,lk,pO⟩:=F.ex;refine Qs lk pO Sc len λA outer s H vs Q E hr O8=>?_;obtain⟨t,h,q⟩:=B3 jP A outer s H vs Q E hr O8;exact⟨t,h.J9,q⟩
def Nc{x qual:Str}{st:Stmt}{f:Addr}{fd:FuncData}{N ps:BM}{k:Nat}{F:FS}(Fn:wb K x qual st f fd)(Sc:gT N ps (aH st))
  (body:∀(jP:Value)(A:Around)(outer:List Env)(s:Shared)(H:Hp)(E:XK),bM k (A.deeper (J5 qual (aH st) s.heap.objs.size f jP))->jx (oW lR P w K mg base N qual (aH st) f jP A outer s H E).J9 (cK st) (tS B F)) :
  dF P w K mg base lR (k+1) f fd ps (qi B (aG ps.length N.length F)):=by
 refine Fn.ok Sc (λvs H Q E h=>?_) (λjP A outer s H vs Q E hr h=>?_)
 ·obtain⟨g,ts,m,t,m',x,r,h,_⟩:=h
  rw[<- r.len,(xU h).1]
 ·obtain⟨g,ts,m,t,m',x,r,h,q⟩:=h
  obtain⟨_,o,s',h1,rfl,ho⟩:=xU h;refine⟨_,body jP A outer s H E hr,g,_,o,s',⟨x,Ad r⟩,h1,?_⟩;rcases ho with rfl|⟨rfl,rfl⟩
  ·exact λv g' H' p y rv=>q v g' H' p y rv
  ·exact λσ' g' H' p y=>q _ g' H' p y.st rfl
def Ha{f:Addr}{fd:FuncData}{ps:BM}{k:Nat}{fn:Fn}(F:dF P w K mg base lR k f fd ps (qi B fn)):dF P w K mg base lR k f fd ps (qi B (aU fn)):=F.imp λvs H Q E h=>by
 obtain⟨g,ts,m,t,m',x,r,h,q⟩:=h;unfold aU at h;split at h
 case isFalse=>cases h
 rename_i hn;cases e:fn ts []with
 |bad=>rw[e]at h;cases h
 |exc c fs s=>rw[e]at h;dsimp only at h;split at h<;>cases h
 |ok z=>
  rw[e]at h;dsimp only at h;split at h
  case isFalse=>cases h
  rename_i UM;cases h;refine⟨⟨g.HF,λ_=>none,[]⟩,ts,[],z.1,z.2,⟨x.sub,λb p e=>(by cases e),rfl,λk ob e=>(by simp at e)⟩,aB.no hn r,e,λv g0 H' p y rv=>?_⟩
  have keep:∀b p,g.o b=some p->H' b=H b/\g0.HF b=none:=λb q hb=>by
   obtain⟨h1,u,h2⟩:=x.live b q hb;obtain⟨h3,h4,_⟩:=p.rest b u h2 h1 rfl;exact⟨h3.trans h2.symm,h4⟩
  refine q v ⟨g0.HF,g.o,g.al⟩ H' ⟨p.fr,d_,λb u h n z=>?_,p.there⟩ (x.mv y.sub (λb p e=>?_) p.fr rfl λl p h _=>⟨h,(keep l p h).1⟩) (Rep.no UM rv)
  ·obtain⟨h3,h4,_⟩:=p.rest b u h n rfl
   exact⟨h3,h4,z⟩
  ·obtain⟨h1,u,h2⟩:=x.live b p e
   obtain⟨h3,h4⟩:=keep b p e;exact⟨h4,u,h3.trans h2⟩
end
section
variable{bU:Pos}
def SR.KR{k:Nat}{ob nJ:Ob}{a C dx:Addr}{ns:BM}{vs ik:List V}(x:SR B g H σ s)(Z:AL B g H k ob a C dx ns vs)(hk:s.m[k]?=some ob)(hc:nJ.c=ob.c)(hle:ik.length<=ns.length)(ď:ik.length=nJ.fs.length)
  (hf:∀j c,nJ.fs[j]?=some c->∃v,ik[j]?=some v/\aY B g H (.fld k j) c v) :
  ez g H g (upd H a (.ins C dx (ns.zip ik)))/\SR B g (upd H a (.ins C dx (ns.zip ik))) σ {s with m:=s.m.set k nJ}:=by
 have ne:∀l q,g.o l=some q->q≠.ob k->upd H a (.ins C dx (ns.zip ik)) l=H l:=λl q hl hq=>aq λz=>hq (by rw[z,Z.o]at hl;cases hl;rfl)
 have sl:∀{q:iQ}{c:_root_.D.C}{v:V},q≠.ob k->aY B g H q c v->aY B g (upd H a (.ins C dx (ns.zip ik))) q c v:=λhq h=>aY.mv (g:=g) (g':=g) (aO.refl _) d_ (λl hl=>⟨hl,ne l _ hl hq⟩) h;refine⟨rh Z.o,⟨⟨λb w e=>?_,λb q e=>?_,by rw[fh];exact x.st.len,λk' pC e=>?_⟩,x.lc.len,λi c e=>?_⟩⟩
 ·have:b≠a:=λz=>by rw[z,(x.st.live a _ Z.o).1]at e;cases e
  rw[aq this];exact x.sub _ _ e
 ·obtain⟨h1,w,h2⟩:=x.st.live b q e
  by_cases hb:b=a
  ·exact⟨h1,_,by rw[hb,ai]⟩
  ·exact⟨h1,w,by rw[aq hb];exact h2⟩
 ·by_cases ku:k=k'
  ·subst ku
   have iB:k<s.m.length:=(c_.mp hk).1;have e:(s.m.set k nJ)[k]?=some pC:=e;rw[cj iB]at e;cases e;exact .inl ⟨a,C,dx,ns,ik,Z.al,Z.o,by rw[hc];exact Z.cl,ai,hle,ď,λj c h=>let⟨v,h1,h2⟩:=hf j c h;⟨v,h1,sl (λz=>by cases z) h2⟩⟩
  ·have e:(s.m.set k nJ)[k']?=some pC:=e
   rw[cT ku]at e;refine(x.st.at_ k' pC e).mv (aO.refl _) d_ λl q h hq=>⟨h,ne l q h ?_⟩;rcases hq with rfl|⟨j,rfl⟩
   ·exact λz=>ku (by cases z;rfl)
   ·exact λz=>by cases z
 ·obtain⟨v,h1,h2⟩:=x.lc.at_ i c e
  exact⟨v,h1,sl (λz=>by cases z) h2⟩
def Ae{fs pK:List C}{j:Nat}{c:C}(h:setAt fs j c=some pK):(j<fs.length/\pK=fs.set j c)\/(j=fs.length/\pK=fs++[c]):=by
 unfold setAt at h;split at h
 ·rename_i q;cases h;exact .inl ⟨q,rfl⟩
 ·split at h
  ·rename_i q;cases h;exact .inr ⟨q,rfl⟩
  ·cases h
def xV(O:nF X.K X.mg P){f:Nat}{n:Str}{k:Nat}{ob nJ:Ob}{c':_root_.D.C}{a C dx:Addr}{ns:BM}{vs:List V}{v:V}(hf:P.an[f]?=some n)(x:SR (P.kt X) g H σ s)(Z:AL (P.kt X) g H k ob a C dx ns vs)(hk:s.m[k]?=some ob)(h:cX P.tab f c' ob=some nJ)
  (hv:∀j,aY (P.kt X) g H (.fld k j) c' v):pQ X.K C/\eG X.K C n/\(ns.zip vs).length<1000 /\
  ∃ik,L2.cU n v (ns.zip vs)=ns.zip ik/\ez g H g (upd H a (.ins C dx (ns.zip ik)))/\SR (P.kt X) g (upd H a (.ins C dx (ns.zip ik))) σ {s with m:=s.m.set k nJ}:=by
 obtain⟨j,h1,h2⟩:=dM.mp h;obtain⟨pK,h3,rfl⟩:=cz.mp h2;obtain⟨m,hm,u_,F⟩:=O.of Z.cl;have hj:=ml hf u_ h1;have Đ:j<ns.length:=(c_.mp hj).1;refine⟨F.cl,F.na _ (jT hj),by rw[oO];have:=F.o_;omega,?_⟩
 rcases Ae h3 with⟨iB,rfl⟩|⟨rfl,rfl⟩
 ·refine⟨vs.set j v,xR F.nd hj Z.le (by rw[Z.ln];exact iB),?_⟩
  refine x.KR Z hk rfl (by rw[fh];exact Z.le) (by rw[fh,fh];exact Z.ln) λi c e=>?_
  by_cases hi:j=i
  ·subst hi
   rw[cj iB]at e;cases e;exact⟨v,by rw[cj (by rw[Z.ln];exact iB)],hv j⟩
  ·rw[cT hi]at e
   obtain⟨w,h4,h5⟩:=Z.f i c e;exact⟨w,by rw[cT hi];exact h4,h5⟩
 ·refine⟨vs++[v],rA F.nd (by rw[Z.ln];exact hj),?_⟩
  refine x.KR Z hk rfl (by rw[dg,Z.ln];exact Đ) (by rw[dg,dg,Z.ln];rfl) λi c e=>?_
  by_cases hi:i<ob.fs.length
  ·rw[gi hi]at e
   obtain⟨w,h4,h5⟩:=Z.f i c e;exact⟨w,by rw[gi (by rw[Z.ln];exact hi)];exact h4,h5⟩
  ·rw[e_ (by omega)]at e
   have hz:i-ob.fs.length=0:=by
    have:=(c_.mp e).1
    simp at this;omega
   rw[hz]at e;cases e;exact⟨v,by rw[e_ (by rw[Z.ln];omega),Z.ln,hz];rfl,hv i⟩
def Sg(O:nF X.K X.mg P){f:Nat}{n:Str}(hf:P.an[f]?=some n)(ho:PE X o (tE (P.kt X) fo))(he:PE X e (tE (P.kt X) fa))(hs:swapsWith e (some (.Attribute o n bU)) pos.line X.env=pure false) :
  PS X (.Assign [.Attribute o n bU] e pos) (tS (P.kt X) (aJ P.tab f fo fa)):=c9 (vK ho he hs) λD σ H z=>by
 obtain⟨g,s,oo,s',x,h,k⟩:=z;obtain⟨⟨t,s1⟩,h1,h⟩:=aa h;obtain⟨⟨tx,s2⟩,h2,h⟩:=aa h;cases tx<;>first|(cases h;done)|skip
 rename_i kk;obtain⟨nJ,h3,h⟩:=aa h;cases h;obtain⟨ob,h4,h5⟩:=dM.mp (aj h3);refine⟨g,s,t,s1,x,h1,λv g1 H1 p1 x1 r1=>⟨g1,s1,_,s2,x1,h2,λw g2 H2 p2 x2 r2=>?_⟩⟩;obtain⟨a,rfl,ha⟩:=r2;rcases x2.st.at_ kk ob h4 with⟨a',C,dx,ns,vs,Z⟩|⟨a',Z⟩
 case inr=>
  obtain⟨j,q,_⟩:=dM.mp h5;obtain⟨l,q,_⟩:=dM.mp q;have z:(P.tab.map _)[ob.c]?=none:=Z.nf;rw[fZ,q]at z;cases z
 have:=Z.al.symm.trans ha
 cases this;obtain⟨cl,na,hl,ik,e1,p3,x3⟩:=xV O hf x2 Z h4 h5 (v:=v) λj=>r1.mv p2.pre p2.fr;refine⟨a,C,dx,_,rfl,Z.h,cl,na,hl,?_⟩;rw[e1];exact k σ g2 _ ((p1.trans p2).trans p3) x3
end
end D
namespace L2
open PySem PySem.Spec PyProof.Rows
section
variable{X:Cx}
end
end L2
namespace D
open PySem L2
variable{X:Cx}{env:Env}{a b c e o tg:Expr}{fa fb fc fo:FE}{fl:FL}{g g':G}{H H':Hp}{B:KT}{es:D1}{i k n:Nat}{P:Pg}{bF bP p pos bU:Pos}{s s':S}{σ:St}{x y:Str}
section
def G.dQ(g:G)(a:Addr):G:={g with o:=λb=>if b=a then some (.ob g.al.length)else g.o b,al:=g.al++[a]}
theorem SR.dQ{c:Nat}{C q dx:Addr}{ns:BM}(x:SR B g H σ s)(hC:iP B c C ns)(nx:H q=none)(nd:H dx=none)(kG:dx≠q) :
  ez g H (g.dQ q) (upd (upd H dx (.own q)) q (.ins C dx []))/\SR B (g.dQ q) (upd (upd H dx (.own q)) q (.ins C dx [])) σ {s with m:=s.m++[⟨c,[]⟩]}:=by
 have nf:g.HF q=none:=x.sub.free nx;have đ:g.HF dx=none:=x.sub.free nd;have no:∀l p',g.o l=some p'->l≠q/\l≠dx:=λl p' h=>by
  obtain⟨_,u,z⟩:=x.st.live l p' h;exact⟨aL z nx,aL z nd⟩
 have Dd:∀l,l≠q->l≠dx->upd (upd H dx (.own q)) q (.ins C dx []) l=H l:=λl h1 h2=>by rw[aq h1,aq h2]
 have ho:∀l p',g.o l=some p'->(g.dQ q).o l=some p':=λl p' h=>by
  show(if l=q then some (iQ.ob g.al.length)else g.o l)=_
  rw[if_neg (no l p' h).1];exact h
 have pre:g.al <+: (g.dQ q).al:=xg _ _;refine⟨⟨aO.refl _,pre,λb u h n z=>?_,λb h=>?_⟩,⟨⟨λb u e=>?_,λb p' e=>?_,?_,λk ob e=>?_⟩,x.lc.len,λi c' e=>?_⟩⟩
 ·have h1:=aL h nx
  have h2:=aL h nd;refine⟨(Dd b h1 h2).trans h,n,?_⟩;show(if b=q then some (iQ.ob g.al.length)else g.o b)=none
  rw[if_neg h1];exact z
 ·by_cases h1:b=q
  ·subst h1;exact nx
  ·by_cases h2:b=dx
   ·subst h2;exact nd
   ·rw[Dd b h1 h2]at h;exact h
 ·have h1:b≠q:=λz=>by rw[z]at e;have e:g.HF q=some u:=e;rw[nf]at e;cases e
  have h2:b≠dx:=λz=>by rw[z]at e;have e:g.HF dx=some u:=e;rw[đ]at e;cases e
  rw[Dd b h1 h2];exact x.sub _ _ e
 ·have e:(if b=q then some (iQ.ob g.al.length)else g.o b)=some p':=e
  by_cases hb:b=q
  ·subst hb;exact⟨nf,_,ai⟩
  ·rw[if_neg hb]at e
   obtain⟨h1,u,h2⟩:=x.st.live b p' e;obtain⟨h3,h4⟩:=no b p' e;exact⟨h1,u,(Dd b h3 h4).trans h2⟩
 ·show(s.m++[_]).length=(g.al++[q]).length
  rw[dg,dg,x.st.len];rfl
 ·have e:(s.m++[(⟨c,[]⟩:Ob)])[k]?=some ob:=e
  by_cases hk:k<s.m.length
  ·rw[gi hk]at e
   refine(x.st.at_ k ob e).mv (aO.refl _) pre λl p' h _=>⟨ho l p' h,?_⟩;obtain⟨h3,h4⟩:=no l p' h;exact Dd l h3 h4
  ·rw[e_ (by omega)]at e
   have W9:k-s.m.length=0:=by
    have:=(c_.mp e).1
    simp at this;omega
   rw[W9]at e;cases e;have ku:k=g.al.length:=by have:=x.st.len;omega
   subst ku;refine .inl ⟨q,C,dx,ns,[],?_,?_,hC,?_,jb _,rfl,λj c h=>by simp at h⟩
   ·show(g.al++[q])[g.al.length]?=some q
    rw[e_ (bV _),lH];rfl
   ·show(if q=q then some (iQ.ob g.al.length)else g.o q)=_
    rw[if_pos rfl]
   ·rw[ai,List.zip_nil_right]
 ·obtain⟨v,h1,h2⟩:=x.lc.at_ i c' e
  refine⟨v,h1,aY.mv (g:=g) (g':=g.dQ q) (aO.refl _) pre (λl h=>⟨ho l _ h,?_⟩) h2⟩;obtain⟨h3,h4⟩:=no l _ h;exact Dd l h3 h4
structure Ze(P:Pg)(Pr:Program)(w:World)(K:bD)(mg:Str->Dx)(base:Heap)(k:Nat)(c:Nat)(x:Str)(f:Fn):Prop where
 ex:∃(C fi:Addr)(fd:FuncData)(ps:BM)(ns:BM),iP (j7 P K Pr w) c C ns/\mg x=some (.ref C)/\Mk K C fi/\dF Pr w K mg base lR k fi fd ps (qi (j7 P K Pr w) f)/\Binds K fd ps []
def Hb{c:Nat}{f:Fn}{t:T}(h:iN c f fl s=.ok (t,s')):∃ts s1 m',fl s=.ok (ts,s1)/\f (.own s1.m.length::ts) (s1.m++[⟨c,[]⟩])=.ok (.non,m')/\t=.own s1.m.length/\s'={s1 with m:=m'}:=by
 obtain⟨⟨ts,s1⟩,h1,h⟩:=aa h;dsimp only at h;cases q:f (.own s1.m.length::ts) (s1.m++[⟨c,[]⟩])with
 |ok r=>
  rw[q]at h;obtain⟨u,m'⟩:=r;cases u<;>first|(cases h;done)|skip
  cases h;exact⟨ts,s1,m',h1,q,rfl,rfl⟩
 |bad=>rw[q]at h;cases h
 |exc c fs s2=>rw[q]at h;cases h
def Hc{c:Nat}{f:Fn}{C:Addr}{ns:BM}{ts:FV}{vs:List V}{m':He}{Q:VK}(hC:iP B c C ns)(x1:SR B g H σ s)(r1:aB B g.al g.HF ts vs)(h2:f (.own s.m.length::ts) (s.m++[⟨c,[]⟩])=.ok (.non,m'))
  (k:∀v g' H',ez g H g' H'->SR B g' H' σ {s with m:=m'}->Rep B g'.al g'.HF (.own s.m.length) v->Q v H'):∀q dx,H q=none->H dx=none->dx≠q->qi B f (.ref q::(vs++[])) (upd (upd H dx (.own q)) q (.ins C dx [])) (λv H2=>v=.non/\Q (.ref q) H2) E0:=λq dx nx nd kG=>by
 obtain⟨p2,x2⟩:=x1.dQ hC nx nd kG;rw[dc];have hq:(g.dQ q).al[s.m.length]?=some q:=by
  show(g.al++[q])[s.m.length]?=some q;rw[x1.st.len,e_ (bV _),lH];rfl
 refine tX (E:=E0) (ts:=.own s.m.length::ts) x2 ⟨_,vs,rfl,⟨q,rfl,hq⟩,r1.mv p2.pre p2.fr⟩ h2 λv g' H' p3 x3 rv=>⟨rv,k _ g' H' (p2.trans p3) x3 ⟨q,rfl,bL p3.pre hq⟩⟩
def Nd{k j c:Nat}{f:Fn}(D:Ze P X.prog X.w X.K X.mg X.base k c x f)(hr:bM j X.A)(z_:k+1<=j)(ha:PA X (e::es) (tA (P.kt X) fl))(hg:Gl X x)(qQ:df x)(hs:(e::es).all noStar=true) :
  PE X (.Call (.Name x p) (e::es) [] pos) (tE (P.kt X) (iN c f fl)):=by
 obtain⟨C,fi,fd,ps,ns,hC,hm,M,F,hb⟩:=D.ex;rw[eU,dh]at hs;refine aP (qR M F (hr.mono z_) hg hm hb .nil mR ha qQ (ao hs.1) (eY hs.2)) λσ H Q zz=>?_;obtain⟨g,s,t,s',x,h,k⟩:=zz;obtain⟨ts,s1,m',h1,h2,rfl,rfl⟩:=Hb h;exact⟨g,s,ts,s1,x,h1,λvs g1 H1 p1 x1 r1=>Hc hC x1 r1 h2 λv g' H' p2 x2 rv=>k v g' H' (p1.trans p2) x2 rv⟩
def nK:Expr->Option (Expr×D1×List Keyword×Pos)
 |.Call f a k p=>some (f,a,k,p)
 |_=>none
def asName:Expr->Option Str
 |.Name x _=>some x
 |_=>none
def iT:Expr->Option (Expr×Str×Pos)
 |.Attribute o f p=>some (o,f,p)
 |_=>none
def jH(e:Expr):Option (Str×D1×List Keyword):=(nK e).bind λq=>(asName q.1).map λf=>(f,q.2.1,q.2.2.1)
def i7{e:Expr}{q}(h:nK e=some q):e=.Call q.1 q.2.1 q.2.2.1 q.2.2.2:=by
 cases e<;>first|(cases h;done)|(cases h;rfl)
def cH{e:Expr}{x:Str}(h:asName e=some x):∃p,e=.Name x p:=by
 cases e<;>first|(cases h;done)|(cases h;exact⟨_,rfl⟩)
def i8{e:Expr}{q}(h:iT e=some q):e=.Attribute q.1 q.2.1 q.2.2:=by
 cases e<;>first|(cases h;done)|(cases h;rfl)
def eO{e:Expr}{q}(h:jH e=some q):∃p pos,e=.Call (.Name q.1 p) q.2.1 q.2.2 pos:=by
 obtain⟨w,h1,h2⟩:=dM.mp h;obtain⟨f,h3,rfl⟩:=cz.mp h2;obtain⟨p,h4⟩:=cH h3;rw[i7 h1,h4];exact⟨_,_,rfl⟩
def De:Stmt->Option (Str×Str×Expr)
 |.Assign ts e _=>(match ts with
  |[t]=>(iT t).bind λq=>(asName q.1).map λs=>(s,q.2.1,e)
  |_=>none)
 |_=>none
def xW{st:Stmt}{q}(h:De st=some q):∃p0 pf pos,st=.Assign [.Attribute (.Name q.1 p0) q.2.1 pf] q.2.2 pos:=by
 cases st<;>first|(cases h;done)|skip
 rename_i ts e pos
 match ts,h with
 |[t],h=>
  obtain⟨w,h1,h2⟩:=dM.mp (show(iT t).bind _=some q from h);obtain⟨s,h3,rfl⟩:=cz.mp h2;obtain⟨p,h4⟩:=cH h3;rw[i8 h1,h4];exact⟨_,_,_,rfl⟩
def rC(st:Stmt):Option (Str×Str×Str):=(De st).bind λw=>(asName w.2.2).map λq=>(w.1,w.2.1,q)
def wc{st:Stmt}{z:Str×Str×Str}(h:rC st=some z):∃p0 pf pq pos,st=.Assign [.Attribute (.Name z.1 p0) z.2.1 pf] (.Name z.2.2 pq) pos:=by
 obtain⟨w,h1,h2⟩:=dM.mp h;obtain⟨q,h3,rfl⟩:=cz.mp h2;obtain⟨p0,pf,pos,rfl⟩:=xW h1;obtain⟨p,h4⟩:=cH h3;rw[h4];exact⟨_,_,_,_,rfl⟩
def nL(N:BM):Nat->Fs->BM->Bool
 |_,[],[]=>true
 |i,st::rest,n::ns=>(match rC st with
  |some z=>decide (N[0]?=some z.1)&&decide (N[i]?=some z.2.2)&&decide (z.2.1=n)
  |none=>false)&&nL N (i+1) rest ns
 |_,_,_=>false
def U_(K:bD):Nat->BM->TS
 |_,[]=>BK
 |i,n::ns=>PR (Qj K (Lv 0) (Lv i) n) (U_ K (i+1) ns)
theorem xX(hv:∀(i:Nat)(x:Str),X.N[i]?=some x->xo X.env.scope x/\df x/\kB x):∀(body:Fs)(ns:BM)(i:Nat),nL X.N i body ns=true->jx X body (U_ X.K i ns)
 |[],[],_,_=>xw
 |[],_::_,_,h=>by cases h
 |st::rest,[],_,h=>by cases h
 |st::rest,n::ns,i,h=>by
  have h:((match rC st with
   |some z=>decide (X.N[0]?=some z.1)&&decide (X.N[i]?=some z.2.2)&&decide (z.2.1=n)
   |none=>false)&&nL X.N (i+1) rest ns)=true:=h
  rw[dh]at h;obtain⟨h1,h5⟩:=h;cases e:rC st with
  |none=>rw[e]at h1;cases h1
  |some z=>
   rw[e]at h1;simp only[dh,decide_eq_true_eq]at h1;obtain⟨⟨h2,h3⟩,rfl⟩:=h1;obtain⟨p0,pf,pq,pos,rfl⟩:=wc e;obtain⟨v1,v2,v3⟩:=hv 0 _ h2;obtain⟨w1,w2,w3⟩:=hv i _ h3;exact sO (vK (gj h2 v1 v2 v3) (gj h3 w1 w2 w3) rfl) (xX hv rest ns (i+1) h5)
theorem xY{K:bD}{C q dx:Addr}{N:BM}{all:List V}{D:Ends}(cl:pQ K C):∀(ns rD:BM)(as rE:List V)(H:Hp),(∀f∈ns,eG K C f)->(rD++ns).Nodup->(rD++ns).length<=100->rE.length=rD.length->as.length=ns.length->all=.ref q::(rE++as)->H q=some (.ins C dx (rD.zip rE)) ->
  D.nx (L2.start N all) (upd H q (.ins C dx ((rD++ns).zip (rE++as))))->U_ K (rE.length+1) ns D (L2.start N all) H
 |[],rD,as,rE,H,_,_,_,hl0,hl,ha,hq,k=>by
  have:as=[]:=Jy.mp hl
  subst this;rw[dc,dc]at k;have e:upd H q (.ins C dx (rD.zip rE))=H:=by
   funext b
   by_cases hb:b=q
   ·subst hb;rw[ai,hq]
   ·rw[aq hb]
  rw[e]at k;exact k
 |n::ns,rD,[],rE,H,_,_,_,hl0,hl,ha,hq,k=>by cases hl
 |n::ns,rD,v::as,rE,H,hna,nd,hsz,hl0,hl,ha,hq,k=>by
  have hg:(L2.start N all)[rE.length+1]?=some (some v):=by
   unfold L2.start;rw[gi (by rw[ha];simp),fZ,ha,List.getElem?_cons_succ,e_ (bV _),lH];rfl
  have h0:(L2.start N all)[0]?=some (some (.ref q)):=by
   unfold L2.start;rw[gi (by rw[ha];simp),fZ,ha];rfl
  have hn:n∉rD:=λz=>by
   rw[Bo]at nd;exact nd.2.2 n z n (fY ..) rfl
  refine⟨v,hg,.ref q,h0,q,C,dx,rD.zip rE,rfl,hq,cl,hna n (fY ..),?_,?_⟩
  ·rw[oO];rw[dg]at hsz;omega
  ·have e1:L2.cU n v (rD.zip rE)=(rD++[n]).zip (rE++[v]):=by
    have:=rA (f:=n) (v:=v) (ns:=rD++[n]) (vs:=rE) (by
     rw[show rD++n::ns=(rD++[n])++ns by simp]at nd
     exact(Bo.mp nd).1) (by rw[hl0,e_ (bV _),lH];rfl)
    rw[<- this]
    congr 1
    have:∀(a:BM)(b:List V)(r:BM),b.length=a.length->a.zip b=(a++r).zip b:=by
     intro a
     induction a with
     |nil=>intro b r h;cases b with
      |nil=>simp
      |cons=>cases h
     |cons x a ih=>intro b r h;cases b with
      |nil=>cases h
      |cons y b=>rw[jW,Bp,jW,ih b r (by simpa using h)]
    exact this rD rE [n] hl0
   rw[e1];have h5:=xY (N:=N) (all:=all) (D:=D) (q:=q) (dx:=dx) cl ns (rD++[n]) as (rE++[v]) (upd H q (.ins C dx ((rD++[n]).zip (rE++[v])))) (λf hf=>hna f (bW _ hf)) (by simpa using nd) (by simpa using hsz) (by simp[hl0]) (by simpa using hl) (by rw[ha];simp) ai (by
    rw[xn];simpa using k)
   rw[show(rE++[v]).length+1=rE.length+1+1 by simp]at h5
   exact h5
end
section
theorem nM:∀(k:Int)(ts:FV),(fR k ts).length=ts.length
 |_,[]=>rfl
 |k,_::ts=>congrArg (· + 1) (nM (k+1) ts)
theorem xZ:∀(k:Nat)(ts:FV)(i:Nat)(t:T),ts[i]?=some t->(fR (k:Int) ts)[i]?=some (.tup [.int ((k+i:Nat):Int),t])
 |_,[],_,_,h=>by simp at h
 |k,_::ts,0,_,h=>by simp at h;subst h;rfl
 |k,_::ts,i+1,t,h=>by
  have:=xZ (k+1) ts i t (by simpa using h)
  rw[show k+(i+1)=k+1+i by omega]
  exact this
def Sh(hB:B.K=X.K)(m:Nat):∀σ H R,tI B (jl (m:Int) fa) σ H R->My X.K m (tA B (bH fa ba)) σ H R:=by
 rintro σ H R ⟨g,s,t,s',x,h,k⟩
 obtain⟨⟨tx,s1⟩,h1,h⟩:=aa h;obtain⟨ts,h2,h⟩:=aa h;cases h;have h2:=aj h2;obtain⟨KS,rfl,rfl⟩:∃KS,tx=.lst KS/\t=fR m KS:=by
  cases tx<;>first|(cases h2;done)|(cases h2;exact⟨_,rfl,rfl⟩)
 have hc:bH fa ba s=.ok ([.lst KS],s1):=by
  show(fa s).bind _=_;rw[h1];rfl
 refine⟨g,s,_,_,x,hc,λvs g1 H1 p1 x1 r1=>?_⟩;obtain⟨v,rfl,l,ws,rfl,q1,r1⟩:=cM r1;refine⟨l,ws,rfl,cJ.of (x1.sub _ _ q1),k _ g1 H1 p1 x1 ⟨λi H3 s3 hi=>?_,λi H3 x H4 s3 hi y=>?_,λi H3 s3 hi=>?_⟩⟩
 ·rw[nM,r1.len]at hi
  exact⟨hi,cJ.of (s3 _ _ q1)⟩
 ·obtain⟨p,x',hn,e1,rfl,rfl⟩:=y
  obtain⟨t1,f1,Ē⟩:=r1.vS e1;refine⟨_,xZ m KS i t1 f1,λtZ s4 s5=>⟨upd tZ p (.tup [.int ((m+i:Nat):Int),x']),.new s5 hn,p,[.int ((m+i:Nat):Int),x'],rfl,lO.of ai,?_⟩⟩;have s6:=s4.trans (aX (o:=.tup [.int ((m+i:Nat):Int),x']) (s5.free hn));exact⟨.int ((m+i:Nat):Int),[x'],rfl,rfl,.one (Ē.same s6)⟩
 ·rw[nM,r1.len]at hi
  exact⟨hi,cJ.of (s3 _ _ q1)⟩
def Si(hB:B.K=X.K){elts:D1}{x1:Nat}{oV:Pos}(hg:Gl X "enumerate")(hm:X.mg "enumerate" = none)(ha:PE X a (tE B fa))(hs:noStar a=true):PI X (.Tuple elts x1 oV) (.Call (.Name "enumerate" p) [a] [] pos) (tI B (jl 0 fa)):=
 k8 (Q7 hg hm (mi ha rj (ao hs)) (ao hs)) (Sh hB 0)
def Sj(hB:B.K=X.K){elts:D1}{x1 k1:Nat}{oV p1 kp:Pos}(hg:Gl X "enumerate")(hm:X.mg "enumerate" = none)(ha:PE X a (tE B fa))(hs:noStar a=true):PI X (.Tuple elts x1 oV) (.Call (.Name "enumerate" p) [a] [⟨some (Str.ofString "start"),.Constant (.int 1) k1 p1,kp⟩] pos) (tI B (jl 1 fa)):=
 k8 (Mz hg hm (mi ha rj (ao hs)) (ao hs)) (Sh hB 1)
end
section
def KU{m:Str}(hb:bB o=true)(hs:es.all noStar=true)(hl:es.length<30)(hp:(bF.endLine == pos.line)=true):C4 X o m bF es pos:=by
 have hf:methodCallForm (es.length+0) (backTo pos (starEach es X.env)) (backToKw pos (keywordEach [] X.env))=true:=by
  unfold methodCallForm;rw[nE hs];show(true&&true&&decide (es.length+0+0<30))=true;rw[decide_eq_true (show es.length+0+0<30 by omega)];rfl
 refine⟨(do return(<- importBound o X.env).getD true),?_⟩
 show(do
  let ov <- attributeBase o m X.env (eval o X.env)
  standAt bF.atName
  methodCall o m bF pos X.env ov (es.length+0) (backTo pos (starEach es X.env)) (backToKw pos (keywordEach [] X.env)))=_
 rw[fJ hb];unfold methodCall;rw[hf];unfold calleeOf methodCallPos;rw[hp];rfl
def j_{Pr:Program}{w:World}{K:bD}{mg:Str->Dx}{base:Heap}{n qual:Str}{st:Stmt}{f C:Addr}{fd:FuncData}{N ps ns:BM}{k:Nat}(Fn:wb K n qual st f fd)(Sc:gT N ps (aH st))
  (hv:∀(i:Nat)(x:Str),N[i]?=some x->xo (aH st) x/\df x/\kB x) (hi:nL N 1 (cK st) ns=true) (hl:ps.length=ns.length+1) (cl:pQ K C) (na:∀f∈ns,eG K C f) (nd:ns.Nodup) (o_:ns.length<=100) :
  dF Pr w K mg base lR (k+1) f fd ps (Y8 C ns):=by
 refine Fn.ok Sc (λvs H Q E h=>?_) (λjP A outer s H vs Q E hr h=>?_)
 ·obtain⟨x,dx,args,rfl,sL,_⟩:=h
  rw[eT,sL,hl]
 ·obtain⟨x,dx,args,rfl,sL,hx,q⟩:=h
  refine⟨U_ K 1 ns,xX (X:=(oW lR Pr w K mg base N qual (aH st) f jP A outer s H E).J9) hv _ ns 1 hi,?_⟩;exact xY (N:=N) (D:={nx:=λ_ H'=>Q .non H',rt:=Q}) cl ns [] args [] H na (by simpa using nd) (by simpa using o_) rfl sL rfl (by simpa using hx) (by simpa using q)
def Zf(K:bD)(C:Addr)(n:Str):Sp:=λvs H Q _=>∃x dx p ys,vs=[.ref x,.ref p]/\H x=some (.ins C dx [])/\cJ K H p ys/\∀l,H l=none->Q .non (upd (upd H l (.lst ys)) x (.ins C dx [(n,.ref l)]))
noncomputable def rF(st:Stmt):Option (Str×Str×Str):=(De st).bind λw=>(jH w.2.2).bind λc=>(match c.2.1,c.2.2 with
 |[a],[]=>if c.1=("list" : Str)then(asName a).map λq=>(w.1,w.2.1,q)else none
 |_,_=>none)
def uc{st:Stmt}{z:Str×Str×Str}(h:rF st=some z):∃p0 pf pq pl pc pos,st=.Assign [.Attribute (.Name z.1 p0) z.2.1 pf] (.Call (.Name "list" pl) [.Name z.2.2 pq] [] pc) pos:=by
 obtain⟨w,h1,h2⟩:=dM.mp h;obtain⟨⟨f,as,ks⟩,h3,h4⟩:=dM.mp h2
 match as,ks,h3,h4 with
 |[a],[],h3,h4=>
  dsimp only at h4;split at h4
  ·rename_i e
   obtain⟨q,h5,rfl⟩:=cz.mp h4;obtain⟨p0,pf,pos,rfl⟩:=xW h1;obtain⟨pl,pc,h6⟩:=eO h3;obtain⟨pq,h7⟩:=cH h5;rw[h6,h7,e];exact⟨_,_,_,_,_,_,rfl⟩
  ·cases h4
def Df{Pr:Program}{w:World}{K:bD}{mg:Str->Dx}{base:Heap}{nm qual s0 q n:Str}{st Sk:Stmt}{f C:Addr}{fd:FuncData}{N ps:BM}{k:Nat}(Fn:wb K nm qual st f fd)(Sc:gT N ps (aH st))
  (hb:cK st=[Sk]) (h1:rF Sk=some (s0,n,q)) (h0:N[0]?=some s0) (hq:N[1]?=some q) (hv:∀(i:Nat)(x:Str),N[i]?=some x->xo (aH st) x/\df x/\kB x) (hm:mg "list" = none) (hg:(aH st).names.lookup ("list" : Str)=some .globalImplicit) (hl:ps.length=2) (cl:pQ K C) (na:eG K C n) :
  dF Pr w K mg base lR (k+1) f fd ps (Zf K C n):=by
 obtain⟨p0,pf,pq,pl,pc,pos,rfl⟩:=uc h1;refine Fn.ok Sc (λvs H Q E h=>?_) (λjP A outer s H vs Q E hr h=>?_)
 ·obtain⟨x,dx,p,ys,rfl,_⟩:=h
  exact hl.symm
 ·obtain⟨x,dx,p,ys,rfl,hx,hp,k⟩:=h
  obtain⟨v1,v2,v3⟩:=hv 0 _ h0;obtain⟨w1,w2,w3⟩:=hv 1 _ hq;rw[hb];refine⟨_,xx (vK (gj h0 v1 v2 v3) (gC gU (X:=(oW lR Pr w K mg base N qual (aH st) f jP A outer s H E).J9) hg hm zp (aV (gj hq w1 w2 w3) cu)) rfl),?_⟩;refine⟨.ref p,rfl,p,ys,rfl,.inl hp,λl hl=>⟨.ref x,rfl,x,C,dx,[],rfl,?_,cl,na,by decide,k l hl⟩⟩
  rw[aq (λe=>by subst e;rw[hl]at hx;cases hx)]
  exact hx
structure Zg(P:Pg)(Pr:Program)(w:World)(K:bD)(mg:Str->Dx)(base:Heap)(k:Nat)(c:Nat)(x:Str):Prop where
 ex:∃(C fi:Addr)(fd:FuncData)(ps:BM)(n:Str),iP (j7 P K Pr w) c C [n]/\mg x=some (.ref C)/\Mk K C fi/\dF Pr w K mg base lR k fi fd ps (Zf K C n)/\Binds K fd ps []
def Nf{k j c:Nat}(D:Zg P X.prog X.w X.K X.mg X.base k c x)(hr:bM j X.A)(z_:k+1<=j)(ha:PE X e (tE (P.kt X) fa))(hg:Gl X x)(qQ:df x)(hs:noStar e=true) :
  PE X (.Call (.Name x p) [e] [] pos) (tE (P.kt X) (dq (GK c) fa)):=by
 obtain⟨C,fi,fd,ps,n,hC,hm,M,F,hb⟩:=D.ex;refine aP (qR M F (hr.mono z_) hg hm hb .nil mR (aV ha cu (ao hs)) qQ (ao hs) rfl) λσ H Q zz=>?_;obtain⟨g,s,t,s',z,h,k⟩:=zz;obtain⟨⟨tx,s1⟩,h1,h⟩:=aa h;obtain⟨t',h2,h⟩:=aa h;cases h;have h2:=aj h2;cases tx<;>first|(cases h2;done)|skip
 rename_i ts;cases h2;refine⟨g,s,_,_,z,h1,λv g1 H1 p1 x1 r1 x dx nx nd kG=>?_⟩;obtain⟨q,vs,rfl,hq,rr⟩:=r1;have g2:=Gr.new (o:=.own x) x1.sub nd;have W4:upd H1 dx (.own x) x=none:=by rw[aq (Ne.symm kG)];exact nx
 have Po:H1 q=some (.lst vs):=x1.sub _ _ hq;have qd:q≠dx:=λe=>by subst e;rw[nd]at Po;cases Po
 have qx:q≠x:=λe=>by subst e;rw[nx]at Po;cases Po
 refine⟨x,dx,q,vs,rfl,ai,cJ.of (by rw[aq qx,aq qd];exact Po),λl hl=>⟨rfl,?_⟩⟩
 have lx:l≠x:=λe=>by subst e;rw[ai]at hl;cases hl
 have O9:upd H1 dx (.own x) l=none:=by rw[aq lx]at hl;exact hl
 have ld:l≠dx:=λe=>by subst e;rw[ai]at O9;cases O9
 have g3:=Gr.new (o:=.lst vs) g2.sub O9;have ē:upd (upd H1 dx (.own x)) l (.lst vs) x=none:=by rw[aq (Ne.symm lx)];exact W4
 have g4:=Gr.new (o:=.ins C dx [(n,.ref l)]) g3.sub ē;have e:upd (upd (upd (upd H1 dx (.own x)) x (.ins C dx [])) l (.lst vs)) x (.ins C dx [(n,.ref l)])=upd (upd (upd H1 dx (.own x)) l (.lst vs)) x (.ins C dx [(n,.ref l)]):=by
  funext b
  by_cases hb:b=x
  ·subst hb;rw[ai,ai]
  ·rw[aq hb,aq hb]
   by_cases hb2:b=l
   ·subst hb2;rw[ai,ai]
   ·rw[aq hb2,aq hb2,aq hb]
 rw[e];have gr:=(g2.trans g3).trans g4;refine k _ (g1.grow _) _ (p1.trans (x1.kr gr)) (x1.grow gr) ⟨x,C,dx,[n],[.ref l],rfl,hC,ai,bV _,?_,.one ⟨l,vs,rfl,?_,rr.same gr.fr⟩⟩
 ·show upd (upd (upd g1.HF dx (.own x)) l (.lst vs)) x _ dx=_
  rw[aq kG,aq (Ne.symm ld),ai]
 ·show upd (upd (upd g1.HF dx (.own x)) l (.lst vs)) x _ l=_
  rw[aq lx,ai]
def namesOf:D1->Option BM
 |[]=>some []
 |.Name x _::es=>(namesOf es).map (x::·)
 |_=>none
def Hd(hB:B.K=X.K){px:Pos}(hN:X.N[i]?=some y)(hv:xo X.env.scope y)(hd:df y)(pO:kB y)(hg:Gl X "len")(hm:X.mg "len" = none) :
  PE X (.Call (.Name "len" p) [.Name y px] [] pos) (tE B (jk i)):=by
 refine aP (gB mK hg hm PySem.boot_len (aV (gj hN hv hd pO) cu rfl) (he:=rfl) (hpl:=rfl)) λσ H Q zz=>?_;obtain⟨g,s,t,s',x,h,k⟩:=zz;obtain⟨ts,h1,h⟩:=aa h;cases h;obtain⟨l,vs,w1,w2,w3,w4⟩:=x.wa (g_ (aj h1));exact⟨_,w1,_,_,rfl,.inl ⟨vs,cJ.of w3,w4.len⟩,k _ g H .refl x rfl⟩
def Ng{px:Pos}(hN:X.N[i]?=some y)(hv:xo X.env.scope y)(hd:df y)(pO:kB y)(hb:PE X b (tE B fb))(hs:jY b) :
  PE X (.Subscript (.Name y px) b pos) (tE B (lU i fb)):=by
 refine aP (Ke xD (gj hN hv hd pO) hb hs) λσ H Q zz=>?_;obtain⟨g,s,t,s',x,h,k⟩:=zz;obtain⟨us,h0,h⟩:=aa h;obtain⟨⟨ty,s1⟩,h1,h⟩:=aa h;obtain⟨ts,h2,h⟩:=aa h;obtain⟨t',h3,h⟩:=aa h;cases h;obtain⟨l,vs,w1,w2,w3,w4⟩:=x.wa (g_ (aj h0));refine⟨_,w1,g,s,ty,_,x,h1,λv g1 H1 p1 x1 r1=>?_⟩;obtain⟨l',ik,q1,q2,q3,q4⟩:=x1.wa (g_ (aj h2));rw[w1]at q1;cases q1;have h3:=aj h3;cases ty<;>first|(cases h3;done)|skip
 obtain⟨w,e,qT⟩:=rn q4 (show atT ts _=some _ from h3);exact⟨l,ik,_,w,rfl,r1,cJ.of q3,e,k w g1 H1 p1 x1 qT⟩
def fD:T->T->FX
 |.int i,.int j=>some (.int (i+j))
 |_,_=>none
def Sl(hN:X.N.Nodup)(hi:X.N[i]?=some x)(hx:Loc X.env.scope x)(he:PE X e (tE B fa))(hf:X.fn x=true\/X.env.scope.names.lookup x=some .local) :
  PS X (.AugAssign (.Name x bU) .Add e pos) (tS B (tD fD i fa)):=c9 (LP hN hi hx he LQ hf) λD σ H zz=>by
 obtain⟨g,s,o,s',z,h,k⟩:=zz;unfold tD at h;split at h
 ·rename_i tx hr
  obtain⟨⟨ty,s1⟩,h1,h⟩:=aa h;obtain⟨t,h2,h⟩:=aa h;cases h;obtain⟨v,hv,rv⟩:=z.lc.at_ i _ hr;have h2:=aj h2;cases tx<;>first|(cases h2;done)|(cases ty<;>first|(cases h2;done)|skip)
  cases h2;cases(show v=V.int _ from rv);refine⟨_,hv,g,s,_,s1,z,h1,λw g1 H1 p1 x1 r1=>?_⟩;cases(show w=V.int _ from r1);exact⟨_,_,rfl,rfl,k _ g1 H1 p1 (x1.set (t:=.int _) rfl)⟩
 ·cases h
def x8(K:bD)(mg:Str->Dx)(x:Str)(t:T):Prop:=∃u v,mg x=some u/\RelV v u/\∀(B:KT)(al:D2)(H:Hp),B.K=K->Rep B al H t v
def Sm{t:T}(h:x8 X.K X.mg x t)(hB:B.K=X.K)(hg:Gl X x)(hd:df x):PE X (.Name x pos) (tE B (cF t)):=by
 obtain⟨u,v,h1,h2,h3⟩:=h;exact j5 (xr hg h1 h2 hd) λal H=>h3 B al H hB
def Sn{body:Fs}{h0:ExceptHandler}{hs:List ExceptHandler}{t:TS}(Ĕ:X.xe=λ_ _=>False)(h:jx X body t):PS X (.Try body (h0::hs) [] [] pos) t:=λae s σ H D I q=>by
 refine wpAny_Try_except (wpAny_mono (h ae s σ H D I q) (λf s1 z=>?_) λe s1 z=>?_)
 ·cases f with
  |next=>exact wpAny_execs_nil z
  |brk=>exact z
  |cont=>exact z
  |ret u=>exact z
 ·rw[Ĕ]at z;exact z.elim
end
abbrev aM:CmpOp->T->T->FX:=RK
def Zh:Option (Option C)->Option (List Ky×FV)
 |some (some (.od ks ts))=>some (ks,ts)
 |_=>none
def x9:CmpOp->Option Bool
 |.In=>some false
 |.NotIn=>some true
 |_=>none
def W_(i:Nat)(s:S):Bool:=(pj s.r[i]?).isSome
def x_(i:Nat):FS:=λs=>.ok (.nx,jR s i (.od [] []))
def bQ(ks:List Ky)(ts:FV)(k:Ky)(t:T):List Ky×FV:=if k∈ks then(ks,(ks.zip ts).map λp=>if p.1=k then t else p.2)else(ks++[k],ts++[t])
def So(i:Nat)(b a:FE):FS:=λs=>(a s).bind λp=>(b p.2).bind λq=>(aT (Zh p.2.r[i]?)).bind λ_=>(aT (Zh q.2.r[i]?)).bind λd=>(aT (iL q.1)).bind λk=>(aT (gd (d.1.length<1000000) ())).bind λ_=>.ok (.nx,jR q.2 i (let z:=bQ d.1 d.2 k p.1;.od z.1 z.2))
section
variable{nN p1:Pos}{al:D2}
def rG{a b:Ky}(h:jS a=jS b):a=b:=by
 cases a<;>cases b
 ·injection h with h;rw[h]
 ·cases h
 ·cases h
 ·injection h with h
  injection h with h
  have h:=congrArg Array.toList h;dsimp only at h;rw[h]
def mq{t:T}{v:V}{k:Ky}(h:iL t=some k)(r:Rep B al H t v):v=kV (jS k):=by
 cases t<;>first|(cases h;done)|skip
 ·cases h;exact r
 ·cases h;exact r.1
theorem we:∀{ks:List Ky}{vs:List V},ks.length=vs.length->∀k,(jy ((ks.map jS).zip vs) (jS k)).isSome=decide (k∈ks)
 |[],_,_,k=>by simp[jy]
 |q::ks,[],h,_=>by cases h
 |q::ks,v::vs,h,k=>by
  rw[dZ,jW];by_cases e:q=k
  ·rw[iG (p:=(jS q,v)) (by rw[e])]
   simp[e]
  ·rw[iH (p:=(jS q,v)) (λz=>e (rG z)),we (lI.inj h) k]
   have:(k∈q::ks) ↔ (k∈ks):=⟨λz=>(gh.mp z).elim (λz=>absurd z.symm e) id,bW _⟩
   simp only[this]
theorem ya{k:Ky}{v:V}{t:T}(rt:Rep B al H t v):∀{ks:List Ky}{vs:List V}{ts:FV},ks.length=vs.length->aB B al H ts vs ->
  ((ks.map jS).zip vs).map (λkv=>if kv.1=jS k then(kv.1,v)else kv)=(ks.map jS).zip ((ks.zip vs).map λp=>if p.1=k then v else p.2)/\ks.length=((ks.zip vs).map λp=>if p.1=k then v else p.2).length/\aB B al H ((ks.zip ts).map λp=>if p.1=k then t else p.2) ((ks.zip vs).map λp=>if p.1=k then v else p.2)
 |[],[],_,_,r=>⟨rfl,rfl,by cases ‹FV›<;>exact rfl⟩
 |q::ks,[],_,h,_=>by cases h
 |[],_::_,_,h,_=>by cases h
 |q::ks,u::vs,ts,h,r=>by
  cases ts with
  |nil=>cases(show u::vs=[]from r)
  |cons t' ts=>
   obtain⟨u',ik,e,ru,rs⟩:=r;cases e;obtain⟨h1,h2,h3⟩:=ya rt (ks:=ks) (vs:=vs) (ts:=ts) (lI.inj h) rs;refine⟨?_,?_,?_⟩
   ·simp only[dZ,jW]at h1 ⊢
    rw[h1];by_cases e:q=k
    ·rw[if_pos (by rw[e]),if_pos e]
    ·rw[if_neg (λz=>e (rG z)),if_neg e]
   ·simp only[jW,dZ,eT]
    rw[<- h2]
   ·simp only[jW,dZ]
    refine⟨_,_,rfl,?_,h3⟩;by_cases e:q=k
    ·rw[if_pos e,if_pos e];exact rt
    ·rw[if_neg e,if_neg e];exact ru
def Nh{ks:List Ky}{ts:FV}{vs:List V}{k:Ky}{t:T}{v:V}(hl:ks.length=vs.length)(r:aB B al H ts vs)(rt:Rep B al H t v) :
  ∃ik,L2.putK ((ks.map jS).zip vs) (jS k) v=((bQ ks ts k t).1.map jS).zip ik/\(bQ ks ts k t).1.length=ik.length/\aB B al H (bQ ks ts k t).2 ik:=by
 unfold L2.putK bQ;rw[mU,we hl];by_cases e:k∈ks
 ·rw[if_pos (decide_eq_true e),if_pos e]
  obtain⟨h1,h2,h3⟩:=ya (k:=k) rt hl r;exact⟨_,h1,h2,h3⟩
 ·rw[if_neg (by simpa using e),if_neg e]
  refine⟨vs++[v],?_,by simp[hl],r.app (.one rt)⟩
  rw[jv,List.zip_append (by rw[b_];exact hl)]
  rfl
def Va(neg:Bool):R2:=λx y H Q=>∃a o,y=.ref a/\o9 H a x o/\Q (.bl (if neg then !o.isSome else o.isSome)) H
def Ni(hu:X.A.units+1<cLine):gk X (compareOp .In) (Va false):=λae s σ H x y v u Q I rx ry z=>by
 obtain⟨a,o,ey,g,q⟩:=z;subst ey
 obtain rfl:u=Value.ref a:=ry
 exact Wn hu I g rx λs3 I3=>⟨.bl o.isSome,H,I3,rfl,q⟩
def Hf(hu:X.A.units+1<cLine):gk X (compareOp .NotIn) (Va true):=λae s σ H x y v u Q I rx ry z=>by
 obtain⟨a,o,ey,g,q⟩:=z;subst ey
 obtain rfl:u=Value.ref a:=ry
 exact Gz hu I g rx λs3 I3=>⟨.bl (!o.isSome),H,I3,rfl,q⟩
def yb{op:CmpOp}{k:Nat}(hr:bM k X.A):∃r,gk X (compareOp op) r/\sf X (aM op) r:=MN hr
def Nj{op:CmpOp}{k:Nat}(hB:B.K=X.K)(hr:bM k X.A)(ha:PE X a (tE B fa))(hb:PE X b (tE B fb))(hm:behindInMarks op b=false):PE X (.Compare a [op] [b] pos) (tE B (bA (aM op) fa fb)):=by
 obtain⟨r,ho,hl⟩:=yb (op:=op) hr;exact aP (qM ho ha hb hm) (k9 hB hl)
def Hg{op:CmpOp}{k:Nat}(hB:B.K=X.K)(hr:bM k X.A)(ha:PE X a (tE B fa))(hb:PE X b (tE B fb))(hm:behindInMarks op b=false):PT X (.Compare a [op] [b] pos) (tT B (bu (bA (aM op) fa fb))):=by
 obtain⟨r,ho,hl⟩:=yb (op:=op) hr;exact tG (qN ho ha hb hm) λσ H Q q=>k9 hB hl σ H _ (CN q)
def ud{op:CmpOp}{neg:Bool}(hu:X.A.units+1<cLine)(h:x9 op=some neg):gk X (compareOp op) (Va neg):=by
 cases op<;>first|(cases h;done)|skip
 ·cases h;exact Ni hu
 ·cases h;exact Hf hu
def Nk{dp:Pos}(hN:X.N.Nodup)(hi:X.N[i]?=some x)(hx:Loc X.env.scope x)(hf:X.fn x=true\/X.env.scope.names.lookup x=some .local) :
  PS X (.Assign [.Name x bU] (.Dict [] [] dp) pos) (tS B (x_ i)):=c9 (vC hN hi hx tm rfl hf) λD σ H z=>by
 obtain⟨g,s,o,s',x,h,k⟩:=z;cases h;intro q hq;obtain⟨gr,n1,n2⟩:=lV (u:=.dK []) x hq;have x1:=x.grow gr;have p1:=x.kr gr;refine k _ ((g.grow g.HF).own q (.loc i)) _ ⟨p1.fr,p1.pre,λb u h n z=>?_,p1.there⟩ (x1.Ww (ks:=[]) (ts:=[]) (vs:=[]) n2 n1 ai rfl rfl);obtain⟨a,b',c⟩:=p1.rest b u h n z
 have:b≠q:=aL h hq
 exact⟨a,b',by show(if b=q then some (iQ.loc i)else g.o b)=none;rw[if_neg this];exact c⟩
end
def ue(n:Nat)(m:He):T->Option (Nat×C)
 |.own k=>(m[k]?).bind λob=>(match ob.fs with
  |[c]=>if ob.c=n then some (k,c)else none
  |_=>none)
 |_=>none
def Xa:C->FR
 |.ol ts=>some ts
 |_=>none
def Xb:C->Option (List Ky×FV)
 |.od ks ts=>some (ks,ts)
 |_=>none
def kL(n:Nat)(m:He)(t:T):Option (Nat×FV):=(ue n m t).bind λz=>(Xa z.2).map λts=>(z.1,ts)
def jg(n:Nat)(m:He)(t:T):Option (Nat×List Ky×FV):=(ue n m t).bind λz=>(Xb z.2).map λd=>(z.1,d.1,d.2)
def setB(n:Nat)(s:S)(k:Nat)(c:C):S:={s with m:=s.m.set k ⟨n,[c]⟩}
def lW(n:Nat):FE:=λs=>.ok (.own s.m.length,{s with m:=s.m++[⟨n,[.od [] []]⟩]})
def eZ(n:Nat)(o a:FE):FS:=λs=>(o s).bind λp=>(aT (kL n p.2.m p.1)).bind λ_=>(a p.2).bind λq=>(aT (kL n q.2.m p.1)).bind λz=>(aT (gd (z.2.length<1000000) ())).bind λ_=>.ok (.nx,setB n q.2 z.1 (.ol (z.2++[q.1])))
def dI(n:Nat)(o b a:FE):FS:=λs=>(a s).bind λv=>(o v.2).bind λp=>(b p.2).bind λq=>(aT (jg n q.2.m p.1)).bind λz=>(aT (iL q.1)).bind λk=>(aT (gd (z.2.1.length<1000000) ())).bind λ_=>.ok (.nx,setB n q.2 z.1 (let y:=bQ z.2.1 z.2.2 k v.1;.od y.1 y.2))
def rH(n:Nat)(neg:Bool)(a o:FE):FE:=λs=>(a s).bind λp=>(o p.2).bind λq=>(aT (jg n q.2.m q.1)).bind λz=>(aT (iL p.1)).bind λk=>.ok (.bl (if neg then !decide (k∈z.2.1)else decide (k∈z.2.1)),q.2)
def dz(n:Nat)(o b:FE):FE:=λs=>(o s).bind λp=>(b p.2).bind λq=>(aT (jg n q.2.m p.1)).bind λz=>(aT (iL q.1)).bind λk=>(aT (dG z.2.1 z.2.2 k)).bind λt=>.ok (t,q.2)
def rJ(n:Nat)(o b d:FE):FE:=λs=>(o s).bind λp=>(aT (jg n p.2.m p.1)).bind λ_=>(b p.2).bind λq=>(d q.2).bind λw=>(aT (jg n w.2.m p.1)).bind λz=>(aT (iL q.1)).bind λk=>.ok ((dG z.2.1 z.2.2 k).getD w.1,w.2)
section
variable{f:Expr}{H1:Hp}{g1:G}
def nO{m:He}{t:T}{z:Nat×C}(h:ue n m t=some z):t=.own z.1/\m[z.1]?=some ⟨n,[z.2]⟩:=by
 cases t<;>first|(cases h;done)|skip
 obtain⟨ob,h1,h⟩:=dM.mp (show(m[_]?).bind _=some z from h);obtain⟨d,fs⟩:=ob
 match fs,h,h1 with
 |[c],h,h1=>
  dsimp only at h;split at h
  ·rename_i q;cases h;subst q;exact⟨rfl,h1⟩
  ·cases h
def e7{m:He}{t:T}{z:Nat×FV}(h:kL n m t=some z):t=.own z.1/\m[z.1]?=some ⟨n,[.ol z.2]⟩:=by
 obtain⟨w,h1,h2⟩:=dM.mp h;obtain⟨ts,h3,rfl⟩:=cz.mp h2;obtain⟨e1,e2⟩:=nO h1;obtain⟨k,c⟩:=w;cases c<;>first|(cases h3;done)|skip
 cases h3;exact⟨e1,e2⟩
def fV{m:He}{t:T}{z:Nat×List Ky×FV}(h:jg n m t=some z):t=.own z.1/\m[z.1]?=some ⟨n,[.od z.2.1 z.2.2]⟩:=by
 obtain⟨w,h1,h2⟩:=dM.mp h;obtain⟨d,h3,rfl⟩:=cz.mp h2;obtain⟨e1,e2⟩:=nO h1;obtain⟨k,c⟩:=w;cases c<;>first|(cases h3;done)|skip
 cases h3;exact⟨e1,e2⟩
def SR.jh(x:SR B g H σ s)(hc:B.cn[n]?=none){c:C}(hm:s.m[k]?=some ⟨n,[c]⟩){l:Addr}(ha:g.al[k]?=some l):Rk B g H k ⟨n,[c]⟩ l/\aY B g H (.ob k) c (.ref l):=by
 rcases x.st.at_ k _ hm with⟨a',C,dx,ns,vs,Z⟩|⟨a',Z⟩
 ·obtain⟨m,q,_⟩:=Z.cl
  rw[hc]at q;cases q
 ·have:=Z.al.symm.trans ha
  cases this;exact⟨Z,Z.f c rfl⟩
def SR.nP{l:Addr}{c:C}(x:SR B g H σ s)(hc:B.cn[n]?=none)(hf:B.fn[n]?=none)(n1:g.HF l=none)(n2:g.o l=none){u:HO}(hl:H l=some u)(r:aY B (g.dQ l) H (.ob g.al.length) c (.ref l)):SR B (g.dQ l) H σ {s with m:=s.m++[⟨n,[c]⟩]}:=by
 have ho:∀b p',g.o b=some p'->(g.dQ l).o b=some p':=λb p' h=>by
  show(if b=l then some (iQ.ob g.al.length)else g.o b)=_
  rw[if_neg λz=>by rw[z,n2]at h;cases h];exact h
 have pre:g.al <+: (g.dQ l).al:=xg _ _;refine⟨⟨x.sub,λb p' e=>?_,?_,λk ob e=>?_⟩,x.lc.len,λi c' e=>?_⟩
 ·have e:(if b=l then some (iQ.ob g.al.length)else g.o b)=some p':=e
  by_cases hb:b=l
  ·subst hb;exact⟨n1,_,hl⟩
  ·rw[if_neg hb]at e;exact x.st.live b p' e
 ·show(s.m++[_]).length=(g.al++[l]).length
  rw[dg,dg,x.st.len];rfl
 ·have e:(s.m++[(⟨n,[c]⟩:Ob)])[k]?=some ob:=e
  by_cases hk:k<s.m.length
  ·rw[gi hk]at e
   exact(x.st.at_ k ob e).mv (aO.refl _) pre λb p' h _=>⟨ho b p' h,rfl⟩
  ·rw[e_ (by omega)]at e
   have W9:k-s.m.length=0:=by
    have:=(c_.mp e).1
    simp at this;omega
   rw[W9]at e;cases e;have ku:k=g.al.length:=by have:=x.st.len;omega
   subst ku;refine .inr ⟨l,?_,hc,hf,λd z=>by cases z;exact r⟩
   show(g.al++[l])[g.al.length]?=some l;rw[e_ (bV _),lH];rfl
 ·obtain⟨v,h1,h2⟩:=x.lc.at_ i c' e
  exact⟨v,h1,aY.mv (g:=g) (g':=g.dQ l) (aO.refl _) pre (λb h=>⟨ho b _ h,rfl⟩) h2⟩
def rK{l:Addr}:(g.dQ l).o l=some (.ob g.al.length):=by
 show(if l=l then some (iQ.ob g.al.length)else g.o l)=_
 rw[if_pos rfl]
def ez.nP(q:ez g H g1 H1){l:Addr}(h0:H l=none):ez g H (g1.dQ l) H1:=⟨q.fr,q.pre.trans (xg _ _),λb u h n z=>by
 obtain⟨h1,h2,h3⟩:=q.rest b u h n z;refine⟨h1,h2,?_⟩;show(if b=l then some (iQ.ob g1.al.length)else g1.o b)=none
 rw[if_neg (aL h h0)];exact h3,q.there⟩
def nQ(x:SR B g H σ s){l:Addr}:Rep B (g.dQ l).al (g.dQ l).HF (.own s.m.length) (.ref l):=⟨l,rfl,by
 show(g.al++[l])[s.m.length]?=some l;rw[x.st.len,e_ (bV _),lH];rfl⟩
def Dg(hc:B.cn[n]?=none)(hf:B.fn[n]?=none)(he:PE X e (tO B fl)):PE X e (tE B (ig n fl)):=aP he λσ H Q z=>by
 obtain⟨g,s,t,s',x,h,k⟩:=z;obtain⟨⟨ts,s1⟩,h1,h⟩:=aa h;cases h;exact⟨g,s,ts,s1,x,h1,λl vs g1 H1 p1 x1 h0 n1 n2 hl r=>k _ (g1.dQ l) H1 (p1.nP h0) (x1.nP (c:=.ol ts) hc hf n1 n2 hl ⟨l,vs,rfl,rK,hl,r.mv (xg _ _) (aO.refl _)⟩) (nQ x1)⟩
def Nl{dp:Pos}(hc:B.cn[n]?=none)(hf:B.fn[n]?=none):PE X (.Dict [] [] dp) (tE B (lW n)):=aP tm λσ H Q z=>by
 obtain⟨g,s,t,s',x,h,k⟩:=z;cases h;intro q hq;obtain⟨gr,n1,n2⟩:=lV (u:=.dK []) x hq;have x1:=x.grow gr;exact k _ ((g.grow g.HF).dQ q) _ ((x.kr gr).nP hq) (x1.nP (c:=.od [] []) hc hf n1 n2 ai ⟨q,[],rfl,rK,ai,rfl,rfl⟩) (nQ x1)
def SR.yc{l:Addr}{c c':C}{u:HO}(x:SR B g H σ s)(Z:Rk B g H k ⟨n,[c]⟩ l)(hk:s.m[k]?=some ⟨n,[c]⟩)(ho:g.o l=some (.ob k))(r:aY B g (upd H l u) (.ob k) c' (.ref l)) :
  ez g H g (upd H l u)/\SR B g (upd H l u) σ (setB n s k c'):=by
 have ne:∀b q,g.o b=some q->q≠.ob k->upd H l u b=H b:=λb q hb hq=>aq λz=>hq (by rw[z,ho]at hb;cases hb;rfl)
 refine⟨rh ho,⟨⟨λb w e=>?_,λb q e=>?_,by show(s.m.set k _).length=_;rw[fh];exact x.st.len,λk' pC e=>?_⟩,x.lc.len,λi c e=>?_⟩⟩
 ·have:b≠l:=λz=>by rw[z,(x.st.live l _ ho).1]at e;cases e
  rw[aq this];exact x.sub _ _ e
 ·obtain⟨h1,w,h2⟩:=x.st.live b q e
  by_cases hb:b=l
  ·exact⟨h1,_,by rw[hb,ai]⟩
  ·exact⟨h1,w,by rw[aq hb];exact h2⟩
 ·have e:(s.m.set k ⟨n,[c']⟩)[k']?=some pC:=e
  by_cases ku:k=k'
  ·subst ku
   rw[cj (c_.mp hk).1]at e;cases e;exact .inr ⟨l,Z.al,Z.nc,Z.nf,λd z=>by cases z;exact r⟩
  ·rw[cT ku]at e
   refine(x.st.at_ k' pC e).mv (aO.refl _) d_ λb q h hq=>⟨h,ne b q h ?_⟩;rcases hq with rfl|⟨j,rfl⟩
   ·exact λz=>ku (by cases z;rfl)
   ·exact λz=>by cases z
 ·obtain⟨v,h1,h2⟩:=x.lc.at_ i c e
  exact⟨v,h1,aY.mv (g:=g) (g':=g) (aO.refl _) d_ (λb hb=>⟨hb,ne b _ hb λz=>by cases z⟩) h2⟩
def Nn(hc:B.cn[n]?=none)(ho:PE X o (tE B fo))(hb:bB o=true)(he:PE X e (tE B fa))(hs:noStar e=true)(gD:(bF.endLine == bP.line)=true) :
  PS X (.Expr (.Call (.Attribute o "append" bF) [e] [] bP) pos) (tS B (eZ n fo fa)):=by
 refine c9 (qJ (xE PySem.F.plainAttrs_list PySem.F.slot_list_append PySem.F.type_list_append kF ho (aV he cu (ao hs)) (fJ hb) (o_ (by rw[eU,hs];rfl) (by decide)) gD (ao hs) rfl) rfl) λD σ H z=>?_
 obtain⟨g,s,oo,s',x,h,k⟩:=z;obtain⟨⟨tx,s1⟩,h1,h⟩:=aa h;obtain⟨z0,h2,h⟩:=aa h;obtain⟨⟨t,s2⟩,h3,h⟩:=aa h;obtain⟨z,h4,h⟩:=aa h;obtain⟨_,h5,h⟩:=aa h;obtain⟨hz,_⟩:=aZ (aj h5);cases h;obtain⟨e1,m1⟩:=e7 (aj h2);obtain⟨e2,m2⟩:=e7 (aj h4);dsimp only at e1 e2;subst e1;refine⟨g,s,_,s1,x,h1,λv g1 H1 p1 x1 r1=>?_⟩;obtain⟨l,rfl,ha⟩:=r1;obtain⟨Z1,l1,ĕ,q1,o1,Xc,_⟩:=x1.jh hc m1 ha;cases q1;refine⟨.inl ⟨rfl,_,cJ.of Xc⟩,g1,s1,t,s2,x1,h3,λv g2 H2 p2 x2 r2=>?_⟩;have ek:z.1=z0.1:=by injection e2 with e2;exact e2.symm
 rw[<- ek]at ha;obtain⟨Z2,l2,Vb,q2,o2,Ė,rr⟩:=x2.jh hc m2 (bL p2.pre ha);cases q2;obtain⟨p3,x3⟩:=x2.yc (c':=.ol (z.2++[t])) Z2 m2 o2 ⟨l,_,rfl,o2,ai,rr.app (.one r2)⟩;exact⟨l,Vb,v,rfl,rfl,Ė,by rw[<- rr.len,sizeLine_eq];omega,k σ g2 _ ((p1.trans p2).trans p3) x3⟩
def Sq{kk:Nat}(hc:B.cn[n]?=none)(hr:bM kk X.A)(he:PE X e (tE B fa))(ho:PE X o (tE B fo))(hb:PE X b (tE B fb))(hs:swapsWith e (some (.Subscript o b bU)) pos.line X.env=pure false) :
  PS X (.Assign [.Subscript o b bU] e pos) (tS B (dI n fo fb fa)):=by
 have hu:X.A.units+1<cLine:=by have:=hr.units;omega
 refine c9 (GD hu ho hb he hs) λD σ H z=>?_;obtain⟨g,s,oo,s',x,h,k⟩:=z;obtain⟨⟨t,s1⟩,h1,h⟩:=aa h;obtain⟨⟨tx,s2⟩,h2,h⟩:=aa h;obtain⟨⟨tk,s3⟩,h3,h⟩:=aa h;obtain⟨z,h4,h⟩:=aa h;obtain⟨ky,h5,h⟩:=aa h;obtain⟨_,h6,h⟩:=aa h;obtain⟨hz,_⟩:=aZ (aj h6);cases h;obtain⟨e1,m1⟩:=fV (aj h4);dsimp only at e1;subst e1;refine⟨g,s,t,s1,x,h1,λv g1 H1 p1 x1 r1=>⟨g1,s1,_,s2,x1,h2,λw g2 H2 p2 x2 r2=>⟨g2,s2,tk,s3,x2,h3,λu g3 H3 p3 x3 r3=>?_⟩⟩⟩;obtain⟨l,rfl,ha⟩:=r2;obtain⟨Z,l1,vs,q1,o1,hh,hl,rr⟩:=x3.jh hc m1 (bL p3.pre ha);cases q1;obtain⟨Vb,e1,e2,e3⟩:=Nh (k:=ky) hl rr ((r1.mv p2.pre p2.fr).mv p3.pre p3.fr);obtain⟨p4,x4⟩:=x3.yc (c':=.od (bQ z.2.1 z.2.2 ky t).1 (bQ z.2.1 z.2.2 ky t).2) Z m1 o1 ⟨l,Vb,rfl,o1,ai,e2,e3⟩;rw[mq (aj h5) r3];refine⟨l,_,rfl,.k hh ?_,?_⟩
 ·rw[oO,b_,sizeLine_eq]
  have:z.2.1.length<1000000:=hz
  omega
 ·rw[e1]
  exact k σ g3 _ (((p1.trans p2).trans p3).trans p4) x4
def KW{neg:Bool}(hc:B.cn[n]?=none):∀σ H Q,tE B (rH n neg fa fo) σ H Q->LV (Va neg) (tE B fa) (tE B fo) σ H Q:=by
 rintro σ H Q ⟨g,s,t,s',x,h,k⟩
 obtain⟨⟨tx,s1⟩,h1,h⟩:=aa h;obtain⟨⟨ty,s2⟩,h2,h⟩:=aa h;obtain⟨z,h3,h⟩:=aa h;obtain⟨kk,h4,h⟩:=aa h;cases h;obtain⟨e1,m1⟩:=fV (aj h3);dsimp only at e1;subst e1;refine⟨g,s,tx,s1,x,h1,λv g1 H1 p1 x1 r1=>⟨g1,s1,_,s2,x1,h2,λw g2 H2 p2 x2 r2=>?_⟩⟩;obtain⟨l,rfl,ha⟩:=r2;obtain⟨Z,l1,vs,q1,o1,hh,hl,rr⟩:=x2.jh hc m1 ha;cases q1;rw[mq (aj h4) r1];refine⟨l,_,rfl,.k hh,?_⟩;rw[we hl];exact k _ g2 H2 (p1.trans p2) x2 rfl
def Np{op:CmpOp}{neg:Bool}{kk:Nat}(hc:B.cn[n]?=none)(hr:bM kk X.A)(hn:x9 op=some neg)(ha:PE X a (tE B fa))(ho:PE X o (tE B fo))(hm:behindInMarks op o=false):PE X (.Compare a [op] [o] pos) (tE B (rH n neg fa fo)):=
 aP (qM (ud (by have:=hr.units;omega) hn) ha ho hm) (KW hc)
def Nq{op:CmpOp}{neg:Bool}{kk:Nat}(hc:B.cn[n]?=none)(hr:bM kk X.A)(hn:x9 op=some neg)(ha:PE X a (tE B fa))(ho:PE X o (tE B fo))(hm:behindInMarks op o=false):PT X (.Compare a [op] [o] pos) (tT B (bu (rH n neg fa fo))):=
 tG (qN (ud (by have:=hr.units;omega) hn) ha ho hm) λσ H Q q=>KW hc σ H _ (CN q)
theorem rL{al:D2}{HF:Hp}{k:Ky}:∀{ks:List Ky}{ts:FV}{vs:List V},ks.length=vs.length->aB B al HF ts vs->(∀t,dG ks ts k=some t->∃v,jy ((ks.map jS).zip vs) (jS k)=some v/\Rep B al HF t v)/\(dG ks ts k=none->jy ((ks.map jS).zip vs) (jS k)=none)
 |[],ts,[],_,r=>by
  refine⟨λt h=>?_,λ_=>rfl⟩;cases ts<;>cases h
 |[],_,_::_,h,_=>by cases h
 |q::ks,_,[],h,_=>by cases h
 |q::ks,[],u::vs,h,r=>by cases(show u::vs=[]from r)
 |q::ks,t::ts,u::vs,h,r=>by
  obtain⟨u',ik,e,ru,rs⟩:=r;cases e;rw[dZ,jW];by_cases e:q=k
  ·rw[iG (p:=(jS q,u)) (by rw[e])]
   refine⟨λt' h'=>?_,λh'=>?_⟩
   ·rw[dG,if_pos e]at h'
    cases h';exact⟨u,rfl,ru⟩
   ·rw[dG,if_pos e]at h';cases h'
  ·rw[iH (p:=(jS q,u)) (λz=>e (rG z)),dG,if_neg e]
   exact rL (lI.inj h) rs
def Ss{kk:Nat}(hc:B.cn[n]?=none)(hr:bM kk X.A)(ho:PE X o (tE B fo))(hb:PE X b (tE B fb))(hs:Mt b):PE X (.Subscript o b pos) (tE B (dz n fo fb)):=by
 refine aP (GC (by have:=hr.units;omega) ho hb hs) λσ H Q z=>?_
 obtain⟨g,s,t,s',x,h,k⟩:=z;obtain⟨⟨tx,s1⟩,h1,h⟩:=aa h;obtain⟨⟨ty,s2⟩,h2,h⟩:=aa h;obtain⟨z,h3,h⟩:=aa h;obtain⟨ky,h4,h⟩:=aa h;obtain⟨t',h5,h⟩:=aa h;cases h;obtain⟨e1,m1⟩:=fV (aj h3);dsimp only at e1;subst e1;refine⟨g,s,_,s1,x,h1,λv g1 H1 p1 x1 r1=>⟨g1,s1,ty,s2,x1,h2,λw g2 H2 p2 x2 r2=>?_⟩⟩;obtain⟨l,rfl,ha⟩:=r1;obtain⟨Z,l1,vs,q1,o1,hh,hl,rr⟩:=x2.jh hc m1 (bL p2.pre ha);cases q1;obtain⟨v,hv,rv⟩:=(rL (k:=ky) hl rr).1 _ (aj h5);rw[mq (aj h4) r2];exact⟨l,v,rfl,hv▸.k hh,k v g2 H2 (p1.trans p2) x2 rv⟩
def Su{kk:Nat}(hc:B.cn[n]?=none)(hr:bM kk X.A)(ho:PE X o (tE B fo))(hb:PE X b (tE B fb))(hd:PE X f (tE B fc))(m:M2 X o "get" bF b f bP):PE X (.Call (.Attribute o "get" bF) [b,f] [] bP) (tE B (rJ n fo fb fc)):=by
 refine aP (Cr (by have:=hr.units;omega) ho hb hd m) λσ H Q z=>?_
 obtain⟨g,s,t,s',x,h,k⟩:=z;obtain⟨⟨tx,s1⟩,h1,h⟩:=aa h;obtain⟨z0,h2,h⟩:=aa h;obtain⟨⟨ty,s2⟩,h3,h⟩:=aa h;obtain⟨⟨td,s3⟩,h4,h⟩:=aa h;obtain⟨z,h5,h⟩:=aa h;obtain⟨ky,h6,h⟩:=aa h;cases h;obtain⟨e1,m1⟩:=fV (aj h2);obtain⟨e2,m2⟩:=fV (aj h5);dsimp only at e1 e2;subst e1;refine⟨g,s,_,s1,x,h1,λv g1 H1 p1 x1 r1=>?_⟩;obtain⟨l,rfl,ha⟩:=r1;obtain⟨Z1,l1,ĕ,q1,o1,Xc,_⟩:=x1.jh hc m1 ha;cases q1;refine⟨l,rfl,.inl ⟨_,.inl Xc⟩,g1,s1,ty,s2,x1,h3,λw g2 H2 p2 x2 r2=>⟨g2,s2,td,s3,x2,h4,λy g3 H3 p3 x3 r3=>?_⟩⟩;have ek:z.1=z0.1:=by injection e2 with e2;exact e2.symm
 rw[<- ek]at ha;obtain⟨Z,l2,vs,q2,o2,hh,hl,rr⟩:=x3.jh hc m2 (bL p3.pre (bL p2.pre ha));cases q2;rw[mq (aj h6) r2];obtain⟨g4,g5⟩:=rL (k:=ky) hl rr;refine⟨_,.k hh,?_⟩;cases e:dG z.2.1 z.2.2 ky with
 |none=>rw[e]at k;rw[g5 e];exact k _ g3 H3 ((p1.trans p2).trans p3) x3 r3
 |some t'=>
  rw[e]at k;obtain⟨v,hv,rv⟩:=g4 t' e;rw[hv];exact k _ g3 H3 ((p1.trans p2).trans p3) x3 rv
end
section
variable{m:He}{j:Nat}{ob:Ob}{c c':C}{a Ca dx:Addr}{ns:BM}{vs:List V}{w:V}
def fT.one(x:fT B g H m)(hk:m[k]?=some ob)(Z:AL B g H k ob a Ca dx ns vs)(hw:vs[j]?=some w)(sub:aO g'.HF H')(live:∀b p,g'.o b=some p->g'.HF b=none/\∃u,H' b=some u)(fr:aO g.HF g'.HF)(Rl:g'.al=g.al)
  (kk:∀l p,g.o l=some p->p≠.fld k j->(∀i,p≠.loc i)->g'.o l=some p/\H' l=H l) (q:aY B g' H' (.fld k j) c' w):fT B g' H' (m.set k ⟨ob.c,ob.fs.set j c'⟩):=by
 have pre:g.al <+: g'.al:=by rw[Rl];exact d_
 refine⟨sub,live,by rw[fh,Rl];exact x.len,λk' nJ e=>?_⟩
 by_cases ku:k=k'
 ·subst ku
  rw[cj (c_.mp hk).1]at e;cases e;obtain⟨o',h'⟩:=kk a _ Z.o (λz=>by cases z) (λi z=>by cases z)
  refine .inl ⟨a,Ca,dx,ns,vs,bL pre Z.al,o',Z.cl,h'.trans Z.h,Z.le,by rw[fh];exact Z.ln,λj' d e=>?_⟩
  by_cases hj:j=j'
  ·subst hj
   have iB:j<ob.fs.length:=by rw[<- Z.ln];exact(c_.mp hw).1
   have e:(ob.fs.set j c')[j]?=some d:=e;rw[cj iB]at e;cases e;exact⟨w,hw,q⟩
  ·have e:(ob.fs.set j c')[j']?=some d:=e
   rw[cT hj]at e;obtain⟨v,h1,h2⟩:=Z.f j' d e;exact⟨v,h1,h2.mv fr pre λl z=>kk l _ z (λz=>hj (by cases z;rfl)) (λi z=>by cases z)⟩
 ·rw[cT ku]at e
  refine(x.at_ k' nJ e).mv fr pre λl p h hp=>kk l p h ?_ ?_
  ·rcases hp with rfl|⟨j',rfl⟩
   ·exact λz=>by cases z
   ·exact λz=>ku (by cases z;rfl)
  ·rcases hp with rfl|⟨j',rfl⟩
   ·exact λi z=>by cases z
   ·exact λi z=>by cases z
end
def gc(tab:Ap)(f:Nat)(m:He):T->Option (Nat×Ob×Nat×C)
 |.own k=>(m[k]?).bind λob=>(iM tab ob.c f).bind λj=>(ob.fs[j]?).map λc=>(k,ob,j,c)
 |_=>none
def Dh(m:He)(z:Nat×Ob×Nat×C)(c:C):He:=m.set z.1 ⟨z.2.1.c,z.2.1.fs.set z.2.2.1 c⟩
def Nr:C->FX
 |.ol ts=>some (.lst ts)
 |.od ks ts=>some (.iA ks ts)
 |_=>none
def Af(n:Nat)(tab:Ap)(f:Nat)(a:FE):FE:=λs=>(a s).bind λp=>(aT (gc tab f p.2.m p.1)).bind λz=>match z.2.2.2 with
 |.val t=>(match ue n p.2.m t with
  |some y=>(aT (Nr y.2)).bind λu=>.ok (u,{p.2 with m:=Dh (p.2.m.set y.1 ⟨n,[]⟩) z (.val u)})
  |none=>.ok (t,p.2))
 |_=>.bad
def nR(tab:Ap)(f:Nat)(gg:T->T->FX)(o a:FE):FS:=λs=>(o s).bind λp=>(aT (gc tab f p.2.m p.1)).bind λz=>match z.2.2.2 with
 |.val t=>(a p.2).bind λq=>(aT (gc tab f q.2.m p.1)).bind λy=>(aT (gd (y.2.1.c=z.2.1.c) ())).bind λ_=>(aT (gg t q.1)).bind λu=>.ok (.nx,{q.2 with m:=Dh q.2.m y (.val u)})
 |_=>.bad
section
def SR.Hh(O:nF X.K X.mg P){f:Nat}{n:Str}(hf:P.an[f]?=some n)(x:SR (P.kt X) g H σ s){t:T}{z:Nat×Ob×Nat×C}(h:gc P.tab f s.m t=some z){v:V}(r:Rep (P.kt X) g.al g.HF t v) :
  ∃a Ca dx ns vs w,v=.ref a/\AL (P.kt X) g H z.1 z.2.1 a Ca dx ns vs/\s.m[z.1]?=some z.2.1/\vs[z.2.2.1]?=some w/\aY (P.kt X) g H (.fld z.1 z.2.2.1) z.2.2.2 w/\pQ X.K Ca/\eG X.K Ca n/\(ns.zip vs).lookup n=some w:=by
 cases t<;>first|(cases h;done)|skip
 rename_i k;obtain⟨ob,h1,h⟩:=dM.mp (show(s.m[k]?).bind _=some z from h);obtain⟨j,h2,h⟩:=dM.mp h;obtain⟨c,h3,rfl⟩:=cz.mp h;obtain⟨a,rfl,ha⟩:=r;rcases x.st.at_ k ob h1 with⟨a',Ca,dx,ns,vs,Z⟩|⟨a',Z⟩
 case inr=>
  obtain⟨l,q,_⟩:=dM.mp h2;have z:(P.tab.map _)[ob.c]?=none:=Z.nf;rw[fZ,q]at z;cases z
 have:=Z.al.symm.trans ha
 cases this;obtain⟨mm,hm,u_,F⟩:=O.of Z.cl;have hj:=ml hf u_ h2;obtain⟨w,hw,sl⟩:=Z.f j c h3;exact⟨a,Ca,dx,ns,vs,w,rfl,Z,h1,hw,sl,F.cl,F.na _ (jT hj),by rw[gZ F.nd hj,hw]⟩
def SR.Sv{l:Addr}{c:C}{u:HO}(x:SR B g H σ s)(Z:Rk B g H k ⟨n,[c]⟩ l)(hk:s.m[k]?=some ⟨n,[c]⟩)(ho:g.o l=some (.ob k))(hh:H l=some u) :
  ez g H (g.i6 l u) H/\SR B (g.i6 l u) H σ {s with m:=s.m.set k ⟨n,[]⟩}:=by
 have hf:=(x.st.live l _ ho).1;have ne:∀b p,g.o b=some p->p≠.ob k->(g.i6 l u).o b=some p:=λb p hb hp=>by
  have:b≠l:=λe=>hp (by rw[e,ho]at hb;cases hb;rfl)
  show(if b=l then none else g.o b)=_
  rw[if_neg this];exact hb
 refine⟨rf ho hf,⟨⟨λb w e=>?_,λb q e=>?_,by show(s.m.set k _).length=_;rw[fh];exact x.st.len,λk' pC e=>?_⟩,x.lc.len,λi d e=>?_⟩⟩
 ·have e:upd g.HF l u b=some w:=e
  by_cases hb:b=l
  ·subst hb;rw[ai]at e;cases e;exact hh
  ·rw[aq hb]at e;exact x.sub _ _ e
 ·have e:(if b=l then none else g.o b)=some q:=e
  by_cases hb:b=l
  ·rw[if_pos hb]at e;cases e
  ·rw[if_neg hb]at e
   obtain⟨h1,h2⟩:=x.st.live b q e;exact⟨by show upd g.HF l u b=none;rw[aq hb];exact h1,h2⟩
 ·have e:(s.m.set k ⟨n,[]⟩)[k']?=some pC:=e
  by_cases ku:k=k'
  ·subst ku
   rw[cj (c_.mp hk).1]at e;cases e;exact .inr ⟨l,Z.al,Z.nc,Z.nf,λd z=>by cases z⟩
  ·rw[cT ku]at e
   refine(x.st.at_ k' pC e).mv (g':=g.i6 l u) (aX hf) d_ λb q h hq=>⟨ne b q h ?_,rfl⟩;rcases hq with rfl|⟨j,rfl⟩
   ·exact λz=>ku (by cases z;rfl)
   ·exact λz=>by cases z
 ·obtain⟨v,h1,h2⟩:=x.lc.at_ i d e
  exact⟨v,h1,nq (q:=.loc i) ho hf (λz=>by cases z) h2⟩
def SR.Xd{z:Nat×Ob×Nat×C}{c':C}{a Ca dx:Addr}{ns:BM}{vs:List V}{w:V}(x:SR B g H σ s)(hk:s.m[z.1]?=some z.2.1)(Z:AL B g H z.1 z.2.1 a Ca dx ns vs)(hw:vs[z.2.2.1]?=some w)(q:aY B g H (.fld z.1 z.2.2.1) c' w):SR B g H σ {s with m:=Dh s.m z c'}:=
 ⟨x.st.one hk Z hw x.st.sub x.st.live (aO.refl _) rfl (λ_ _ h _ _=>⟨h,rfl⟩) q,x.lc⟩
def qk{tab:Ap}{f:Nat}{m:He}{t:T}{z:Nat×Ob×Nat×C}(h:gc tab f m t=some z):t=.own z.1/\m[z.1]?=some z.2.1/\iM tab z.2.1.c f=some z.2.2.1/\z.2.1.fs[z.2.2.1]?=some z.2.2.2:=by
 cases t<;>first|(cases h;done)|skip
 rename_i k;obtain⟨ob,h1,h⟩:=dM.mp (show(m[k]?).bind _=some z from h);obtain⟨j,h2,h⟩:=dM.mp h;obtain⟨c,h3,rfl⟩:=cz.mp h;exact⟨rfl,h1,h2,h3⟩
def yd{l:Addr}{c:C}{u:T}(h:Nr c=some u)(q:aY B g H (.ob k) c (.ref l))(lv:g.HF l=none):∃hu,g.o l=some (.ob k)/\H l=some hu/\Rep B (g.i6 l hu).al (g.i6 l hu).HF u (.ref l):=by
 cases c<;>first|(cases h;done)|skip
 ·cases h
  obtain⟨l',vs,e,ho,hh,r⟩:=q;cases e;exact⟨_,ho,hh,l,vs,rfl,ai,r.mv d_ (aX lv)⟩
 ·cases h
  obtain⟨l',vs,e,ho,hh,hl,r⟩:=q;cases e;exact⟨_,ho,hh,l,vs,rfl,ai,hl,r.mv d_ (aX lv)⟩
def Nt(O:nF X.K X.mg P){f:Nat}{nm:Str}(hc:P.cn[n]?=none)(hf:P.an[f]?=some nm)(he:PE X e (tE (P.kt X) fa))(hb:bB e=true):PE X (.Attribute e nm pos) (tE (P.kt X) (Af n P.tab f fa)):=by
 refine aP (BU he (fJ hb)) λσ H Q z=>?_;obtain⟨g,s,t,s',x,h,k⟩:=z;obtain⟨⟨tx,s1⟩,h1,h⟩:=aa h;obtain⟨z,h2,h⟩:=aa h;have hz:=aj h2;refine⟨g,s,_,s1,x,h1,λv g1 H1 p1 x1 r1=>?_⟩;obtain⟨a,Ca,dx,ns,vs,w,rfl,Z,hk,hw,sl,cl,na,lk⟩:=x1.Hh O hf hz r1;refine⟨a,Ca,dx,_,w,rfl,Z.h,cl,na,lk,?_⟩;obtain⟨k0,ob,j,c⟩:=z;cases c<;>first|(cases h;done)|skip
 rename_i tv;dsimp only at h;cases hb:ue n s1.m tv with
 |none=>
  rw[hb]at h;cases h;exact k w g1 H1 p1 x1 sl
 |some y=>
  rw[hb]at h;obtain⟨u,h3,h⟩:=aa h;cases h;obtain⟨e1,m1⟩:=nO hb;subst e1;obtain⟨l,rfl,ha⟩:=sl;obtain⟨ZB,qB⟩:=x1.jh hc m1 ha;have ė:g1.HF l=none:=by
   have h3:=aj h3;obtain⟨kb,cb⟩:=y;cases cb<;>first|(cases h3;done)|skip
   ·obtain⟨l',_,e,ho,_⟩:=qB
    cases e;exact(x1.st.live l _ ho).1
   ·obtain⟨l',_,e,ho,_⟩:=qB
    cases e;exact(x1.st.live l _ ho).1
  obtain⟨hu,ho,hh,ru⟩:=yd (aj h3) qB ė;obtain⟨p2,x2⟩:=x1.Sv ZB m1 ho hh;obtain⟨e0,e1,e2,e3⟩:=qk hz;dsimp only at e0 e1 e2 e3;have ku:y.1≠k0:=λz=>by
   rw[z,e1]at m1;cases m1;obtain⟨l,q,_⟩:=dM.mp e2;obtain⟨mm,q2,_⟩:=Z.cl;rw[hc]at q2;cases q2
  have Zi:(s1.m.set y.1 ⟨n,[]⟩)[k0]?=some ob:=by rw[cT ku];exact e1
  have Ę:gc P.tab f (s1.m.set y.1 ⟨n,[]⟩) tx=some (k0,ob,j,.val (.own y.1)):=by
   rw[e0];show((s1.m.set y.1 ⟨n,[]⟩)[k0]?).bind _=_;rw[Zi];show(iM P.tab ob.c f).bind _=_;rw[e2];show(ob.fs[j]?).map _=_;rw[e3];rfl
  obtain⟨a',Ca',UN,E6,ik,w',e4,Z',ę,Ě,UH,_⟩:=x2.Hh O hf Ę (r1.mv p2.pre p2.fr);obtain⟨l',e5,UU⟩:=UH
  have:l=l':=by
   have q:=bL p2.pre ha;rw[q]at UU;exact jX.inj UU
  subst this;subst e5;exact k _ _ H1 (p1.trans p2) (x2.Xd ę Z' Ě (c':=.val _) ru) ru
def Ag{t u w:T}(h:fD t u=some w):∃i j,t=.int i/\u=.int j/\w=.int (i+j):=by
 cases t<;>first|(cases h;done)|(cases u<;>first|(cases h;done)|(cases h;exact⟨_,_,rfl,rfl,rfl⟩))
def Sw(O:nF X.K X.mg P){f:Nat}{nm:Str}(hf:P.an[f]?=some nm)(ho:PE X o (tE (P.kt X) fo))(he:PE X e (tE (P.kt X) fa)):PS X (.AugAssign (.Attribute o nm bU) .Add e pos) (tS (P.kt X) (nR P.tab f fD fo fa)):=by
 refine c9 (zN ho he Ma) λD σ H z=>?_;obtain⟨g,s,oo,s',x,h,k⟩:=z;obtain⟨⟨tx,s1⟩,h1,h⟩:=aa h;obtain⟨z,h2,h⟩:=aa h;have hz:=aj h2;refine⟨g,s,_,s1,x,h1,λv g1 H1 p1 x1 r1=>?_⟩;obtain⟨a,Ca,dx,ns,vs,w,rfl,Z,hk,hw,sl,cl,na,lk⟩:=x1.Hh O hf hz r1;refine⟨a,Ca,dx,_,w,rfl,Z.h,cl,na,lk,?_⟩;obtain⟨k0,ob,j,c⟩:=z;cases c<;>first|(cases h;done)|skip
 rename_i tv;obtain⟨⟨ty,s2⟩,h3,h⟩:=aa h;obtain⟨y,h4,h⟩:=aa h;obtain⟨_,h5,h⟩:=aa h;obtain⟨O7,_⟩:=aZ (aj h5);obtain⟨u,h6,h⟩:=aa h;cases h;have h6:=aj h6;obtain⟨i,j',rfl,rfl,rfl⟩:=Ag h6;cases(show w=V.int i from sl);refine⟨g1,s1,_,s2,x1,h3,λw2 g2 H2 p2 x2 r2=>?_⟩;cases(show w2=V.int j' from r2);refine⟨_,_,rfl,rfl,?_⟩;have hy:=aj h4;obtain⟨a2,Ca2,ě,ns2,Vb,w3,e4,Z2,Zi,hw2,_,_⟩:=x2.Hh O hf hy (r1.mv p2.pre p2.fr);cases e4;obtain⟨k2,pC,j2,c2⟩:=y;have O7:pC.c=ob.c:=O7;have ec:=Z2.cl;rw[O7]at ec;obtain⟨rfl,rfl⟩:=ec.eq Z.cl;obtain⟨e0,e1,e2,e3⟩:=qk hy;have hp:cX P.tab f (.val (.int (i+j'))) pC=some ⟨pC.c,pC.fs.set j2 (.val (.int (i+j')))⟩:=by
  unfold cX;rw[e2];show(setAt pC.fs j2 _).map _=_;unfold setAt;rw[if_pos (c_.mp e3).1];rfl
 obtain⟨_,_,hl,ik,e5,p3,x3⟩:=xV O hf x2 Z2 e1 hp (v:=.int (i+j')) λj=>rfl;refine⟨ě,_,Z2.h,hl,?_⟩;rw[e5];exact k σ g2 _ ((p1.trans p2).trans p3) x3
end
def Vc(c:FT)(a b:FL):FL:=λs=>(c s).bind λp=>if p.1 then a p.2 else b p.2
def Xe:T->FR
 |.tup ts=>some ts
 |.lst ts=>some ts
 |_=>none
def o1(g:T->FR)(a:FE):FL:=λs=>(a s).bind λp=>(aT (g p.1)).bind λts=>.ok (ts,p.2)
def Nu:T->T->FR
 |.lst a,.int k=>gd (k<1000000/\-1000000<k/\a.length*k.toNat<=1000000) (bX k.toNat a).flatten
 |_,_=>none
def Hi:T->T->FR
 |.lst a,.lst b=>gd (a.length+b.length<=1000000) (a++b)
 |_,_=>none
def o2(g:T->T->FR)(a b:FE):FL:=λs=>(a s).bind λp=>(b p.2).bind λq=>(aT (g p.1 q.1)).bind λts=>.ok (ts,q.2)
def Di:T->FR
 |.int j=>gd (0<=j/\j<1000000) (i0 0 j.toNat)
 |_=>none
def Ah:FV->FR
 |[.int i,.int j,.int k]=>gd (j=-1/\k=-1/\-1<=i/\i<1000000) ((cP (i+1).toNat).map λk=>.int (i-(k:Nat)))
 |_=>none
def Nv:T->FR
 |.lst ts=>some ts.reverse
 |_=>none
def isSlice:Expr->Bool
 |.Slice _ _ _ _=>true
 |_=>false
def Ĝ(i:Nat)(b a:FE):FS:=λs=>match W_ i s with
 |true=>cU i b a s
 |false=>So i b a s
section
variable{gl:FL}{ft:FT}
def Sx(hc:PT X c (tT B ft))(ha:PE X a (tO B fl))(hb:PE X b (tO B gl)):PE X (.IfExp c a b pos) (tO B (Vc ft fl gl)):=aP (sN hc ha hb) λσ H Q z=>by
 obtain⟨g,s,t,s',x,h,k⟩:=z;obtain⟨⟨d,s1⟩,h1,h⟩:=aa h;refine⟨g,s,d,s1,x,h1,λg1 H1 p1 x1=>?_⟩;cases d with
 |true=>exact qX ⟨g1,s1,_,_,x1,h,λl vs g2 H2 p2 x2 n0=>k l vs g2 H2 (p1.trans p2) x2 (p1.there l n0)⟩
 |false=>exact qW ⟨g1,s1,_,_,x1,h,λl vs g2 H2 p2 x2 n0=>k l vs g2 H2 (p1.trans p2) x2 (p1.there l n0)⟩
def Sy(hB:B.K=X.K)(hm:X.mg "list" = none)(hg:Gl X "list")(ha:PE X a (tE B fa))(hs:noStar a=true):PE X (.Call (.Name "list" p) [a] [] pos) (tO B (o1 Xe fa)):=by
 refine aP (gC gU hg hm zp (aV ha cu (ao hs)) (by decide) (by decide) (ao hs) rfl) λσ H Q z=>?_
 obtain⟨g,s,t,s',x,h,k⟩:=z;obtain⟨⟨tx,s1⟩,h1,h⟩:=aa h;obtain⟨ts,h2,h⟩:=aa h;cases h;have h2:=aj h2;refine⟨g,s,tx,s1,x,h1,λv g1 H1 p1 x1 r1=>?_⟩;have main:∀{xs:List V},aB B g1.al g1.HF t xs->∀l,H1 l=none->Q (.ref l) (upd H1 l (.lst xs)):=λ{xs} r l hl=>by
  obtain⟨gr,n1,n2⟩:=lV (u:=.lst xs) x1 hl;exact k l xs _ _ (p1.trans (x1.kr gr)) (x1.grow gr) (p1.there l hl) n1 n2 ai r
 cases tx<;>first|(cases h2;done)|skip
 ·cases h2
  obtain⟨l,xs,rfl,q,r⟩:=r1;exact⟨l,xs,rfl,.inr (hB▸cY x1.sub q),main r⟩
 ·cases h2
  obtain⟨l,xs,rfl,q,r⟩:=r1;exact⟨l,xs,rfl,.inl (cJ.of (x1.sub _ _ q)),main r⟩
def Nx(ha:PE X a (tE B fa))(hb:PE X b (tE B fb)):PE X (.BinOp a .Mult b pos) (tO B (o2 Nu fa fb)):=by
 refine aP (mH Cd ha hb) λσ H Q z=>?_;obtain⟨g,s,t,s',x,h,k⟩:=z;obtain⟨⟨tx,s1⟩,h1,h⟩:=aa h;obtain⟨⟨ty,s2⟩,h2,h⟩:=aa h;obtain⟨ts,h3,h⟩:=aa h;cases h;have h3:=aj h3;refine⟨g,s,tx,s1,x,h1,λv g1 H1 p1 x1 r1=>⟨g1,s1,ty,s2,x1,h2,λw g2 H2 p2 x2 r2=>?_⟩⟩;cases tx<;>first|(cases h3;done)|(cases ty<;>first|(cases h3;done)|skip)
 obtain⟨c,rfl⟩:=aZ h3;obtain⟨l,xs,rfl,q,r⟩:=r1.mv p2.pre p2.fr;refine⟨l,_,xs,rfl,r2,x2.sub _ _ q,by omega,by omega,by rw[<- r.len,sizeLine_eq];omega,λp hp=>?_⟩
 obtain⟨gr,n1,n2⟩:=lV (u:=.lst (bX _ xs).flatten) x2 hp;exact k p _ _ _ ((p1.trans p2).trans (x2.kr gr)) (x2.grow gr) (p1.there p (p2.there p hp)) n1 n2 ai (r.flat _)
def Ny(ha:PE X a (tE B fa))(hb:PE X b (tE B fb)):PE X (.BinOp a .Add b pos) (tO B (o2 Hi fa fb)):=by
 refine aP (mH Cc ha hb) λσ H Q z=>?_;obtain⟨g,s,t,s',x,h,k⟩:=z;obtain⟨⟨tx,s1⟩,h1,h⟩:=aa h;obtain⟨⟨ty,s2⟩,h2,h⟩:=aa h;obtain⟨ts,h3,h⟩:=aa h;cases h;have h3:=aj h3;refine⟨g,s,tx,s1,x,h1,λv g1 H1 p1 x1 r1=>⟨g1,s1,ty,s2,x1,h2,λw g2 H2 p2 x2 r2=>?_⟩⟩;cases tx<;>first|(cases h3;done)|(cases ty<;>first|(cases h3;done)|skip)
 obtain⟨c,rfl⟩:=aZ h3;obtain⟨l,xs,rfl,q,r⟩:=r1.mv p2.pre p2.fr;obtain⟨m,ys,rfl,q',r'⟩:=r2;refine⟨l,m,xs,ys,rfl,rfl,x2.sub _ _ q,x2.sub _ _ q',by rw[<- r.len,<- r'.len,sizeLine_eq];omega,λp hp=>?_⟩
 obtain⟨gr,n1,n2⟩:=lV (u:=.lst (xs++ys)) x2 hp;exact k p _ _ _ ((p1.trans p2).trans (x2.kr gr)) (x2.grow gr) (p1.there p (p2.there p hp)) n1 n2 ai (r.app r')
def Hj{t:T}{ts:FV}(h:Di t=some ts):∃j,t=.int j/\(0<=j/\j<1000000)/\ts=i0 0 j.toNat:=by
 cases t<;>first|(cases h;done)|skip
 obtain⟨c,rfl⟩:=aZ h;exact⟨_,rfl,c,rfl⟩
def KY(hc:X.calm=true)(Xf:X.mg "list" = none)(Sz:X.mg "range" = none)(Xg:Gl X "list")(SA:Gl X "range")(ha:PE X a (tE B fa)){p1 nN:Pos}(hs:noStar a=true) :
  PE X (.Call (.Name "list" p) [.Call (.Name "range" p1) [a] [] nN] [] pos) (tO B (o1 Di fa)):=by
 refine aP (gC (o8 hc) Xg Xf zp (aV (gC zZ SA Sz PyProof.Rows.boot_range (aV ha cu (ao hs)) (by decide) (by decide) (ao hs) rfl) cu (ao rfl)) (by decide) (by decide) (ao rfl) rfl) λσ H Q z=>?_
 obtain⟨g,s,t,s',x,h,k⟩:=z;obtain⟨⟨tx,s1⟩,h1,h⟩:=aa h;obtain⟨ts,h2,h⟩:=aa h;cases h;have h2:=aj h2;obtain⟨j,rfl,c,rfl⟩:=Hj h2;refine⟨g,s,_,s1,x,h1,λv g1 H1 p1 x1 r1=>?_⟩;cases r1;refine⟨j,rfl,λq hq=>⟨q,j,rfl,ai,c.1,by omega,λl hl=>?_⟩⟩
 obtain⟨gr,n1,n2⟩:=lV (u:=.i0 0 j) x1 hq;have x2:=x1.grow gr;obtain⟨Zj,n3,n4⟩:=lV (u:=.lst ((cP j.toNat).map λk=>V.int (k:Nat))) x2 hl;have Gb:l≠q:=(aL ai hl).symm;have Vd:H1 l=none:=by rw[aq Gb]at hl;exact hl
 have e:((cP j.toNat).map λk=>V.int (k:Nat))=(cP j.toNat).map λk=>V.int (0+((k:Nat):Int)):=by
  apply vq;intro k _;rw[zm]
 refine k l _ _ _ ((p1.trans (x1.kr gr)).trans (x2.kr Zj)) (x2.grow Zj) (p1.there l Vd) n3 n4 ai ?_;rw[e];exact aB.i0 0 _
theorem aB.rev{al:D2}{H:Hp}:∀{ts:FV}{vs:List V},aB B al H ts vs->aB B al H ts.reverse vs.reverse
 |[],_,h=>by have h:_=[]:=h;subst h;rfl
 |t::ts,_,h=>by
  obtain⟨v,r,rfl,h1,h2⟩:=h;rw[xh,xh];exact h2.rev.app (.one h1)
def Hk{a b c:T}{ts:FV}(h:Ah [a,b,c]=some ts):∃i,a=.int i/\b=.int (-1)/\c=.int (-1)/\-1<=i/\i<1000000/\ts=(cP (i+1).toNat).map λk=>.int (i-(k:Nat)):=by
 cases a<;>first|(cases h;done)|(cases b<;>first|(cases h;done)|(cases c<;>first|(cases h;done)|skip))
 obtain⟨⟨rfl,rfl,h1,h2⟩,rfl⟩:=aZ h;exact⟨_,rfl,rfl,rfl,h1,h2,rfl⟩
def Nz(hg:Gl X "range")(hm:X.mg "range" = none)(ha:PE X a (tE B fa))(hb:PE X b (tE B fb))(hc:PE X c (tE B fc))(hs:[a,b,c].all noStar=true):PI X tg (.Call (.Name "range" p) [a,b,c] [] pos) (tI B (vR Ah (bH fa (bH fb (bH fc ba))))):=by
 simp only[eU,Jz,Bv,dh]at hs;obtain⟨k1,k2,k3⟩:=hs;have e3:starEach [c] X.env=[(false,eval c X.env)]:=ao k3;have e2:starEach [b,c] X.env=[(false,eval b X.env),(false,eval c X.env)]:=by rw[ao k2,e3]
 have e1:starEach [a,b,c] X.env=[(false,eval a X.env),(false,eval b X.env),(false,eval c X.env)]:=by rw[ao k1,e2]
 refine k8 (Gv hg hm (aV ha (aV hb (aV hc cu (ao k3)) (ao k2)) (ao k1)) e1 e2) λσ H R z=>?_;obtain⟨g,s,t,s',x,h,k⟩:=z;obtain⟨⟨ts,s1⟩,h1,h⟩:=aa h;obtain⟨us,h2,h⟩:=aa h;cases h;obtain⟨⟨tx,s2⟩,h3,h1⟩:=aa h1;obtain⟨⟨ty,s3⟩,h4,h1⟩:=aa h1;cases h1;obtain⟨⟨tz,s4⟩,h5,h4⟩:=aa h4;obtain⟨⟨tw,s5⟩,h6,h4⟩:=aa h4;cases h4;obtain⟨⟨tv,s6⟩,h7,h6⟩:=aa h6;cases h6;obtain⟨i,rfl,rfl,rfl,l1,l2,rfl⟩:=Hk (aj h2);refine⟨g,s,_,_,x,h3,λv g1 H1 p1 x1 r1=>⟨g1,_,_,_,x1,h5,λw g2 H2 p2 x2 r2=>⟨g2,_,_,_,x2,h7,λu g3 H3 p3 x3 r3=>?_⟩⟩⟩;cases r1;cases r2;cases r3;exact⟨_,rfl,l1,by omega,k _ g3 H3 ((p1.trans p2).trans p3) x3 (j9 (C7 _ _) (aB.ċ _ _))⟩
def SD(hg:Gl X "reversed")(hm:X.mg "reversed" = none)(ha:PE X a (tE B fa))(hs:noStar a=true):PI X tg (.Call (.Name "reversed" p) [a] [] pos) (tI B (o1 Nv fa)):=by
 have h0:starEach [a] X.env=[(false,eval a X.env)]:=ao hs;refine k8 (Mn hg hm (aV ha cu h0) h0) λσ H R z=>?_;obtain⟨g,s,t,s',x,h,k⟩:=z;obtain⟨⟨tx,s1⟩,h1,h⟩:=aa h;obtain⟨ts,h2,h⟩:=aa h;cases h;have h2:=aj h2;cases tx<;>first|(cases h2;done)|skip
 cases h2;refine⟨g,s,_,s1,x,h1,λv g1 H1 p1 x1 r1=>?_⟩;obtain⟨l,vs,rfl,q,r⟩:=r1;refine⟨l,vs,rfl,cJ.of (x1.sub _ _ q),k _ g1 H1 p1 x1 ⟨λi H1 s1 hi=>?_,λi H1 x H2 s1 hi y=>?_,λi H1 s1 hi=>?_⟩⟩
 ·rw[Bb,r.len]at hi
  exact⟨hi,cJ.of (s1 _ _ q)⟩
 ·rw[Bb,r.len]at hi
  obtain⟨rfl,e⟩:=y;have e':vs.reverse[i]?=some x:=by rw[JA hi];exact e
  obtain⟨t,e1,e2⟩:=r.rev.vS e';exact⟨t,e1,λtZ s2 s3=>⟨tZ,.refl s3,e2.same s2⟩⟩
 ·rw[Bb,r.len]at hi
  exact hi
def SE{py zX:Pos}(hb:PE X b (tE B fb))(he:PE X e (tE B fa))(hN:X.N[i]?=some y)(hv:xo X.env.scope y)(hd:df y)(pO:kB y)(hs:swapsWith e (some (.Subscript (.Name y py) b zX)) pos.line X.env=pure false)(W0:isSlice b=false) :
  PS X (.Assign [.Subscript (.Name y py) b zX] e pos) (tS B (cU i fb fa)):=by
 refine c9 (LO he (LL (gj hN hv hd pO) hb set_list λv=>?_) hs rfl rfl) λD σ H z=>?_
 ·cases b<;>first|rfl|(cases W0)
 obtain⟨g,s,oo,s',x,h,k⟩:=z;obtain⟨⟨t,s1⟩,h1,h⟩:=aa h;obtain⟨KZ,h2,h⟩:=aa h;obtain⟨⟨tk,s2⟩,h3,h⟩:=aa h;obtain⟨ts,h4,h⟩:=aa h;obtain⟨j,h5,h⟩:=aa h;obtain⟨us,h6,h⟩:=aa h;obtain⟨⟨z1,z2⟩,rfl⟩:=aZ (aj h6);cases h;have ej:tk=.int j:=xQ (aj h5);subst ej;refine⟨g,s,t,s1,x,h1,λv g1 H1 p1 x1 r1=>?_⟩;obtain⟨l,vs,w1,w2,w3,w4⟩:=x1.wa (g_ (aj h2));refine⟨_,w1,g1,s1,_,s2,x1,h3,λu g2 H2 p2 x2 r2=>?_⟩;have ho:=g_ (aj h4);obtain⟨l',ik,q1,q2,q3,q4⟩:=x2.wa ho;rw[w1]at q1;cases q1;cases r2;obtain⟨x3,p3⟩:=x2.chg ho w1 (q4.set (r1.mv p2.pre p2.fr) j.toNat);have hl:ts.length=ik.length:=q4.len;refine⟨l,ik,j,j.toNat,rfl,rfl,q3,?_,k σ g2 _ ((p1.trans p2).trans p3) x3⟩;unfold Gh;rw[if_pos z1,if_pos (by omega)]
end
def hU:Expr->Option Const
 |.Constant c _ _=>some c
 |_=>none
def Dj(e:Expr):Option Str:=match hU e with
 |some (.str x)=>some x
 |_=>none
section
def Hl:∀{aE:List (Key×V)}{k:Key}{v:V},k∉aE.map (·.1)->L2.putK aE k v=aE++[(k,v)]:=by
 intro aE k v h;unfold L2.putK;split
 ·rename_i z
  exfalso;obtain⟨q,h1,h2⟩:=Bk.mp z;exact h (jc.mpr ⟨q,h1,of_decide_eq_true h2⟩)
 ·rfl
theorem qm:∀{more aE:List (Key×V)},((aE++more).map (·.1)).Nodup->jz aE more=aE++more
 |[],aE,_=>by rw[dc];rfl
 |p::more,aE,h=>by
  have e:aE++p::more=(aE++[p])++more:=by simp
  have h':=h;rw[e]at h';have hn:p.1∉aE.map (·.1):=λz=>by
   rw[jv,Bo]at h;exact h.2.2 _ z _ (jc.mpr ⟨p,fY ..,rfl⟩) rfl
  show jz (L2.putK aE p.1 p.2) more=_;rw[Hl hn,qm h',e]
def i9{q}(h:hU e=some q):∃k p,e=.Constant q k p:=by
 cases e<;>first|(cases h;done)|(cases h;exact⟨_,_,rfl⟩)
def str_inv(h:Dj e=some x):∃kk p,e=.Constant (.str x) kk p:=by
 unfold Dj at h;cases hc:hU e with
 |none=>rw[hc]at h;cases h
 |some c=>
  rw[hc]at h;cases c<;>first|(cases h;done)|skip
  cases h;exact i9 hc
def Hm(x:Str):(⟨x.cps.toList.toArray⟩:Str)=x:=by obtain⟨⟨l⟩⟩:=x;rfl
theorem qo:∀{l:BM},l.Nodup->(l.map (λx=>(.inr x:Key))).Nodup
 |[],_=>.nil
 |x::l,h=>by
  rw[lK]at h;rw[dZ,lK];refine⟨λz=>?_,qo h.2⟩;obtain⟨y,h1,h2⟩:=jc.mp z;injection h2 with h2
  exact h.1 (h2▸h1)
end
def lh(n:Nat)(o:FE):FE:=λs=>(o s).bind λp=>(aT (kL n p.2.m p.1)).bind λz=>.ok (.int z.2.length,p.2)
def nS(n:Nat)(o:FE):FE:=λs=>(o s).bind λp=>(aT (kL n p.2.m p.1)).bind λz=>match z.2 with
 |t::ts=>.ok (t,setB n p.2 z.1 (.ol ts))
 |[]=>.bad
def Dk(n:Nat)(o:FE)(lo hi:FO):FE:=λs=>(o s).bind λp=>(lo p.2).bind λq=>(hi q.2).bind λw=>(aT (kL n w.2.m p.1)).bind λz=>.ok (.lst (cA z.2 q.1 w.1),w.2)
section
variable{Pj Pk:Option Expr}{p2:Pos}{Pf Ph:FO}
def NB(hc:B.cn[n]?=none)(ho:PE X o (tE B fo))(hs:noStar o=true)(hg:Gl X "len")(hm:X.mg "len" = none):PE X (.Call (.Name "len" p) [o] [] pos) (tE B (lh n fo)):=by
 refine aP (gB mK hg hm PySem.boot_len (aV ho cu (ao hs)) (he:=ao hs) (hpl:=rfl)) λσ H Q z=>?_;obtain⟨g,s,t,s',x,h,k⟩:=z;obtain⟨⟨tx,s1⟩,h1,h⟩:=aa h;obtain⟨z,h2,h⟩:=aa h;cases h;obtain⟨e1,m1⟩:=e7 (aj h2);dsimp only at e1;subst e1;refine⟨g,s,_,s1,x,h1,λv g1 H1 p1 x1 r1=>?_⟩;obtain⟨l,rfl,ha⟩:=r1;obtain⟨Z,l1,vs,q1,o1,hh,rr⟩:=x1.jh hc m1 ha;cases q1;exact⟨_,_,rfl,.inl ⟨vs,cJ.of hh,rr.len⟩,k _ g1 H1 p1 x1 rfl⟩
def NC{c:Nat}{kp:Pos}(hc:B.cn[n]?=none)(ho:PE X o (tE B fo))(hb:bB o=true)(gD:(bF.endLine == bP.line)=true):PE X (.Call (.Attribute o "pop" bF) [.Constant (.int 0) c kp] [] bP) (tE B (nS n fo)):=by
 refine aP (xE PySem.F.plainAttrs_list PySem.F.slot_list_pop PySem.F.type_list_pop Cb ho (aV BG cu rfl) (fJ hb) (o_ rfl (by decide)) gD rfl rfl) λσ H Q z=>?_
 obtain⟨g,s,t,s',x,h,k⟩:=z;obtain⟨⟨tx,s1⟩,h1,h⟩:=aa h;obtain⟨⟨kb,ts⟩,h2,h⟩:=aa h;obtain⟨e1,m1⟩:=e7 (aj h2);dsimp only at e1 m1;subst e1;dsimp only at h;cases ts with
 |nil=>cases h
 |cons t0 ts=>
  cases h;refine⟨g,s,_,s1,x,h1,λv g1 H1 p1 x1 r1=>?_⟩;obtain⟨l,rfl,ha⟩:=r1;obtain⟨Z,l1,vs,q1,o1,hh,rr⟩:=x1.jh hc m1 ha;cases q1;obtain⟨v0,ik,rfl,r0,rr⟩:=rr;refine⟨.inl ⟨rfl,_,cJ.of hh⟩,l,_,0,0,v0,rfl,rfl,hh,by decide,by decide,by simp[seqIndex?],rfl,?_⟩
  obtain⟨p3,x3⟩:=x1.yc (c':=.ol ts) (u:=.lst ik) Z m1 o1 ⟨l,ik,rfl,o1,ai,rr⟩;exact k v0 g1 _ (p1.trans p3) x3 r0
def SG(hc:B.cn[n]?=none)(ho:PE X o (tE B fo))(hl:PO X Pj (tP B Pf))(hh:PO X Pk (tP B Ph)):PE X (.Subscript o (.Slice Pj Pk none p2) pos) (tE B (Dk n fo Pf Ph)):=by
 refine aP (sU RQ ho hl hh) λσ H Q z=>?_;obtain⟨g,s,t,s',x,h,k⟩:=z;obtain⟨⟨tx,s1⟩,h1,h⟩:=aa h;obtain⟨⟨lo,s2⟩,h2,h⟩:=aa h;obtain⟨⟨hi,s3⟩,h3,h⟩:=aa h;obtain⟨⟨kb,ts⟩,h4,h⟩:=aa h;cases h;obtain⟨e1,m1⟩:=e7 (aj h4);dsimp only at e1 m1;subst e1;refine⟨g,s,_,s1,x,h1,λv g1 H1 p1 x1 r1=>⟨g1,s1,_,s2,x1,h2,λg2 H2 p2 x2=>⟨g2,s2,_,_,x2,h3,λg3 H3 p3 x3=>?_⟩⟩⟩;obtain⟨l,rfl,ha⟩:=r1;obtain⟨Z,l1,vs,q1,o1,hh,rr⟩:=x3.jh hc m1 (bL p3.pre (bL p2.pre ha));cases q1;refine .inr ⟨l,vs,rfl,cJ.of hh,λq hq=>?_⟩;rw[rq];have gr:=Gr.new (o:=.lst (cA vs lo hi)) x3.sub hq;exact k _ _ _ (((p1.trans p2).trans p3).trans (x3.kr gr)) (x3.grow gr) ⟨q,_,rfl,ai,(rr.cut _ _).same gr.fr⟩
end
section
variable{td:TE}{body:Fs}
end
section
variable{body:Fs}
end
end D
namespace PySem
open Sem (wp)
section
variable{prog:Program}{w:World}{A:Around}{E:Value->Shared->Prop}{s:Shared}{I:Addr}{fp wr:D2}{G:Array GenState->Array GenState->Prop}{n:Nat}{P:Nat->Value->Prop}{St:Nat->Shared->Prop}{T:String}
structure ye(prog:Program)(w:World)(A:Around)(I:Addr)(T:String)(St:Nat->Shared->Prop):Prop where
 type:∀i s,St i s->s.TypeIs (.ref I) T
 notList:(Value.type T == Value.type "list")=false
 notTuple:(Value.type T == Value.type "tuple")=false
 hint:∀(s:Shared)(Q:Bool->Shared->Prop)(E:Value->Shared->Prop),St 0 s->(∀b tk,s.toks<=tk->Q b {s with toks:=tk})->wpAny (model prog w) A (Builtin.List.listLengthHint (.ref I)) Q E s
def wg{R:Result->Shared->Prop}(W:WalksS prog w A.in1 I fp wr G n P St)(K:ye prog w A.in1 I T St)(AH:St 0 s)(hn:n<=sizeLine)(S:Addr)(ve:S∉fp)(SH:S≠I)(res:Value)(c₀:Nat)(hS:s.heap.get? S=some {cls:=.type "list",data:=.seq #[] c₀})
  (hR:∀s' nT c',Moved (S::wr) G s s'->s'.heap.get? S=some {cls:=.type "list",dict:=none,data:=.seq nT c',slots:=#[]}->ItemsOf P nT n->R (.ok (.ret res)) s') :
  wpAny (model prog w) A.in1 (Builtin.List.listExtendWith (.ref S) (.ref I) res)
   (λfin s'=>match fin with|.done f=>R (.ok f) s'|.again c'=>c'.quiet=true/\codeAny (model prog w) A c' R s') (λe s'=>R (.error e) s') s:=by
 have key:∀(h:Heap)(c₁ tk:Nat),s.toks<=tk->(∀b o,b≠S->s.heap.get? b=some o->h.get? b=some o) ->
   h.get? S=some {cls:=.type "list",data:=.seq #[] c₁}->codeAny (model prog w) A (.builtin "list.extend.loop" ⟨[.ref S,.ref I,res],[]⟩) R {s with heap:=h,toks:=tk}:=by
  intro h c₁ tk ht hk hS₁;refine codeAny_extend_loopS W hn S ve res n 0 _ #[] c₁ rfl (jb _) (W.frame 0 s h tk AH ht λb hb o e=>hk b o (λz=>ve (z▸hb)) e) hS₁ (ItemsOf.nil _) λs' nT c' hm Ai wj=>?_;refine hR s' nT c' ⟨λb o hb e=>hm.heap b o hb (hk b o (λz=>hb (z▸fY ..)) e),hm.gens,hm.drawn,hm.os,fK ht hm.toks⟩ Ai wj
 unfold Builtin.List.listExtendWith;refine wpAny_bind (wpAny_typeOf (T:=T) (K.type 0 s AH) ?_);have h1:Builtin.List.listSameRef (.ref S) (.ref I)=false:=by simp[Builtin.List.listSameRef,SH]
 simp only[h1,K.notList,K.notTuple,JK,vz,if_false];refine wpAny_bind (W.self 0 s _ _ AH ?_);refine wpAny_bind (wpAny_holding (K.hint s _ _ AH λb tk ht=>?_));refine wpAny_ite_split (λ_=>?_) (λ_=>wpAny_pure ⟨plainId_quiet PySem.F.plain_extend_loop _,key _ c₀ tk ht (λb o _ e=>e) hS⟩);refine wpAny_bind (wpAny_rule (wpAny_bind ?_));show wpAny _ _ (updateSeq S (·.push .none) >>= λ_=>updateSeq S (·.pop)) _ _ _
 refine wpAny_bind (wpAny_updateSeq (s:={s with toks:=tk}) hS rfl ?_)
 have hS₂:=Heap.get?_update_self (Obj.mapSeq (·.push Value.none)) hS rfl
 refine wpAny_updateSeq (hz:=by seq_fits) hS₂ rfl ?_
 exact wpAny_pure ⟨plainId_quiet PySem.F.plain_extend_loop _,key _ _ tk ht (λb o hb e=>(Heap.get?_update_other _ _ (Ne.symm hb)).trans ((Heap.get?_update_other _ _ (Ne.symm hb)).trans e)) (Heap.get?_update_self (Obj.mapSeq (·.pop)) hS₂ rfl)⟩
def pD{R:Result->Shared->Prop}(W:WalksS prog w A.in1 I fp wr G n P St)(K:ye prog w A.in1 I T St)(AH:St 0 s)(hn:n<=sizeLine)(S:Addr)(ve:S∉fp)(SH:S≠I)(hS:s.heap.get? S=some {cls:=.type "list",data:=.seq #[]})
  (hR:∀s' nT c',Moved (S::wr) G s s'->s'.heap.get? S=some {cls:=.type "list",dict:=none,data:=.seq nT c',slots:=#[]}->ItemsOf P nT n->R (.ok (.ret .none)) s') :
  wpAny (model prog w) A.in1 (Builtin.«list.__init__» ⟨[.ref S,.ref I],[]⟩)
   (λfin s'=>match fin with|.done f=>R (.ok f) s'|.again c'=>c'.quiet=true/\codeAny (model prog w) A c' R s') (λe s'=>R (.error e) s') s:=by
 show wpAny _ _ (do let old <- Builtin.List.listItems (.ref S);Builtin.List.listUpdate (.ref S) (λ_=>#[]);letGo old.toList.reverse;Builtin.List.listExtendWith (.ref S) (.ref I) .none) _ _ s
 refine wpAny_bind ?_;unfold Builtin.List.listItems;refine wpAny_bind (wpAny_seqItems hS rfl (wpAny_pure ?_));show wpAny _ _ (updateSeq S (λ_=>#[]) >>= λ_=>letGo (#[]:Array Value).toList.reverse >>= λ_=>Builtin.List.listExtendWith (.ref S) (.ref I) .none) _ _ s;refine wpAny_bind (wpAny_updateSeq hS rfl ?_);have Zk:∀b o,b≠S->s.heap.get? b=some o->(s.heap.update S (Obj.mapSeq (λ_=>(#[]:Array Value)))).get? b=some o:=λb o hb e=>(Heap.get?_update_other _ _ (Ne.symm hb)).trans e;refine wpAny_bind (wpAny_letGo (wg W K (W.frame 0 s _ s.toks AH (bV _) λb hb o e=>Zk b o (λz=>ve (z▸hb)) e) hn S ve SH .none _ (Heap.get?_update_self (Obj.mapSeq (λ_=>(#[]:Array Value))) hS rfl) λs' nT c' hm Ai wj=>?_));exact hR s' nT c' ⟨λb o hb e=>hm.heap b o hb (Zk b o (λz=>hb (z▸fY ..)) e),hm.gens,hm.drawn,hm.os,hm.toks⟩ Ai wj
def Dl{Q:Value->Shared->Prop}(W:WalksS prog w A.in1.in1 I fp wr G n P St)(K:ye prog w A.in1.in1 I T St)(AH:St 0 s)(Xh:∀b∈fp,b<s.heap.objs.size)(hI:I∈fp)(hn:n<=sizeLine)
  (hQ:∀s' gW c',Moved wr G s s'->s'.heap.get? s.heap.objs.size=some {cls:=.type "list",dict:=none,data:=.seq gW c',slots:=#[]}->ItemsOf P gW n->Q (.ref s.heap.objs.size) s'):wpAny (model prog w) A (call (.type "list") [.ref I]) Q E s:=by
 have ve:s.heap.objs.size∉fp:=λhm=>lG _ (Xh _ hm);have SH:s.heap.objs.size≠I:=λe=>ve (e▸hI);refine callType_codes (Q₁:=λobj s₁=>obj=.ref s.heap.objs.size/\s₁={s with heap:=s.heap.push {cls:=.type "list",data:=.seq #[]}}) PySem.F.called_list (PySem.F.typeCall_list_1 _) PySem.F.entry_list_init (code_list_new _ ⟨rfl,rfl⟩) λobj s₁ h₁=>?_
 obtain⟨rfl,rfl⟩:=h₁;have hS:(s.heap.push {cls:=.type "list",data:=.seq #[]}).get? s.heap.objs.size=some {cls:=.type "list",data:=.seq #[]}:=Heap.get?_push_size _ rfl;refine⟨⟨_,hS,rfl⟩,PySem.F.args_list_init_2 _ _,pD (A:=A.in1) W K (W.frame 0 s _ s.toks AH (bV _) λb _ o e=>Heap.get?_push_of_some _ e) hn _ ve SH hS λs' nT c' hm Ai wj=>?_⟩;exact⟨rfl,hQ s' nT c' (Moved.drop_new (o:={cls:=.type "list",data:=.seq #[]}) (tk:=s.toks) hm (bV _)) Ai wj⟩
def uf{l:Addr}{items:Array Value}:ye prog w A I "list_reverseiterator" (λi s=>i<=items.size/\s.heap.IsRevIter I l ((items.size:Int)-1-(i:Int))/\s.heap.IsList l items) where
 type:=λi s st=>st.2.1.typeIs
 notList:=by decide
 notTuple:=by decide
 hint:=λs Q E st hQ=>by
  have hT:=st.2.1.typeIs;have SI:typeLookup (.type "list_reverseiterator") "__len__" = pure none:=by rw[typeLookup_type,builtinLookup_eq_fast];kernel_rfl
  have hint:typeLookup (.type "list_reverseiterator") "__length_hint__" = pure (some (.builtin "list_reverseiterator.__length_hint__")):=by rw[typeLookup_type,builtinLookup_eq_fast];kernel_rfl
  unfold Builtin.List.listLengthHint;refine wpAny_bind (wpAny_specialOf hT SI ?_);show wpAny _ _ (specialOf (Value.ref I) (Str.ofString "__length_hint__") >>= _) _ _ _;refine wpAny_bind (wpAny_specialOf hT hint ?_)
  generalize hid:("list_reverseiterator.__length_hint__" : String)=id0
  wp_delta
  rw[show splitId id0=some ("list_reverseiterator","__length_hint__")from by subst hid;decide +kernel]
  subst hid;refine wpAny_bind (wpAny_isInstance (b:=true) hT (by rw[isSubtype_type];kernel_rfl) ?_)
  exact wpAny_pure (hQ false s.toks (bV _))
end
end PySem
namespace L2
open PySem PySem.Spec PyProof.Rows
section
variable{X:Cx}{a:Expr}{ta:TE}{p p' pos bU:Pos}
def Aj{aF:Bz}{gW:Array Value}(h:ItemsOf (λi v=>aF.toArray[aF.toArray.size-1-i]?=some v) gW aF.toArray.size):gW.toList=aF.reverse:=by
 apply zj;intro j;have hl:gW.toList.length=aF.length:=by rw[Array.length_toList,h.1,cQ]
 cases hj:gW.toList[j]? with
 |none=>
  have:gW.toList.length<=j:=JB.mp hj
  rw[xj (by rw[Bb];omega)]
 |some v=>
  have iB:j<aF.length:=by rw[<- hl];exact(c_.mp hj).1
  have h2:=h.2 j v (by rw[<- Array.getElem?_toList];exact hj)
  rw[JA iB];rw[<- h2];simp
theorem ug:∀{xs ys:List V}{us ws:Bz},Vals xs us->Vals ys ws->Vals (xs++ys) (us++ws)
 |_,_,_,_,.nil,b=>b
 |_,_,_,_,.cons h t,b=>.cons h (ug t b)
theorem uh:∀{xs:List V}{us:Bz},Vals xs us->Vals xs.reverse us.reverse
 |_,_,.nil=>.nil
 |_,_,.cons h t=>by
  rw[xh,xh];exact ug (uh t) (.cons h .nil)
def SJ(K:bD)(ta:TE):TE:=λσ H Q=>ta σ H λx H1=>∃q xs,x=.ref q/\cJ K H1 q xs/\∀l,H1 l=none->Q (.ref l) (upd H1 l (.lst xs.reverse))
def Hn(hc:X.calm=true)(hg:Gl X "list")(hm:X.mg "list" = none)(SA:Gl X "reversed")(Sz:X.mg "reversed" = none)(ha:PE X a ta)
  (he:starEach [.Call (.Name "reversed" p') [a] [] bU] X.env=(false,eval (.Call (.Name "reversed" p') [a] [] bU) X.env)::starEach [] X.env:=by rfl) (hpl:(backTo pos (starEach [] X.env)).any (·.1)=false:=by rfl)
  (Zl:starEach [a] X.env=(false,eval a X.env)::starEach [] X.env:=by rfl) (Xi:(backTo bU (starEach [] X.env)).any (·.1)=false:=by rfl) :
  PE X (.Call (.Name "list" p) [.Call (.Name "reversed" p') [a] [] bU] [] pos) (SJ X.K ta):=by
 intro ae s σ H Q I h;have hh:=I.ok.hd hc;refine wpAny_Call_Name_kw (fk I hg hm zp (callWith_type1 ?_ he hpl));rw[he];refine Calls.spliced_cons (wpAny_Call_Name_kw (fk I SA Sz JY (callWith_type1 ?_ Zl Xi)));rw[Zl];refine Calls.spliced_cons (bJ (ha ae s σ H _ I h) λu s1 hq=>Calls.spliced_nil ?_);obtain⟨x,H1,I1,rx,q,xs,rfl,ĝ,k⟩:=hq;cases rx;obtain⟨aF,rv,pl,hz⟩:=I1.list ĝ;have hl:aF.toArray.size=xs.length:=by rw[cQ];exact rv.length.symm
 have pl:=pl.isList;refine call_reversed_list pl (Calls.spliced_nil ?_);obtain⟨ot,Ğ,hr⟩:=id pl;have ql:q<s1.heap.objs.size:=Heap.lt_size Ğ;refine Dl (A:=X.A) (s:={s1 with heap:=s1.heap.push (revObj q ((aF.toArray.size:Int)-1))}) (Walks.listRev (A:=X.A.in1.in1) hh s1.heap.objs.size q (fG ql) aF.toArray).toS uf ⟨jb _,?_,pl.at λo e=>Heap.get?_push_of_some _ e⟩ (λb hb=>?_) (by simp) (by rw[hl];exact hz) λs' gW c' Zm hS wj=>?_
 ·rw[show(aF.toArray.size:Int)-1-((0:Nat):Int)=(aF.toArray.size:Int)-1 by omega];exact⟨_,Heap.get?_push_size _ rfl,rfl,rfl⟩
 ·simp only[gh,jV,or_false]at hb
  show b<(s1.heap.push _).objs.size;rw[Heap.size_push];rcases hb with rfl|rfl
  ·exact vj _
  ·exact A5 ql
 ·have e2:=Aj wj
  rw[Zm.eq_with];have sz:(s1.heap.push (revObj q ((aF.toArray.size:Int)-1))).objs.size=s1.heap.objs.size+1:=Heap.size_push ..;have kk:∀b o,s1.heap.get? b=some o->s'.heap.get? b=some o:=λb o e=>Zm.heap b o (λz=>by rw[iu.mp z]at e;exact absurd (Heap.lt_size e) (lG _)) (Heap.get?_push_of_some _ e)
  have I3:Inv X ae σ (upd H1 (s1.heap.push (revObj q ((aF.toArray.size:Int)-1))).objs.size (.lst xs.reverse)) {s1 with heap:=s'.heap,toks:=s'.toks}:=
   I1.laid (t':=s'.toks) kk (by rw[sz];exact oK _) ⟨by rw[Bb];exact hz,aF.reverse,c',uh rv,by rw[<- e2,Array.toArray_toList];exact hS⟩
  exact⟨.ref _,_,I3,rfl,k _ (I1.bG.fresh (by rw[sz];exact oK _))⟩
end
end L2
namespace D
open PySem L2
def Ho:FV->FX
 |[.int i,.int j]=>some (.int (if j > i then j else i))
 |_=>none
def SK{X:Cx}:LN X Ho (λxs H Q=>∃i j,xs=[.int i,.int j]/\Q (.int (if j > i then j else i)) H):=λB hB al HF H xs t ts Q sm r h k=>by
 match ts,h with
 |[.int i,.int j],h=>
  cases h;obtain⟨v,vs,rfl,r1,r⟩:=r;obtain⟨w,ws,rfl,r2,r⟩:=r;cases r;cases r1;cases r2;exact⟨i,j,rfl,k _ HF H (.refl sm) rfl⟩
def Hq:T->FX
 |.lst ts=>some (.lst ts.reverse)
 |_=>none
section
variable{B:KT}{X:Cx}{a:Expr}{fa:FE}{p p' pos bU:Pos}
def ND(hc:X.calm=true)(Xf:X.mg "list" = none)(Sz:X.mg "reversed" = none)(Xg:Gl X "list")(SA:Gl X "reversed")(ha:PE X a (tE B fa))(hs:noStar a=true) :
  PE X (.Call (.Name "list" p) [.Call (.Name "reversed" p') [a] [] bU] [] pos) (tE B (dq Hq fa)):=by
 refine aP (Hn hc Xg Xf SA Sz ha (ao rfl) rfl (ao hs) rfl) λσ H Q z=>?_;obtain⟨g,s,t,s',x,h,k⟩:=z;obtain⟨⟨tx,s1⟩,h1,h⟩:=aa h;obtain⟨t',h2,h⟩:=aa h;cases h;have h2:=aj h2;refine⟨g,s,tx,s1,x,h1,λv g1 H1 p1 x1 r1=>?_⟩;cases tx<;>first|(cases h2;done)|skip
 cases h2;obtain⟨l,xs,rfl,q,r⟩:=r1;refine⟨l,xs,rfl,cJ.of (x1.sub _ _ q),λq hq=>?_⟩;have gr:=Gr.new (o:=.lst xs.reverse) x1.sub hq;exact k _ _ _ (p1.trans (x1.kr gr)) (x1.grow gr) ⟨q,_,rfl,ai,(aB.rev r).same gr.fr⟩
end
def um(n:Nat)(ne:Bool)(o b:FE):FE:=λs=>(o s).bind λp=>(b p.2).bind λq=>(aT (kL n q.2.m p.1)).bind λz=>(aT (gd (shape 5 (.lst z.2) q.1=true) ())).bind λ_=>.ok (.bl (ne != eqT (.lst z.2) q.1),q.2)
def Ak(n:Nat)(o:FE):FE:=λs=>(o s).bind λp=>(aT (kL n p.2.m p.1)).bind λ_=>.ok (.bl true,p.2)
def wm(n i:Nat):FE:=λs=>match s.r[i]? with
 |some (some (.val (.own k)))=>(aT (kL n s.m (.own k))).bind λz=>.ok (.lst z.2,jR {s with m:=s.m.set z.1 ⟨n,[]⟩} i (.val (.lst z.2)))
 |_=>.bad
def set_same{σ:St}{i:Nat}{v:V}(h:σ[i]?=some (some v)):σ.set i (some v)=σ:=by
 apply zj;intro j;by_cases hj:i=j
 ·subst hj
  rw[cj (c_.mp h).1,h]
 ·rw[cT hj]
def Hr:CmpOp->Option Bool
 |.Eq=>some false
 |.NotEq=>some true
 |_=>none
section
variable{B:KT}{X:Cx}{a b o:Expr}{pos p py:Pos}{fo fb:FE}{n i:Nat}{y:Str}
def K0{ne:Bool}(hB:B.K=X.K)(hc:B.cn[n]?=none):∀σ H Q,tE B (um n ne fo fb) σ H Q->LV (λx y H Q=>∃B al HF t u,B.K=X.K/\aO HF H/\Rep B al HF t x/\Rep B al HF u y/\shape 5 t u=true/\Q (.bl (ne != eqT t u)) H) (tE B fo) (tE B fb) σ H Q:=by
 rintro σ H Q ⟨g,s,t,s',x,h,k⟩
 obtain⟨⟨tx,s1⟩,h1,h⟩:=aa h;obtain⟨⟨ty,s2⟩,h2,h⟩:=aa h;obtain⟨z,h3,h⟩:=aa h;obtain⟨_,h4,h⟩:=aa h;cases h;obtain⟨sh,_⟩:=aZ (aj h4);obtain⟨e1,m1⟩:=e7 (aj h3);dsimp only at e1;subst e1;refine⟨g,s,_,s1,x,h1,λv g1 H1 p1 x1 r1=>⟨g1,s1,_,s2,x1,h2,λw g2 H2 p2 x2 r2=>?_⟩⟩;obtain⟨l,rfl,ha⟩:=r1;obtain⟨Z,l1,vs,q1,o1,hh,rr⟩:=x2.jh hc m1 (bL p2.pre ha);cases q1;exact⟨B,g2.al,H2,.lst z.2,ty,hB,aO.refl _,⟨l,vs,rfl,hh,rr.same x2.sub⟩,r2.same x2.sub,sh,k _ g2 H2 (p1.trans p2) x2 rfl⟩
def Dm{op:CmpOp}{ne:Bool}{kk:Nat}(hr:bM kk X.A)(hn:Hr op=some ne):gk X (compareOp op) (λx y H Q=>∃B al HF t u,B.K=X.K/\aO HF H/\Rep B al HF t x/\Rep B al HF u y/\shape 5 t u=true/\Q (.bl (ne != eqT t u)) H):=by
 have hu:X.A.units+6<cLine:=by have:=hr.units;omega
 intro ae s σ H x y v u Q I rx ry h;obtain⟨B,al,HF,t,w,a1,a2,a3,a4,a5,a6⟩:=h;cases op<;>first|(cases hn;done)|skip
 ·cases hn
  refine CH hu ae s σ H x y v u Q I rx ry ⟨B,al,HF,t,w,a1,a2,a3,a4,a5,?_⟩;cases e:eqT t w<;>(rw[e]at a6;exact a6)
 ·cases hn
  refine CI hu ae s σ H x y v u Q I rx ry ⟨B,al,HF,t,w,a1,a2,a3,a4,a5,?_⟩;cases e:eqT t w<;>(rw[e]at a6;exact a6)
def SM{op:CmpOp}{ne:Bool}{kk:Nat}(hB:B.K=X.K)(hc:B.cn[n]?=none)(hr:bM kk X.A)(hn:Hr op=some ne)(ho:PE X o (tE B fo))(hb:PE X b (tE B fb))(hm:behindInMarks op b=false):PE X (.Compare o [op] [b] pos) (tE B (um n ne fo fb)):=
 aP (qM (Dm hr hn) ho hb hm) (K0 hB hc)
def NF{op:CmpOp}{ne:Bool}{kk:Nat}(hB:B.K=X.K)(hc:B.cn[n]?=none)(hr:bM kk X.A)(hn:Hr op=some ne)(ho:PE X o (tE B fo))(hb:PE X b (tE B fb))(hm:behindInMarks op b=false):PT X (.Compare o [op] [b] pos) (tT B (bu (um n ne fo fb))):=
 tG (qN (Dm hr hn) ho hb hm) λσ H Q q=>K0 hB hc σ H _ (CN q)
def SN(hc:B.cn[n]?=none)(ho:PE X o (tE B fo))(hm:X.mg "isinstance" = none)(R3:X.mg "list" = none)(hg:Gl X "isinstance")(MK:Gl X "list")(hs:noStar o=true):PE X (.Call (.Name "isinstance" p) [o,.Name "list" py] [] pos) (tE B (Ak n fo)):=by
 obtain⟨ka,hb,hn,hd⟩:=KI ("list","list") (by simp[qh])
 have u9:starEach [Expr.Name "list" py] X.env=(false,eval (.Name "list" py) X.env)::starEach [] X.env:=rfl;refine aP (gB kZ hg hm BB (aV ho (aV (xu MK R3 hb (v:=.ty "list") rfl hn hd) cu u9) (ao hs)) (he:=ao hs) (hpl:=rfl)) λσ H Q z=>?_;obtain⟨g,s,t,s',x,h,k⟩:=z;obtain⟨⟨tx,s1⟩,h1,h⟩:=aa h;obtain⟨z,h2,h⟩:=aa h;cases h;obtain⟨e1,m1⟩:=e7 (aj h2);dsimp only at e1;subst e1;refine⟨g,s,_,s1,x,h1,λv g1 H1 p1 x1 r1=>?_⟩;obtain⟨l,rfl,ha⟩:=r1;obtain⟨Z,l1,vs,q1,o1,hh,rr⟩:=x1.jh hc m1 ha;cases q1;exact⟨.ref l,"list",_,true,rfl,.lst hh,jE X.K ka.lst,k _ g1 H1 p1 x1 rfl⟩
def NG(hc:B.cn[n]?=none)(hN:X.N[i]?=some y)(hv:xo X.env.scope y)(hd:df y)(pO:kB y):PE X (.Name y pos) (tE B (wm n i)):=by
 refine aP (gj hN hv hd pO) λσ H Q z=>?_;obtain⟨g,s,t,s',x,h,k⟩:=z;unfold wm at h;split at h
 ·rename_i kb hr
  obtain⟨z,h2,h⟩:=aa h;cases h;obtain⟨e1,m1⟩:=e7 (aj h2);cases e1;obtain⟨v,h1,l,rfl,ha⟩:=x.lc.at_ i _ hr;obtain⟨ZB,qB⟩:=x.jh hc m1 ha;have ğ:=qB;obtain⟨l',_,e,ho,_⟩:=qB;cases e;obtain⟨hu,ho,hh,ru⟩:=yd (u:=.lst z.2) rfl ğ (x.st.live l _ ho).1;obtain⟨p2,x2⟩:=x.Sv ZB m1 ho hh;have q:=x2.lc.set (i:=i) (v:=.ref l) (c:=.val (.lst z.2)) ru λ_ _ _ _ h=>h;rw[set_same h1]at q;exact⟨_,h1,k _ _ H p2 ⟨x2.st,q⟩ ru⟩
 ·cases h
end
def Dn:List FE->FL
 |[]=>ba
 |a::r=>bH a (Dn r)
def Hs(n:Nat)(ks:Ap)(fs:List FE):FE:=λs=>(Dn fs {s with m:=s.m++[⟨n,[.od [] []]⟩]}).bind λp=>(aT (jg n p.2.m (.own s.m.length))).bind λz=>match z.2 with
 |([],[])=>.ok (.own s.m.length,setB n p.2 z.1 (.od (ks.map .s) p.1))
 |_=>.bad
def Ht:List (Option Expr)->D1->Option (List (Str×Expr))
 |[],[]=>some []
 |some k::ks,v::vs=>(Dj k).bind λx=>(Ht ks vs).map ((x,v)::·)
 |_,_=>none
section
variable{B:KT}{X:Cx}{pos:Pos}{n:Nat}{fE:Expr->FE}
theorem uo(hE:∀e,PE X e (tE B (fE e))):∀{ks:List (Option Expr)}{vs:D1}{l:List (Str×Expr)},Ht ks vs=some l->QZ X pos ks vs (l.map λp=>(tC (.str p.1),tE B (fE p.2)))/\ks.all (·.isSome)=true/\ks.length=vs.length/\ks.length=l.length
 |[],[],l,h=>by cases h;exact⟨GF,rfl,rfl,rfl⟩
 |some k::ks,v::vs,l,h=>by
  obtain⟨x,h1,h⟩:=dM.mp h;obtain⟨l',h3,rfl⟩:=cz.mp h;obtain⟨_,_,rfl⟩:=str_inv h1;obtain⟨q1,q2,q3,q4⟩:=uo hE h3;exact⟨Cq BH (hE v) q1,by simpa using q2,by simp[q3],by simp[q4]⟩
 |[],_::_,_,h=>by cases h
 |none::_,_,_,h=>by cases h
 |some _::_,[],_,h=>by cases h
theorem yf:∀{l:List (Str×Expr)}{σ:St}{H:Hp}{g:G}{s s':S}{ts:FV}{Q:List (V×V)->Hp->Prop},SR B g H σ s->Dn (l.map λp=>fE p.2) s=.ok (ts,s')->(∀vs g' H',ez g H g' H'->SR B g' H' σ s'->aB B g'.al g'.HF ts vs->Q ((l.map λp=>V.str p.1).zip vs) H'/\True)->qZ (l.map λp=>(tC (.str p.1),tE B (fE p.2))) σ H Q
 |[],σ,H,g,s,s',ts,Q,x,h,k=>by
  cases h;exact(k [] g H .refl x rfl).1
 |q::l,σ,H,g,s,s',ts,Q,x,h,k=>by
  obtain⟨⟨t,s1⟩,h1,h⟩:=aa h;obtain⟨⟨us,s2⟩,h2,h⟩:=aa h;cases h;refine⟨g,s,t,s1,x,h1,λv g1 H1 p1 x1 r1=>yf (l:=l) x1 h2 λvs g2 H2 p2 x2 r2=>⟨?_,trivial⟩⟩;exact(k (v::vs) g2 H2 (p1.trans p2) x2 ⟨v,vs,rfl,r1.mv p2.pre p2.fr,r2⟩).1
theorem Dp:∀(l:List (Str×Expr))(vs:List V),(l.map λp=>V.str p.1).zip vs=((l.map λp=>(.inr p.1:Key)).zip vs).map λkv=>(kV kv.1,kv.2)
 |[],_=>rfl
 |_::_,[]=>rfl
 |q::l,v::vs=>by
  rw[dZ,dZ,jW,jW,dZ,<- Dp l vs];rfl
def Hu(l:List (Str×Expr)):(l.map λp=>p.1.cps.toList).map (λx=>jS (.s x))=l.map λp=>(.inr p.1:Key):=by
 rw[gR];apply vq;intro p _;show(.inr ⟨p.1.cps.toList.toArray⟩:Key)=_;rw[Hm]
theorem uq:∀{fs:List FE}{s s':S}{ts:FV},Dn fs s=.ok (ts,s')->ts.length=fs.length
 |[],_,_,_,h=>by cases h;rfl
 |f::fs,_,_,_,h=>by
  obtain⟨⟨t,s1⟩,h1,h⟩:=aa h;obtain⟨⟨us,s2⟩,h2,h⟩:=aa h;cases h;rw[eT,eT,uq h2]
def SO(hc:B.cn[n]?=none)(hf:B.fn[n]?=none)(hE:∀e,PE X e (tE B (fE e))){ks:List (Option Expr)}{vs:D1}{l:List (Str×Expr)}(h:Ht ks vs=some l)(h0:l≠[])(YX:l.length<=15)(hn:(l.map (·.1)).Nodup):PE X (.Dict ks vs pos) (tE B (Hs n (l.map λp=>p.1.cps.toList) (l.map λp=>fE p.2))):=by
 obtain⟨q1,q2,q3,q4⟩:=uo (pos:=pos) hE h;have hk:ks≠[]:=λz=>h0 (by rw[z]at q4;exact Jy.mp q4.symm)
 refine aP (GG q1 q2 q3 hk (by omega)) λσ H Q z=>?_
 obtain⟨g,s,t,s',x,h,k⟩:=z;obtain⟨⟨ts,s2⟩,h1,h⟩:=aa h;obtain⟨⟨kb,kk,tt⟩,h2,h⟩:=aa h;dsimp only at h;split at h
 ·rename_i e
  cases e;cases h;obtain⟨e1,m1⟩:=fV (aj h2);cases e1;intro q hq;obtain⟨gr,n1,n2⟩:=lV (u:=.dK []) x hq;have x1:=x.grow gr;have x2:=x1.nP (c:=.od [] []) hc hf n1 n2 ai ⟨q,[],rfl,rK,ai,rfl,rfl⟩;have p1:=(x.kr gr).nP hq;have ol:=nQ (B:=B) x1 (l:=q);refine yf x2 h1 λvs g3 H3 p3 x3 r3=>⟨?_,trivial⟩;obtain⟨lq,el,ha⟩:=ol;cases el;obtain⟨Z,l1,ws,e2,o1,hh,hl,rr⟩:=x3.jh hc m1 (bL p3.pre ha);cases e2;have Zn:(l.map λp:Str×Expr=>(.inr p.1:Key)).length=vs.length:=by
   have a1:=uq h1;have a2:=r3.len;rw[b_]at a1 ⊢;omega
  have nd:(([]++(l.map λp:Str×Expr=>(.inr p.1:Key)).zip vs).map (λq:Key×V=>q.1)).Nodup:=by
   rw[lL,<- List.unzip_fst,List.unzip_zip_left (by omega)]
   have:(l.map (λq:Str×Expr=>q.1)).map (λx=>(.inr x:Key))=l.map λp=>(.inr p.1:Key):=by rw[gR];rfl
   rw[<- this];exact qo hn
  refine⟨hh,(l.map λp=>(.inr p.1:Key)).zip vs,Dp l vs,by rw[oO,b_];omega,?_⟩
  rw[qm nd,lL];obtain⟨p4,x4⟩:=x3.yc (c':=.od ((l.map λp=>p.1.cps.toList).map .s) ts) (u:=.dK ((l.map λp=>(.inr p.1:Key)).zip vs)) Z m1 o1 ⟨q,vs,rfl,o1,by rw[ai,gR,<- Hu];rfl,by rw[b_,b_];rw[b_]at Zn;exact Zn,r3⟩
  exact k _ g3 _ ((p1.trans p3).trans p4) x4 ⟨q,rfl,bL p4.pre (bL p3.pre ha)⟩
 ·cases h
end
end D
namespace L2
open PySem PySem.Spec PyProof.Rows
theorem K1:∀{aE:List (Key×V)}{vs:List (Key×Value)}{i:Nat}{q:Key×Value},KV aE vs->vs[i]?=some q->∃p,aE[i]?=some p/\RelV p.2 q.2
 |_,_,_,_,.nil,h=>by cases h
 |_,_,0,_,.cons r _,h=>by cases h;exact⟨_,rfl,r.2⟩
 |_,_,i+1,_,.cons _ t,h=>K1 (i:=i) t h
def del(H:Hp)(d:Addr):Hp:=λb=>if b=d then none else H b
def Dq{H:Hp}{d:Addr}:del H d d=none:=if_pos rfl
def kM{H:Hp}{d b:Addr}(h:b≠d):del H d b=H b:=if_neg h
def iU{H:Hp}{d b:Addr}(h:H b=none):del H d b=none:=by
 unfold del;split
 ·rfl
 ·exact h
section
variable{X:Cx}{ae:dm}{σ σ':St}{H H':Hp}{s s':Shared}{d:Addr}{aE:List (Key×V)}
def Inv.SQ{u:HO}(I:Inv X ae σ H s)(e:H d=some u):d∉X.fs:=λhb=>by
 obtain⟨_,o,ho,_⟩:=I.ok.kC.mem hb;rw[I.base.free d o ho (I.ok.frf d hb) λz=>I.ok.exfs d z hb]at e;cases e
def Inv.Hv(I:Inv X ae σ H s)(e:H d=some (.dK aE)):Inv X ae σ (del H d) s:=by
 have ne:∀b u,H b=some u->(∀k,u≠.dK k)->del H d b=some u:=λb u h n=>by
  rw[kM λz=>by rw[z,e]at h;cases h;exact n _ rfl];exact h
 refine⟨I.ok,I.os,I.bare,⟨I.base.keep,I.base.slot,λb o q n x=>iU (I.base.free b o q n x),I.base.there,λb xs q=>ne _ _ (I.base.oQ b xs q) (λ_ z=>by cases z),λb o u q=>ne _ _ (I.base.mC b o u q) (λ_ z=>by cases z),λb ps q=>?_⟩,I.loc,I.cell,iU I.free,λx c h=>iU (I.freeC x c h),λp hp=>?_,λa o q=>?_,I.len⟩
 ·obtain⟨more,h⟩:=I.base.oR b ps q
  exact⟨more,ne _ _ h λ_ z=>by cases z⟩
 ·obtain⟨a,b,c⟩:=I.pin p hp
  exact⟨a,iU b,c⟩
 ·have q':H a=some o:=by
   unfold del at q;split at q
   ·cases q
   ·exact q
  exact(I.bG a o q').qF (λ_ _ _ h=>h) (λb h=>ne _ _ h λ_ z=>by cases z) λb xs h=>ne _ _ h λ_ z=>by cases z
def Inv.Hw(I0:Inv X ae σ' H' s')(e:H' d=some (.dK aE))(I:Inv X ae σ H s)(hn:H d=none)(new:ck X.prog X.w (upd H d (.dK aE)) s.heap d (.dK aE)):Inv X ae σ (upd H d (.dK aE)) s:=by
 have ne:∀b u,H b=some u->upd H d (.dK aE) b=some u:=λb u h=>by
  rw[aq λz=>by rw[z,hn]at h;cases h];exact h
 have nn:∀b,H' b=none->H b=none->upd H d (.dK aE) b=none:=λb h1 h2=>by
  rw[aq λz=>by rw[z,e]at h1;cases h1];exact h2
 refine⟨I.ok,I.os,I.bare,⟨I.base.keep,I.base.slot,λb o q n x=>nn b (I0.base.free b o q n x) (I.base.free b o q n x),I.base.there,λb xs q=>ne _ _ (I.base.oQ b xs q),λb o u q=>ne _ _ (I.base.mC b o u q),λb ps q=>?_⟩,I.loc,I.cell,nn _ I0.free I.free,λx c h=>nn _ (I0.freeC x c h) (I.freeC x c h),λp hp=>?_,λa o q=>?_,I.len⟩
 ·obtain⟨more,h⟩:=I.base.oR b ps q
  exact⟨more,ne _ _ h⟩
 ·obtain⟨a,b,c⟩:=I.pin p hp
  exact⟨a,nn _ (I0.pin p hp).2.1 b,c⟩
 ·by_cases h:a=d
  ·subst h
   rw[ai]at q;cases q;exact new
  ·rw[aq h]at q
   exact(I.bG a o q).qF (λ_ _ _ h=>h) (λb h=>ne _ _ h) λb xs h=>ne _ _ h
end
section
variable{X:Cx}{o tg:Expr}{td:TE}{g:TG}{tb:TS}{bF bP pos:Pos}{body:Fs}
def SS(td:TE)(g:TG)(tb:TS):TS:=λD σ H=>td σ H λx H1=>∃a aE,x=.ref a/\H1 a=some (.dK aE)/\∃W:Nat->St->Hp->Prop,W 0 σ (del H1 a)/\(∀σ' H',H' a=none->W aE.length σ' H'->D.nx σ' (upd H' a (.dK aE))) /\
 ∀i σ' H',H' a=none->W i σ' H'->∀kv,aE[i]?=some kv->g kv.2 σ' H' λσ2 H2=>tb {nx:=λσ3 H3=>H3 a=none->W (i+1) σ3 H3,rt:=λ_ _=>False} σ2 H2
def Hx(hp:PassesOwn (model X.prog X.w) X.A X.env X.xe)(hc:X.calm=true)(ho:PE X o td)(hg:PG X tg g)(hb:jx X body tb)(B8:attributeBase o "values" X.env (eval o X.env)=eval o X.env)(gD:(bF.endLine == bP.line)=true) :
  PS X (.For tg (.Call (.Attribute o "values" bF) [] [] bP) body [] pos) (SS td g tb):=by
 intro ae s σ H D I h;refine wpAny_For (wpAny_Call_method0_late B8 gD (bJ (ho ae s σ H _ I h) λv s1 ⟨x,H1,I1,r1,q1⟩=>?_)) λ_=>rfl;obtain⟨d,aE,ex,e,W,w0,wd,ws⟩:=q1;subst ex;cases r1;obtain⟨z,lo,vs,kv,hd⟩:=Co I1.bG e;obtain⟨ob,es,ep,r⟩:=id hd;have ht:s1.TypeIs (.ref d) "dict" := hd.typeIs;refine⟨"dict","dict.values",PySem.F.plainAttrs_dict,PySem.F.slot_dict_values,PySem.F.type_dict_values,ht,λb q=>by cases q;exact⟨ob,r.1,r.2.1.2.1⟩,Calls.callWith_builtin rfl (PySem.evalArgs_none ?_)⟩
 refine call_meetsIn PySem.F.slot_dict_values ht PySem.F.entry_dict_values (PySem.F.args_dict_values_1 _) (meets_dict_values (bj X.prog X.w) d lo) ⟨⟨_,hd⟩,?_⟩;have Pp:(s1.heap.push {cls:=.type "dict_values",data:=.fields #[.ref d]}).DictAt (bj X.prog X.w) d vs ep:=⟨ob,es,Heap.get?_push_of_some _ r.1,r.2⟩;refine wpAny_pyIter_values (s:={s1 with heap:=s1.heap.push {cls:=.type "dict_values",data:=.fields #[.ref d]}}) ⟨_,Heap.get?_push_size _ rfl,rfl,rfl⟩ Pp ?_
 obtain⟨h2,e2⟩:∃h2,h2=s1.heap.push {cls:=.type "dict_values",data:=.fields #[.ref d]}:=⟨_,rfl⟩;obtain⟨h3,e3⟩:∃h3,h3=h2.push {cls:=.type "dict_valueiterator",data:=.fields #[.ref d,.int 0 0,.int vs.length 0,.int ep 0]}:=⟨_,rfl⟩;rw[<- e2]at Pp;have Zo:∀b o,h2.get? b=some o->h3.get? b=some o:=λb o q=>by rw[e3];exact Heap.get?_push_of_some _ q
 have Ġ:∀b o,s1.heap.get? b=some o->h2.get? b=some o:=λb o q=>by rw[e2];exact Heap.get?_push_of_some _ q
 have Xj:h3.DictAt (bj X.prog X.w) d vs ep:=by
  obtain⟨o',Fy,q1,q2⟩:=Pp;exact⟨o',Fy,Zo _ _ q1,q2⟩
 have hit:h3.IsValIter h2.objs.size d 0 vs.length ep:=⟨_,by rw[e3];exact Heap.get?_push_size _ rfl,rfl,rfl⟩
 have big:s1.heap.objs.size<=h2.objs.size:=by rw[e2,Heap.size_push];exact oK _
 rw[<- e2];show codeAny _ _ (.forLoop tg (.ref h2.objs.size) body [] X.env) _ {s1 with heap:=h2.push {cls:=.type "dict_valueiterator",data:=.fields #[.ref d,.int 0 0,.int vs.length 0,.int ep 0]}}
 rw[<- e3];obtain⟨it,Xk⟩:∃it,it=h2.objs.size:=⟨_,rfl⟩;rw[<- Xk]at hit big ⊢;have I3:Inv X ae σ H1 {s1 with heap:=h3}:=I1.kept (t':=s1.toks) λb o q=>Zo b o (Ġ b o q)
 have I4:=I3.Hv e;have Zp:d≠it:=λq=>by rw[q]at r;exact absurd (gP (Heap.lt_size r.1) big) (lG _)
 have ġ:∀{H':Hp},H' it=none->lP X ae H' it:=λh=>I1.oU big h;have nH:H1 it=none:=I1.bG.fresh big;have len:aE.length=vs.length:=kv.length;refine codeAny_forLoop_any (λn s'=>∃i σ' H',n=aE.length-i/\i<=aE.length/\Inv X ae σ' H' s'/\s'.heap.IsValIter it d i vs.length ep/\s'.heap.get? d=h3.get? d/\H' it=none/\H' d=none/\W i σ' H') ?_ aE.length ⟨0,σ,_,by simp,jb _,I4,hit,rfl,iU nH,Dq,w0⟩
 rintro n s3 ⟨i,σ3,H3,rfl,hi,I5,hit5,hd5,n5,nd5,w5⟩
 have Hy:s3.heap.DictAt (bj X.prog X.w) d vs ep:=by
  obtain⟨o',Fy,q1,q2⟩:=Xj;exact⟨o',Fy,by rw[hd5];exact q1,q2⟩
 obtain⟨f0,f1,f2,f3,f4,f5⟩:=ġ n5;cases hx:vs[i]? with
 |none=>
  have Q4:i=aE.length:=by have:=JB.mp hx;omega
  refine wpAny_passesOwn hp (wpAny_pyNext_values_end (s:=s3) (I5.ok.hd hc) hit5 Hy hx λh' Kh=>?_);have I6:Inv X ae σ3 H3 {s3 with heap:=h'}:=I5.turned (t':=s3.toks) (λb o kG q=>Kh b o kG q) f0 f1 f3 f4 f5
  obtain⟨o',Fy,q1,q2⟩:=Hy;refine wpAny_execs_nil ⟨σ3,_,I3.Hw e I6 nd5 ⟨z,lo,vs,kv,o',Fy,ep,Kh d o' Zp q1,q2⟩,?_⟩;rw[Q4]at w5;exact wd _ _ nd5 w5
 |some q=>
  obtain⟨kk,v⟩:=q;obtain⟨p,Zq,rp⟩:=K1 kv hx;have Q4:i<aE.length:=(c_.mp Zq).1;refine wpAny_passesOwn hp (wpAny_pyNext_values_item (s:=s3) hit5 Hy hx λh' Xl sb=>?_);have I6:Inv X ae σ3 H3 {s3 with heap:=h'}:=I5.turned (t':=s3.toks) (λb o kG q=>by rw[sb.2 b kG];exact q) f0 f1 f3 f4 f5
  obtain⟨oi,Zr,Zs,Xm⟩:=id Xl;refine wpAny_passesOwn hp (pP (s:={s3 with heap:=h'}) Zr Zs Xm (by decide) ?_)
  obtain⟨od,esd,Zt,pO⟩:=id Hy;have Xn:h'.get? d=some od:=by rw[sb.2 d Zp];exact Zt
  have I7:Inv X (ae++[(it,oi),(d,od)]) σ3 H3 {s3 with heap:=h'}:=I6.qI λp SW=>(sF.mp SW).elim (λw=>I6.pin p (jt _ w)) λw=>by
   rcases gh.mp w with rfl|w
   ·exact⟨Zr,n5,f1,f2,λv q=>by rw[Xm]at q;cases q⟩
   ·rw[iu.mp w]
    exact⟨Xn,nd5,(λq=>by have q:d=X.env.locals:=q;rw[q,I1.free]at e;cases e),I1.SQ e,λv q=>by rw[pO.2.1]at q;cases q⟩
  refine wpAny_passesOwn hp (bJ (hg _ _ σ3 H3 p.2 v _ I7 rp (ws i σ3 H3 nd5 w5 p Zq)) λ_ s6 zz=>?_);obtain⟨σ6,H6,I8,q6⟩:=zz;refine wpAny_passesOwn hp (bJ (hb _ s6 σ6 H6 _ I8 q6) λf s7 q7=>?_);cases f with
  |next=>
   obtain⟨σ7,H7,I9,n7⟩:=q7;obtain⟨g1,g2,_⟩:=I9.pin (it,oi) (jt _ (jt _ (fY ..)));obtain⟨g3,g4,_⟩:=I9.pin (d,od) (jt _ (jt _ (bW _ (fY ..))));exact⟨aE.length-(i+1),by omega,i+1,σ7,H7,rfl,Q4,I9.iD,⟨oi,g1,Zs,Xm⟩,by rw[<- hd5,Zt];exact g3,g2,g4,n7 g4⟩
  |cont=>obtain⟨_,_,_,n7⟩:=q7;exact n7.elim
  |brk=>obtain⟨_,_,_,n7⟩:=q7;exact n7.elim
  |ret v=>obtain⟨_,_,_,_,_,n7⟩:=q7;exact n7.elim
end
end L2
namespace D
open PySem L2
def G.NH(g:G)(l:Addr):G:={g with o:=λb=>if b=l then none else g.o b}
def qp(g:FG)(F:FS):FV->FS
 |[],s=>.ok (.nx,s)
 |t::ts,s=>(aT (g t s.r)).bind λr=>(F ⟨r,s.m⟩).bind λp=>match p.1 with
  |.nx=>qp g F ts p.2
  |_=>.bad
def Dr(n:Nat)(g:FG)(F:FS)(o:FE):FS:=λs=>(o s).bind λp=>(aT (jg n p.2.m p.1)).bind λz=>(qp g F z.2.2 {p.2 with m:=p.2.m.set z.1 ⟨n,[]⟩}).bind λq=>match q.2.m[z.1]? with
 |some ob=>if ob.c=n/\ob.fs.isEmpty=true then .ok (.nx,{q.2 with m:=q.2.m.set z.1 ⟨n,[.od z.2.1 z.2.2]⟩})else .bad
 |none=>.bad
section
variable{B:KT}{g g2:G}{H H2:Hp}{σ σ2:St}{s s2:S}{k n:Nat}{l:Addr}
def SX{b:Addr}{p:iQ}(h:(g.NH l).o b=some p):b≠l/\g.o b=some p:=by
 have h:(if b=l then none else g.o b)=some p:=h
 split at h
 ·cases h
 ·rename_i e;exact⟨e,h⟩
def SR.SY{c:C}(x:SR B g H σ s)(Z:Rk B g H k ⟨n,[c]⟩ l)(hk:s.m[k]?=some ⟨n,[c]⟩)(ho:g.o l=some (.ob k)):SR B (g.NH l) (del H l) σ {s with m:=s.m.set k ⟨n,[]⟩}:=by
 have hf:=(x.st.live l _ ho).1;have ne:∀b p,g.o b=some p->p≠.ob k->(g.NH l).o b=some p/\del H l b=H b:=λb p hb hp=>by
  have:b≠l:=λe=>hp (by rw[e,ho]at hb;cases hb;rfl)
  exact⟨by show(if b=l then none else g.o b)=_;rw[if_neg this];exact hb,kM this⟩
 refine⟨⟨λb w e=>?_,λb q e=>?_,by show(s.m.set k _).length=_;rw[fh];exact x.st.len,λk' pC e=>?_⟩,x.lc.len,λi d e=>?_⟩
 ·have e:g.HF b=some w:=e
  rw[kM λz=>by rw[z,hf]at e;cases e];exact x.sub _ _ e
 ·obtain⟨hb,e⟩:=SX e
  obtain⟨h1,u,h2⟩:=x.st.live b q e;exact⟨h1,u,by rw[kM hb];exact h2⟩
 ·have e:(s.m.set k ⟨n,[]⟩)[k']?=some pC:=e
  by_cases ku:k=k'
  ·subst ku
   rw[cj (c_.mp hk).1]at e;cases e;exact .inr ⟨l,Z.al,Z.nc,Z.nf,λd z=>by cases z⟩
  ·rw[cT ku]at e
   refine(x.st.at_ k' pC e).mv (g':=g.NH l) (aO.refl _) d_ λb q h hq=>ne b q h ?_;rcases hq with rfl|⟨j,rfl⟩
   ·exact λz=>ku (by cases z;rfl)
   ·exact λz=>by cases z
 ·obtain⟨v,h1,h2⟩:=x.lc.at_ i d e
  exact⟨v,h1,aY.mv (g:=g) (g':=g.NH l) (aO.refl _) d_ (λb hb=>ne b _ hb λz=>by cases z) h2⟩
def SR.Xo{ks:List Ky}{ts:FV}{vs:List V}(x:SR B g2 H2 σ2 s2)(W6:g2.al[k]?=some l)(nc:B.cn[n]?=none)(nf:B.fn[n]?=none)(hn:H2 l=none)(hk:s2.m[k]?=some ⟨n,[]⟩)(hl:ks.length=vs.length)(rr:aB B g2.al g2.HF ts vs) :
  SR B (g2.own l (.ob k)) (upd H2 l (.dK ((ks.map jS).zip vs))) σ2 {s2 with m:=s2.m.set k ⟨n,[.od ks ts]⟩}:=by
 have hf:g2.HF l=none:=by
  cases e:g2.HF l with
  |none=>rfl
  |some u=>have:=x.sub _ _ e;rw[hn]at this;cases this
 have ne:∀b p,g2.o b=some p->(g2.own l (.ob k)).o b=some p/\upd H2 l (.dK ((ks.map jS).zip vs)) b=H2 b:=λb p hb=>by
  have:b≠l:=λe=>by
   obtain⟨_,u,h⟩:=x.st.live b p hb;rw[e,hn]at h;cases h
  exact⟨by show(if b=l then some (iQ.ob k)else g2.o b)=_;rw[if_neg this];exact hb,aq this⟩
 refine⟨⟨λb w e=>?_,λb q e=>?_,by show(s2.m.set k _).length=_;rw[fh];exact x.st.len,λk' pC e=>?_⟩,x.lc.len,λi d e=>?_⟩
 ·have e:g2.HF b=some w:=e
  rw[aq λz=>by rw[z,hf]at e;cases e];exact x.sub _ _ e
 ·have e:(if b=l then some (iQ.ob k)else g2.o b)=some q:=e
  by_cases hb:b=l
  ·subst hb
   exact⟨hf,_,ai⟩
  ·rw[if_neg hb]at e
   obtain⟨h1,u,h2⟩:=x.st.live b q e;exact⟨h1,u,by rw[aq hb];exact h2⟩
 ·have e:(s2.m.set k ⟨n,[.od ks ts]⟩)[k']?=some pC:=e
  by_cases ku:k=k'
  ·subst ku
   rw[cj (c_.mp hk).1]at e;cases e;exact .inr ⟨l,W6,nc,nf,λd z=>by cases z;exact⟨l,vs,rfl,if_pos rfl,ai,hl,rr⟩⟩
  ·rw[cT ku]at e
   exact(x.st.at_ k' pC e).mv (g':=g2.own l (.ob k)) (aO.refl _) d_ λb q h _=>ne b q h
 ·obtain⟨v,h1,h2⟩:=x.lc.at_ i d e
  exact⟨v,h1,aY.mv (g:=g2) (g':=g2.own l (.ob k)) (aO.refl _) d_ (λb hb=>ne b _ hb) h2⟩
def ez.back{u:HO}(p:ez (g.NH l) (del H l) g2 H2)(ho:g.o l=some (.ob k)):ez g H (g2.own l (.ob k)) (upd H2 l u):=by
 refine⟨p.fr,p.pre,λb w h n o=>?_,λb h=>?_⟩
 ·have:b≠l:=λe=>by rw[e,ho]at o;cases o
  obtain⟨a1,a2,a3⟩:=p.rest b w (by rw[kM this];exact h) n (by show(if b=l then none else g.o b)=none;rw[if_neg this];exact o)
  exact⟨by rw[aq this];exact a1,a2,by show(if b=l then some (iQ.ob k)else g2.o b)=none;rw[if_neg this];exact a3⟩
 ·have:b≠l:=λe=>by rw[e,ai]at h;cases h
  rw[aq this]at h
  have:=p.there b h
  rw[kM ‹b≠l›]at this;exact this
end
section
variable{B:KT}{X:Cx}{o tg:Expr}{bF bP pos:Pos}{body:Fs}{fo:FE}{n:Nat}{F:FS}
def NI{gt:TG}{fg:FG}{S':Bi}(hc:X.calm=true)(ho:PE X o (tE B fo))(hg:PG X tg gt)(E8:rB B gt fg S')(hb:jx X body (tS B F))(hp:PassesOwn (model X.prog X.w) X.A X.env X.xe)(Q2:B.cn[n]?=none)(Lu:B.fn[n]?=none)(hpl:bB o=true)(gD:(bF.endLine == bP.line)=true) :
  PS X (.For tg (.Call (.Attribute o "values" bF) [] [] bP) body [] pos) (tS B (Dr n fg F fo)):=by
 refine c9 (Hx hp hc ho hg hb (fJ hpl) gD) λD σ H z=>?_;obtain⟨g,s,oo,s',x,h,k⟩:=z;obtain⟨⟨tx,s1⟩,h1,h⟩:=aa h;obtain⟨⟨kb,ks,ts⟩,h2,h⟩:=aa h;obtain⟨⟨o3,s3⟩,h3,h⟩:=aa h;dsimp only at h3 h;split at h
 case h_2=>cases h
 rename_i ob Ve;split at h
 case isFalse=>cases h
 rename_i Xp;cases h;obtain⟨e1,m1⟩:=fV (aj h2);dsimp only at e1 m1;subst e1;refine⟨g,s,_,s1,x,h1,λv g1 H1 p1 x1 r1=>?_⟩;obtain⟨l,rfl,ha⟩:=r1;obtain⟨Z,l1,vs,q1,o1,hh,hl,rr⟩:=x1.jh Q2 m1 ha;cases q1;have x2:=x1.SY Z m1 o1;have dD:((ks.map jS).zip vs).length=ts.length:=by rw[oO,b_,hl,wY,rr.len]
 refine⟨l,(ks.map jS).zip vs,rfl,hh,λi σ2 H2=>∃g2 s2,ez (g1.NH l) (del H1 l) g2 H2/\SR B g2 H2 σ2 s2/\qp fg F (ts.drop i) s2=.ok (o3,s3),⟨_,_,.refl,x2,by rw[w_];exact h3⟩,λσ2 H2 hn ⟨g2,s2,p2,y2,iS⟩=>?_,λi σ2 H2 hn ⟨g2,s2,p2,y2,iS⟩ kv hkv=>?_⟩
 ·rw[dD,Ba]at iS
  cases iS;have Xq:s3.m[kb]?=some ⟨n,[]⟩:=by
   obtain⟨c,fs⟩:=ob;obtain⟨z1,z2⟩:=Xp;cases(show c=n from z1);cases(xl.mp z2:fs=[]);exact Ve
  have y3:=y2.Xo (ks:=ks) (ts:=ts) (bL p2.pre ha) Q2 Lu hn Xq hl (rr.mv p2.pre p2.fr);exact k σ2 _ _ (p1.trans (p2.back o1)) y3
 ·have iB:i<ts.length:=by rw[<- dD];exact(c_.mp hkv).1
  rw[zk iB]at iS;obtain⟨r3,q1,iS⟩:=aa iS;obtain⟨⟨o4,s4⟩,q2,iS⟩:=aa iS;obtain⟨w,hw,qT⟩:=rr.get (fj iB);have hv:kv.2=w:=by
   rw[List.getElem?_zip_eq_some]at hkv;rw[hw]at hkv;exact(jX.inj hkv.2).symm
  rw[hv];refine E8.ok g2.al g2.HF H2 σ2 s2.r _ w r3 _ y2.sub (qT.mv p2.pre p2.fr) (aj q1) y2.lc.len λσ4 st=>⟨g2,⟨r3,s2.m⟩,o4,s4,⟨y2.st,y2.lc.sets rfl st⟩,q2,?_⟩;cases o4 with
  |nx=>exact λσ5 g5 H5 p5 x5 _=>⟨g5,s4,p2.trans p5,x5,iS⟩
  |ct=>cases iS
  |bk=>cases iS
  |rt t=>cases iS
end
end D
namespace L2
open PySem PySem.Spec PyProof.Rows
def Al{X:Cx}(hc:X.calm=true):eV X (.builtin "sum") (λxs H Q=>∃l,∃ns:Fh,xs=[.ref l]/\cJ X.K H l (ns.map V.int)/\Q (.int ns.sum) H):=by
 intro ae s σ H xs us Q I r h;obtain⟨l,ns,rfl,hq,q⟩:=h;obtain⟨u,rfl,ru⟩:=r.one;cases ru;obtain⟨aF,rv,pl,hz⟩:=I.list hq;have hi:=intsAre_of rv;obtain⟨ys,hy⟩:=hi.allInts.items;have e:ys.toList.map (·.1)=ns:=by
  rw[<- nums_intItems,<- hy];exact hi.numsOf
 refine sum_intListG (xs:=ys) (I.ok.hd hc) (by rw[<- hy];exact pl.isList) λh' tk t' k=>⟨.int ns.sum,H,I.kept k,⟨t',?_⟩,q⟩
 rw[preSum_eq,xf (by simp),e]
end L2
namespace D
open PySem L2
def lj:FV->Option Fh
 |[]=>some []
 |.int i::ts=>(lj ts).map (i::·)
 |_=>none
def Am:FV->FX
 |[.lst ts]=>(lj ts).map λns=>.int ns.sum
 |_=>none
theorem ints_rep{B:KT}{al:D2}{H:Hp}:∀{ts:FV}{ns:Fh}{vs:List V},lj ts=some ns->aB B al H ts vs->vs=ns.map V.int
 |[],ns,vs,h,r=>by
  cases h;exact r
 |t::ts,ns,vs,h,r=>by
  cases t<;>first|(cases h;done)|skip
  rename_i i;obtain⟨ms,h1,rfl⟩:=cz.mp h;obtain⟨v,ws,rfl,r1,r2⟩:=r;cases(show v=.int i from r1);rw[ints_rep h1 r2];rfl
def S8{X:Cx}:LN X Am (λxs H Q=>∃l,∃ns:Fh,xs=[.ref l]/\cJ X.K H l (ns.map V.int)/\Q (.int ns.sum) H):=λB hB al HF H xs t ts Q sm r h k=>by
 match ts,h with
 |[.lst us],h=>
  obtain⟨ns,h1,rfl⟩:=cz.mp (show(lj us).map (λns=>T.int ns.sum)=some t from h);obtain⟨v,vs,rfl,r1,r⟩:=r;cases r;obtain⟨l,ws,rfl,q,rr⟩:=r1;cases ints_rep h1 rr;exact⟨l,ns,rfl,cJ.of (sm _ _ q),k _ HF H (.refl sm) rfl⟩
end D
namespace PySem
section
variable{prog:Program}{w:World}{A:Around}{E:Value->Shared->Prop}{R:Result->Shared->Prop}{I S:Addr}{fp wr:D2}{n:Nat}{P:Nat->Value->Prop}{St:Nat->Heap->Prop}{bt:Nat->Nat->Bool}{d:Value}
abbrev Hz(old:Array Value)(c:Nat):Obj:={cls:=.type "list",dict:=none,data:=.seq old c,slots:=#[]}
def Xr(P:Nat->Value->Prop)(bt:Nat->Nat->Bool)(i:Nat)(old:Array Value):Prop:=(old=#[]/\i=0)\/∃v j,old=#[v,v]/\i=j+1/\P (argBest bt j) v
theorem kc(W:Walks prog w A.in1 I fp wr n P St)(HA:CmpOf prog w A.in1 .Gt P bt)(ve:S∉fp)(h0:0<n):∀(k i:Nat)(s:Shared)(old:Array Value)(c:Nat),i+k=n->St i s.heap->Xr P bt i old->s.heap.get? S=some (Hz old c) ->
  (∀v h' tk,P (argBest bt (n-1)) v->(∀b o,b∉wr->b≠S->s.heap.get? b=some o->h'.get? b=some o)->R (.ok (.ret v)) {s with heap:=h',toks:=tk}) ->
  codeAny (model prog w) A (.builtin "max.loop" ⟨[.ref I,.none,.ref S],[(Str.ofString "default",d)]⟩) R s
 |0,i,s,old,c,hk,st,B,hS,hR=>by
  rcases B with⟨_,z⟩|⟨v,j,rfl,hj,pv⟩
  ·omega
  have e:n=i:=by omega
  refine codeAny_builtin F.entry_max_loop ?_;rw[Around.under_plainId F.plain_max_loop _];change wpAny _ A.in1 (seqItems? (Value.ref S) >>= _) _ _ s;refine wpAny_bind (wpAny_seqItems hS rfl ?_);change wpAny _ A.in1 (tryCatch (pyNext (Value.ref I)) _ >>= _) _ _ s;refine wpAny_bind (wpAny_tryCatch (W.done s _ _ (by rw[e];exact st) λh' tk kk=>?_))
  have Ai:=kk S _ (λz=>ve (W.sub _ z)) hS;change wpAny _ A.in1 (updateSeq S (λ_=>#[]) >>= _) _ _ _;refine wpAny_bind (wpAny_updateSeq Ai rfl (wpAny_bind (wpAny_letGo (wpAny_pure (hR v _ tk (by rw[e,hj];exact pv) λb o hb hn q=>?_)))))
  exact(Heap.get?_update_other _ _ (Ne.symm hn)).trans (kk b o hb q)
 |k+1,i,s,old,c,hk,st,B,hS,hR=>by
  have ur:(toString "max" ++ toString ".loop" : String) = "max.loop" := by decide
  refine codeAny_builtin F.entry_max_loop ?_;rw[Around.under_plainId F.plain_max_loop _];change wpAny _ A.in1 (seqItems? (Value.ref S) >>= _) _ _ s;refine wpAny_bind (wpAny_seqItems hS rfl ?_);change wpAny _ A.in1 (tryCatch (pyNext (Value.ref I)) _ >>= _) _ _ s;refine wpAny_bind (wpAny_tryCatch (W.item i s _ _ (by omega) st λv h' tk pv mF kk=>?_))
  have Ai:=kk S _ (λz=>ve (W.sub _ z)) hS;rcases B with⟨rfl,z⟩|⟨v0,j,rfl,hj,p0⟩
  ·subst z
   change wpAny _ A.in1 (updateSeq S (λ_=>#[v,v]) >>= _) _ _ _;refine wpAny_bind (wpAny_updateSeq Ai rfl ?_);rw[ur];refine wpAny_pure ⟨plainId_quiet F.plain_max_loop _,kc W HA ve h0 k 1 _ #[v,v] _ (by omega) (W.frame _ _ _ mF λb hb o q=>?_) (.inr ⟨v,0,rfl,rfl,pv⟩) (Heap.get?_update_self _ Ai rfl) λu h2 S9 pu k2=>hR u h2 S9 pu λb o hb hn q=>k2 b o hb hn ?_⟩
   ·exact(Heap.get?_update_other _ _ (λz:S=b=>ve (by rw[z];exact hb))).trans q
   ·exact(Heap.get?_update_other _ _ (Ne.symm hn)).trans (kk b o hb q)
  ·subst hj
   change wpAny _ A.in1 (tryCatch (holding [v,v] (richCompare .Gt v v0 >>= _)) _ >>= _) _ _ _;refine wpAny_bind (wpAny_tryCatch (wpAny_holding (wpAny_bind (HA (j+1) (argBest bt j) v v0 _ _ _ pv p0 (wpAny_bind (wpAny_holding (wpAny_truthy_bool (wpAny_bind (wpAny_letGo (wpAny_pure ?_))))))))));cases hb:bt (j+1) (argBest bt j)with
   |true=>
    simp only[if_true];refine wpAny_bind (wpAny_updateSeq Ai rfl (wpAny_bind (wpAny_letGo ?_)));rw[ur];refine wpAny_pure ⟨plainId_quiet F.plain_max_loop _,kc W HA ve h0 k (j+2) _ #[v,v] _ (by omega) (W.frame _ _ _ mF λb hb o q=>?_) (.inr ⟨v,j+1,rfl,rfl,by simp only[argBest,hb,if_true];exact pv⟩) (Heap.get?_update_self _ Ai rfl) λu h2 S9 pu k2=>hR u h2 S9 pu λb o hb hn q=>k2 b o hb hn ?_⟩
    ·exact(Heap.get?_update_other _ _ (λz:S=b=>ve (by rw[z];exact hb))).trans q
    ·exact(Heap.get?_update_other _ _ (Ne.symm hn)).trans (kk b o hb q)
   |false=>
    simp only[vz,if_false];refine wpAny_bind (wpAny_letGo ?_);rw[ur];exact wpAny_pure ⟨plainId_quiet F.plain_max_loop _,kc W HA ve h0 k (j+2) _ #[v0,v0] c (by omega) mF (.inr ⟨v0,j+1,rfl,rfl,by simp only[argBest,hb,vz,if_false];exact p0⟩) Ai λu h2 S9 pu k2=>hR u h2 S9 pu λb o hb hn q=>k2 b o hb hn (kk b o hb q)⟩
end
section
variable{prog:Program}{w:World}{A:Around}{E:Value->Shared->Prop}{s:Shared}{l:Addr}{xs:Array (Int×Tok)}{d:Value}
def uu(a b:Value):checkBuiltinCall "max" ⟨[a],[(Str.ofString "default",b)]⟩=pure ():=by kernel_rfl
def wo{Q:Value->Shared->Prop}(hh:A.handled=none)(hl:s.heap.IsList l (intItems xs))(kG:0<xs.size)
  (h:∀v h' tk,(intItems xs)[argBest (λi j=>decide (numAt xs i > numAt xs j)) (xs.size-1)]?=some v->(∀b o,s.heap.get? b=some o->h'.get? b=some o)->Q v {s with heap:=h',toks:=tk}) :
  wpAny (model prog w) A (call (.builtin "max") [.ref l] [(Str.ofString "default",d)]) Q E s:=by
 have ur:(toString "max" ++ toString ".loop" : String) = "max.loop" := by decide
 refine wpAny_call (codeAny_call_builtin F.plain_max F.entry_max (wpAny_of_eq (uu _ _) ?_));change wpAny _ A.in1 (Builtin.Builtins.bindParams "max" ["key","default"] 0 ⟨[],[(Str.ofString "default",d)]⟩ >>= _) _ _ s;refine wpAny_bind (wpAny_of_eq (show Builtin.Builtins.bindParams "max" ["key","default"] 0 ⟨[],[(Str.ofString "default",d)]⟩=pure [none,some d]from rfl) ?_);refine wpAny_bind (wpAny_pure (wpAny_bind (iter_intList hl λs2 e st Xh Ģ=>?_)));subst e;refine wpAny_bind (wpAny_newObj_type ?_);rw[ur];have hn:(intItems xs).size=xs.size:=by simp[intItems]
 have WL:=Walks.list (prog:=prog) (w:=w) (A:=A.in1) hh s.heap.objs.size l Ģ (intItems xs);refine wpAny_pure ⟨plainId_quiet F.plain_max_loop _,kc WL (CmpOf.ints_gt (numAt xs) (λ_ _=>intItems_at)) (λz=>lG _ (Xh _ z)) (by rw[hn];exact kG) (intItems xs).size 0 _ #[] 0 (by omega) (WL.frame 0 _ _ st λb _ o q=>Heap.get?_push_of_some _ q) (.inl ⟨rfl,rfl⟩) (Heap.get?_push_size _ rfl) λv h' tk pv kk=>h v h' tk (by rw[<- hn];exact pv) (old_kept λb o hb q=>kk b o hb ?_ (Heap.get?_push_of_some _ q))⟩
 exact fG (Heap.lt_size q)
end
end PySem
namespace D
open PySem L2
def mx:Int->Fh->Int
 |a,[]=>a
 |a,b::l=>mx (if a<b then b else a) l
theorem Ds:∀(a:Int)(l:Fh),(mx a l=a\/mx a l∈l)/\a<=mx a l/\∀b∈l,b<=mx a l
 |a,[]=>⟨.inl rfl,Int.le_refl _,λ_ h=>by cases h⟩
 |a,b::l=>by
  obtain⟨h1,h2,h3⟩:=Ds (if a<b then b else a) l
  rw[mx];by_cases h:a<b
  ·rw[if_pos h]at h1 h2 h3 ⊢
   refine⟨.inr ?_,by omega,λc hc=>?_⟩
   ·rcases h1 with e|e
    ·rw[e];exact fY ..
    ·exact bW _ e
   ·rcases gh.mp hc with rfl|hc
    ·exact h2
    ·exact h3 c hc
  ·rw[if_neg h]at h1 h2 h3 ⊢
   refine⟨?_,h2,λc hc=>?_⟩
   ·rcases h1 with e|e
    ·exact .inl e
    ·exact .inr (bW _ e)
   ·rcases gh.mp hc with rfl|hc
    ·omega
    ·exact h3 c hc
def S_{a M:Int}{l:Fh}(h:M∈a::l)(h2:∀b∈a::l,b<=M):M=mx a l:=by
 obtain⟨k1,k2,k3⟩:=Ds a l
 have:mx a l<=M:=by
  rcases k1 with e|e
  ·rw[e];exact h2 _ (fY ..)
  ·exact h2 _ (bW _ e)
 have:M<=mx a l:=by
  rcases gh.mp h with rfl|h
  ·exact k2
  ·exact k3 _ h
 omega
section
variable{X:Cx}{B:KT}{a:Expr}{ta:TA}{p pos p1 kp:Pos}{k1:Nat}{i:Int}{fa:FE}
def HB(hg:Gl X "max")(hm:X.mg "max" = none)(Xs:X.calm=true)(ha:PA X [a] ta)(hs:starEach [a] X.env=[(false,eval a X.env)]) :
  PE X (.Call (.Name "max" p) [a] [⟨some (Str.ofString "default"),.Constant (.int i) k1 p1,kp⟩] pos) (λσ H Q=>ta σ H λvs H1=>∃l n,∃ns:Fh,vs=[.ref l]/\cJ X.K H1 l ((n::ns).map V.int)/\Q (.int (mx n ns)) H1):=by
 intro ae s σ H Q I h;refine wpAny_Call_Name_kw (fk I hg hm J7 ?_);refine Jl (P:=λ_=>True) (by rw[hs];rfl) (λh _=>⟨.machine,.inr (.inl rfl),.now⟩) ?_
 refine J2 rfl (bJ (ha pos ae s σ H _ I h) λus s1 ⟨vs,H1,I1,r1,q1⟩=>?_) hs;show wpAny _ _ (evalAll [(do let v <- eval (.Constant (.int i) k1 p1) X.env;standAt pos;pure v)]) _ _ s1
 refine wpAny_evalAll_cons (wpAny_bind (wpAny_Constant_int (wpAny_bind (wpAny_standAt (wpAny_pure (wpAny_evalAll_nil ⟨trivial,?_⟩))))));obtain⟨l,n,ns,e,hq,q⟩:=q1;subst e;obtain⟨u,rfl,rx⟩:=vals1 r1;cases rx;have I2:Inv X ae σ H1 {s1 with toks:=s1.toks+1}:=I1.tok _
 obtain⟨aF,rv,pl,hz⟩:=I2.list hq;have hi:=intsAre_of rv;obtain⟨ys,hy⟩:=hi.allInts.items;have ey:ys.toList.map (·.1)=n::ns:=by
  rw[<- nums_intItems,<- hy];exact hi.numsOf
 have hn:ys.size=ns.length+1:=by
  have:=congrArg Bg ey
  simpa using this
 show wpAny _ _ (call (.builtin "max") [.ref l] [(Str.ofString "default",.int i s1.toks)]) _ _ {s1 with toks:=s1.toks+1}
 refine wo (xs:=ys) (I.ok.hd Xs) (by rw[<- hy];exact pl.isList) (by omega) λv h' tk pv kk=>?_
 obtain⟨t,rfl⟩:=intItems_at pv;obtain⟨b1,b2⟩:=argBest_gt (numAt ys) (ys.size-1);refine⟨.int (mx n ns),H1,I2.kept (t':=tk) kk,⟨t,?_⟩,q⟩;rw[S_ (a:=n) (l:=ns) (M:=numAt ys (argBest (λi j=>decide (numAt ys i > numAt ys j)) (ys.size-1))) ?_ λc hc=>?_]
 ·rw[<- ey,numAt_eq];exact getD_mem (by rw[b_,Array.length_toList];omega)
 ·rw[<- ey]at hc
  obtain⟨j,hj,rfl⟩:=mem_getD hc;rw[b_,Array.length_toList]at hj;rw[<- numAt_eq];exact b2 j (by omega)
def HC(i:Int)(a:FE):FE:=λs=>(a s).bind λp=>match p.1 with
 |.lst ts=>(match lj ts with
  |some (n::ns)=>.ok (.int (mx n ns),p.2)
  |_=>.bad)
 |_=>.bad
def NJ(hg:Gl X "max")(hm:X.mg "max" = none)(Xs:X.calm=true)(ha:PE X a (tE B fa))(hs:noStar a=true) :
  PE X (.Call (.Name "max" p) [a] [⟨some (Str.ofString "default"),.Constant (.int i) k1 p1,kp⟩] pos) (tE B (HC i fa)):=by
 refine aP (HB hg hm Xs (aV ha cu (ao hs)) (ao hs)) λσ H Q z=>?_;obtain⟨g,s,t,s',x,h,k⟩:=z;obtain⟨⟨tx,s1⟩,h1,h⟩:=aa h;dsimp only at h;split at h
 ·split at h
  ·rename_i u_
   cases h;refine⟨g,s,_,_,x,h1,λv g1 H1 p1 x1 r1=>?_⟩;obtain⟨l,vs,rfl,q,r⟩:=r1;cases ints_rep u_ r;exact⟨l,_,_,rfl,cJ.of (x1.sub _ _ q),k _ g1 H1 p1 x1 rfl⟩
  ·cases h
 ·cases h
end
def NK:FV->FX
 |[.int i,.int j]=>some (.int (if j<i then j else i))
 |_=>none
def Tc{X:Cx}:LN X NK (λxs H Q=>∃i j,xs=[.int i,.int j]/\Q (.int (if j<i then j else i)) H):=λB hB al HF H xs t ts Q sm r h k=>by
 match ts,h with
 |[.int i,.int j],h=>
  cases h;obtain⟨v,vs,rfl,r1,r⟩:=r;obtain⟨w,ws,rfl,r2,r⟩:=r;cases r;cases r1;cases r2;exact⟨i,j,rfl,k _ HF H (.refl sm) rfl⟩
end D
namespace D
open PySem
structure Lc where
 N:BM
 sc:Scope
 mu:BM
inductive Ck where
 |fz (c n:Nat)|cp (c:Nat)|nw (c i:Nat)
structure Gm where
 P:Pg
 cs:List (Str×T)
 fs:List (Str×FV×Nat)
 cl:List (Str×Ck)
 ms:List (Str×List (Nat×Nat))
 bl:BM
 bf:BM:=[]
 bn:BM:=[]
 bs:BM:=[]
 fz:BM:=[]
def Gm.bc(M:Gm):Nat:=M.P.cn.length+M.P.tab.length
def Gm.h_(M:Gm):M.P.cn[M.bc]?=none:=xj (A2 _ _)
def Gm.Dt(M:Gm):M.P.fn[M.bc]?=none:=xj (by unfold Pg.fn;rw[b_];exact Nat.le_add_left _ _)
def kN(N:BM)(x:Str):Option Nat:=N.idxOf? x
def qq(x:Str):Bool:=x == ("__debug__" : Str) ||x == ("__classdict__" : Str)
def kg(L:Lc)(x:Str):Bool:=match L.sc.names.lookup x with
 |some .local=>!qq x
 |some .cell=>!qq x
 |_=>false
def E9(L:Lc)(x:Str):Bool:=decide (L.sc.names.lookup x=some .globalImplicit)&&!qq x
structure Rc where
 E:Lc->Expr->FE
 T:Lc->Expr->FT
 I:Lc->Expr->Expr->FL
 O:Lc->Expr->FL
def eA:List FE->FL
 |[]=>ba
 |a::r=>bH a (eA r)
def NL:List FE->FE
 |[]=>aQ
 |[a]=>a
 |a::r=>Pe a (NL r)
def Du:List FE->FE
 |[]=>aQ
 |[a]=>a
 |a::r=>ng a (Du r)
def NN:List FT->FT
 |[]=>pe
 |[a]=>a
 |a::r=>vd a (NN r)
def Dv:List FT->FT
 |[]=>pe
 |[a]=>a
 |a::r=>gu a (Dv r)
def Dw(sc outer:Scope):Scope:={sc with names:=sc.names.map λ(n,k)=>if(k == NameKind.free&&outer.kind == .function&&outer.names.lookup n == some .cell)then(n,NameKind.cell)else(n,k)}
def locals(sc:Scope):BM:=sc.names.filterMap λp=>if p.2=.local then some p.1 else none
def frees(sc:Scope):BM:=sc.names.filterMap λp=>if p.2=.free then some p.1 else none
def idxs(N:BM):BM->Option Bi
 |[]=>some []
 |x::xs=>(kN N x).bind λi=>(idxs N xs).map (i::·)
def NO(L:Lc)(sc:Scope):Bool:=decide (sc.kind=.function)&&sc.names.all (λp=>decide (p.2≠.cell)&&(decide (p.2=.local)->decide (sc.names.lookup p.1=some .local))&&(decide (p.2=.free)->(decide (sc.names.lookup p.1=some .free)&&decide (L.sc.names.lookup p.1=some .cell))))&&decide (L.sc.kind=.function)
def Pq(N:BM)(ok:Str->Bool):Expr->Option (FG×Bi)
 |.Name x _=>if ok x then(kN N x).map λi=>(setG i,[i])else none
 |.Tuple es _ _=>(namesOf es).bind λxs=>if xs.all ok then(idxs N xs).map λis=>(gG is,is)else none
 |_=>none
def isSet:Expr->Bool
 |.Set _ _ _=>true
 |_=>false
def K2(r:Rc)(L:Lc):D1->FT
 |[]=>fm
 |[c]=>r.T L c
 |_=>pe
def Dy(L:Lc)(sc:Scope):Lc:=⟨locals sc++frees sc,Dw sc L.sc,[]⟩
def nU(r:Rc)(L:Lc)(elt:Expr)(q:Comprehension)(sc:Scope):FL:=if q.is_async=0/\(NO L sc&&decide ((locals sc++frees sc).Nodup)&&!isSet q.iter&&decide (q.ifs.length<=1))=true then(match idxs L.N (frees sc),Pq (locals sc) (λx=>decide (sc.names.lookup x=some .local)) q.target with
  |some js,some (g,_)=>cC (r.I L q.target q.iter) (locals sc).length js g (K2 r (Dy L sc) q.ifs) (r.E (Dy L sc) elt)
  |_,_=>fQ)else fQ
def qr(r:Rc)(L:Lc):Expr->FL
 |.ListComp elt gs sc _=>(match gs with
  |[g]=>nU r L elt g sc
  |_=>fQ)
 |_=>fQ
def Dz(r:Rc)(L:Lc):Option Expr->FO
 |none=>q_
 |some e=>ni (r.E L e)
def yh(M:Gm)(L:Lc):BM->Option Bi
 |[]=>some []
 |y::ys=>if E9 L y&&((kN M.P.cn y).bind λd=>M.P.fn[d]?).isSome then(kN M.P.cn y).bind λd=>(yh M L ys).map (d::·)else none
def blt(M:Gm)(L:Lc)(x:Str):Bool:=M.bl.contains x&&E9 L x
def Zu(M:Gm)(r:Rc)(L:Lc)(a:Expr):Expr->FE
 |.Name y _=>(match qh.lookup y with
  |some ty=>if M.bl.contains y&&E9 L y then dq (R0 ty) (r.E L a)else aQ
  |none=>(match yh M L [y]with
   |some ds=>dq (gM M.P.sub ds) (r.E L a)
   |none=>aQ))
 |_=>aQ
def ak(l:List (Nat×Nat))(ah:Nat->Fn)(c:Nat):Option Fn:=(l.lookup c).map ah
def Vf(M:Gm)(r:Rc)(L:Lc)(o:Expr):Option FE:=(iT o).bind λq=>if M.bf.contains q.2.1&&bB q.1 then(kN M.P.an q.2.1).map λj=>au M.P.tab j (r.E L q.1)else none
def K3:Expr->Option (Expr×Expr×Pos)
 |.Subscript o i p=>some (o,i,p)
 |_=>none
def ģ(M:Gm)(L:Lc)(o:Expr):Option FE:=(asName o).bind λy=>if(M.bn.contains y&&L.mu.contains ("boxes" : Str))&&kg L y then(kN L.N y).map vF else none
def Ĥ(M:Gm)(r:Rc)(L:Lc)(o:Expr):Option FE:=(K3 o).bind λq=>(asName q.1).bind λy=>if M.bs.contains y then some (r.E L o)else none
def iV(M:Gm)(r:Rc)(L:Lc)(o:Expr):Option FE:=((Vf M r L o).or (ģ M L o)).or (Ĥ M r L o)
def uv(M:Gm)(r:Rc)(L:Lc)(a:Expr)(op:CmpOp)(b:Expr):FE:=match Hr op,iV M r L a with
 |some ne,some f=>um M.bc ne f (r.E L b)
 |_,_=>match x9 op,iV M r L b with
 |some neg,some f=>rH M.bc neg (r.E L a) f
 |_,_=>bA (aM op) (r.E L a) (r.E L b)
def wu(M:Gm)(L:Lc)(f:Str):D1->Option Expr
 |[e]=>(jH e).bind λq=>(match q.2.1,q.2.2 with
  |[a],[]=>if f=("list" : Str)/\q.1=("range" : Str)/\blt M L ("range" : Str)=true/\noStar a=true then some a else none
  |_,_=>none)
 |_=>none
def Zv(M:Gm)(L:Lc)(e:Expr):Option Expr:=(jH e).bind λq=>(match q.2.1,q.2.2 with
 |[a],[]=>if q.1=("reversed" : Str)/\blt M L ("reversed" : Str)=true/\noStar a=true then some a else none
 |_,_=>none)
def NP(M:Gm)(r:Rc)(L:Lc)(f:Str)(args:D1):Option FE:=match args with
 |[a]=>if f=("len" : Str)then(iV M r L a).map λg=>lh M.bc g else if f=("list" : Str)then(Zv M L a).map λb=>dq Hq (r.E L b)else none
 |[a,q]=>if f=("isinstance" : Str)then(iV M r L a).bind λg=>(asName q).bind λy=>if y=("list" : Str)/\blt M L ("list" : Str)=true then some (Ak M.bc g)else none else none
 |_=>none
def Td:List (Str×(FV->FX)):=("min",NK)::("max",Ho)::("sum",Am)::v5
def wx(M:Gm)(ah:Nat->Fn)(r:Rc)(L:Lc)(f:Str)(args:D1):FE:=
 if args.all noStar then(match M.fs.lookup f with
  |some (ds,i)=>if E9 L f then aw (ah i) ds (eA (args.map (r.E L)))else aQ
  |none=>(match M.cl.lookup f with
   |some (.fz c n)=>if E9 L f&&!args.isEmpty then fH c n (eA (args.map (r.E L)))else aQ
   |some (.cp c)=>(match args with
    |[a]=>if E9 L f then dq (GK c) (r.E L a)else aQ
    |_=>aQ)
   |some (.nw c i)=>if E9 L f&&!args.isEmpty then iN c (ah i) (eA (args.map (r.E L)))else aQ
   |none=>if blt M L f then(match NP M r L f args with
    |some g=>g
    |none=>match f == ("isinstance" : Str),args with
     |true,[a,q]=>Zu M r L a q
     |_,_=>(match f == ("len" : Str),args with
      |true,[.Name y p]=>(match kN L.N y with
       |some i=>if L.mu.contains y&&kg L y then jk i else bz cD (eA [r.E L (.Name y p)])
       |none=>bz cD (eA [r.E L (.Name y p)]))
      |_,_=>(match wu M L f args with
        |some a=>fq (o1 Di (r.E L a))
        |none=>(match Td.lookup f,args with
         |some g,_::_=>bz g (eA (args.map (r.E L)))
         |_,_=>aQ))))else aQ))else aQ
def DA:Const->FE
 |.int i=>cF (.int i)
 |.bool b=>cF (.bl b)
 |.none=>cF .non
 |.str s=>if s.length<=1000000 then cF (.str s.cps.toList)else aQ
 |_=>aQ
def DB(M:Gm)(L:Lc)(x:Str):FE:=match kN L.N x with
 |some i=>if kg L x then vF i else aQ
 |none=>(match M.cs.lookup x with
  |some t=>if E9 L x then cF t else aQ
  |none=>aQ)
def ĥ(a:FE):UnaryOp->FE
 |.USub=>dq j3 a
 |.Not=>nh a
 |_=>aQ
def Ħ(l:List FE):BoolOp->FE
 |.And=>Du l
 |.Or=>NL l
def Xu(M:Gm)(r:Rc)(L:Lc)(a:Expr):List CmpOp->D1->FE
 |[op],[b]=>if behindInMarks op b then aQ else uv M r L a op b
 |_,_=>aQ
def NQ(M:Gm)(r:Rc)(L:Lc)(ks:List (Option Expr))(vs:D1):FE:=match Ht ks vs with
 |some l=>if l.length<=15/\(l.map (·.1)).Nodup/\l.isEmpty=false then Hs M.bc (l.map λp=>p.1.cps.toList) (l.map λp=>r.E L p.2)else aQ
 |none=>aQ
def Vg(M:Gm)(r:Rc)(L:Lc)(o i:Expr):FE:=match iV M r L o with
 |some f=>dz M.bc f (r.E L i)
 |none=>match(asName o).bind λy=>(kN L.N y).map λk=>(y,k)with
 |some (y,k)=>if L.mu.contains y&&kg L y then lU k (r.E L i)else bA jf (r.E L o) (r.E L i)
 |none=>bA jf (r.E L o) (r.E L i)
def NR(M:Gm)(r:Rc)(L:Lc)(o:Expr):Expr->FE
 |.Slice lo hi st _=>(match st with
  |none=>(match Vf M r L o with
   |some f=>Dk M.bc f (Dz r L lo) (Dz r L hi)
   |none=>ph (r.E L o) (Dz r L lo) (Dz r L hi))
  |some _=>aQ)
 |i=>Vg M r L o i
def Xv(M:Gm)(r:Rc)(L:Lc)(o:Expr)(f:Str):FE:=if bB o then(match kN M.P.an f with
  |some j=>if M.bf.contains f then Af M.bc M.P.tab j (r.E L o)else au M.P.tab j (r.E L o)
  |none=>aQ)else aQ
def NS(M:Gm)(r:Rc)(L:Lc)(o:Expr)(m:Str):D1->Option FE
 |[b,d]=>if m=("get" : Str)then(iV M r L o).map λf=>rJ M.bc f (r.E L b) (r.E L d)else none
 |_=>none
def NT(M:Gm)(r:Rc)(L:Lc)(o:Expr)(m:Str)(args:D1):Option FE:=match args with
 |[b]=>(match hU b with
  |some (.int 0)=>if m=("pop" : Str)then(iV M r L o).map λf=>nS M.bc f else none
  |_=>none)
 |_=>none
def NU(M:Gm)(ah:Nat->Fn)(r:Rc)(L:Lc)(o:Expr)(m:Str)(ap:Pos)(args:D1)(cp:Pos):FE:=if bB o&&args.all noStar&&decide (args.length<29)&&ap.endLine == cp.line then(match NS M r L o m args with
   |some f=>f
   |none=>match NT M r L o m args with
   |some f=>f
   |none=>match M.ms.lookup m with
   |some l=>av (ak l ah) (r.E L o) (eA (args.map (r.E L)))
   |none=>(match vY.lookup m,args with
    |some g,_::_=>pA g (r.E L o) (eA (args.map (r.E L)))
    |_,_=>aQ))else aQ
def Xw(M:Gm)(ah:Nat->Fn)(r:Rc)(L:Lc)(args:D1)(cp:Pos):Expr->FE
 |.Name f _=>wx M ah r L f args
 |.Attribute o m ap=>NU M ah r L o m ap args cp
 |_=>aQ
def NV(M:Gm)(r:Rc)(L:Lc)(f:Expr)(args:D1)(ks:List Keyword):FE:=match asName f,args,ks with
 |some y,[a],[w]=>(match hU w.value with
  |some (.int i)=>if y=("max" : Str)/\blt M L ("max" : Str)=true/\noStar a=true/\w.arg=some ("default" : Str)then HC i (r.E L a)else aQ
  |_=>aQ)
 |_,_,_=>aQ
def Vh(M:Gm)(r:Rc)(L:Lc)(e:Expr):FE:=match(asName e).bind λy=>if M.fz.contains y&&kg L y then kN L.N y else none with
 |some i=>wm M.bc i
 |none=>r.E L e
def K4(M:Gm)(ah:Nat->Fn)(r:Rc)(L:Lc):Expr->FE
 |.Constant c _ _=>DA c
 |.Name x _=>DB M L x
 |.BinOp a op b _=>bA (dP op) (r.E L a) (r.E L b)
 |.UnaryOp op a _=>ĥ (r.E L a) op
 |.BoolOp op es _=>Ħ (es.map (r.E L)) op
 |.Compare a ops bs _=>Xu M r L a ops bs
 |.IfExp c a b _=>xH (r.T L c) (r.E L a) (r.E L b)
 |.Tuple es _ _=>if es.all noStar then bz gq (eA (es.map (Vh M r L)))else aQ
 |.List es _=>if es.all noStar then bz dj (eA (es.map (r.E L)))else aQ
 |.Subscript o i _=>NR M r L o i
 |.Attribute o f _=>Xv M r L o f
 |.Dict ks vs _=>NQ M r L ks vs
 |.ListComp elt gs sc p=>fq (qr r L (.ListComp elt gs sc p))
 |.Call f args ks cp=>(match ks with
  |[]=>Xw M ah r L args cp f
  |k::ks=>NV M r L f args (k::ks))
 |_=>aQ
def ħ(l:List FT):BoolOp->FT
 |.And=>Dv l
 |.Or=>NN l
def Xx(M:Gm)(r:Rc)(L:Lc)(a:Expr):List CmpOp->D1->FT
 |[op],[b]=>if behindInMarks op b then pe else bu (uv M r L a op b)
 |_,_=>pe
def stepT(M:Gm)(r:Rc)(L:Lc)(e:Expr):FT:=match e with
 |.BoolOp op es _=>ħ (es.map (r.T L)) op
 |.UnaryOp op a _=>(match op with
  |.Not=>dH (r.T L a)
  |_=>tB (r.E L e))
 |.Compare a ops bs _=>Xx M r L a ops bs
 |.IfExp _ _ _ _=>pe
 |_=>tB (r.E L e)
def yi(e:Expr):Option D1:=(jH e).bind λq=>if q.1=("range" : Str)/\q.2.2.isEmpty=true then some q.2.1 else none
noncomputable def uw(e:Expr):Option (Expr×Int):=(jH e).bind λq=>if q.1=("enumerate" : Str)then(match q.2.1 with
 |[a]=>(match q.2.2 with
  |[]=>some (a,0)
  |[w]=>(match hU w.value with
   |some (.int n)=>if w.arg=some ("start" : Str)/\n=1 then some (a,n)else none
   |_=>none)
  |_=>none)
 |_=>none)else none
def NW:Expr->Bool
 |.Tuple _ _ _=>true
 |_=>false
def HD:Expr->Bool
 |.Name _ _=>true
 |_=>false
def DC(e:Expr):Option Expr:=(jH e).bind λq=>(match q.2.1,q.2.2 with
 |[a],[]=>if q.1=("reversed" : Str)/\noStar a=true then some a else none
 |_,_=>none)
def stepI(M:Gm)(r:Rc)(L:Lc)(tg e:Expr):FL:=match yi e with
 |some args=>if blt M L ("range" : Str)&&args.all noStar then(match args with
   |[a]=>vR nj (eA [r.E L a])
   |[a,b]=>vR nj (eA [r.E L a,r.E L b])
   |[a,b,c]=>vR Ah (eA [r.E L a,r.E L b,r.E L c])
   |_=>fQ)else fQ
 |none=>(match uw e with
  |some (a,n)=>if blt M L ("enumerate" : Str)&&NW tg&&noStar a then jl n (r.E L a)else fQ
  |none=>match DC e with
  |some a=>if blt M L ("reversed" : Str)then o1 Nv (r.E L a)else fQ
  |none=>if HD tg then k7 (r.E L e)else Ab (r.E L e))
def NY(M:Gm)(r:Rc)(L:Lc)(f:Str)(args:D1):FL:=if blt M L f then match wu M L f args with
 |some a=>o1 Di (r.E L a)
 |none=>(match args with
  |[a]=>if f=("list" : Str)/\noStar a=true then o1 Xe (r.E L a)else fQ
  |_=>fQ)else fQ
def K5(M:Gm)(r:Rc)(L:Lc):Expr->FL
 |.IfExp c a b _=>Vc (r.T L c) (r.O L a) (r.O L b)
 |.BinOp a op b _=>(match op with
  |.Mult=>o2 Nu (r.E L a) (r.E L b)
  |.Add=>o2 Hi (r.E L a) (r.E L b)
  |_=>fQ)
 |.Call f args ks _=>(match ks with
  |[]=>(match asName f with
   |some y=>NY M r L y args
   |none=>fQ)
  |_::_=>fQ)
 |.List es _=>if es.all noStar then iR (eA (es.map (r.E L)))else fQ
 |.ListComp elt gs sc p=>qr r L (.ListComp elt gs sc p)
 |_=>fQ
def comp(M:Gm)(ah:Nat->Fn):Nat->Rc
 |0=>⟨λ_ _=>aQ,λ_ _=>pe,λ_ _ _=>fQ,λ_ _=>fQ⟩
 |n+1=>⟨K4 M ah (comp M ah n),stepT M (comp M ah n),stepI M (comp M ah n),K5 M (comp M ah n)⟩
def DE(L:Lc)(t:Str)(tp:Pos):Expr->Bool
 |.ListComp _ _ sc p=>(if L.sc.kind.isAnnotationScope then ScopeKind.function else L.sc.kind) == .function&&L.sc.names.lookup t == some .local&&tp.line == p.line&&!(sc.names.any λ(n,k)=>n == t&&(k == .local ||k == .cell))
 |_=>false
def An:Expr->Bool
 |.ListComp _ _ _ _=>true
 |.SetComp _ _ _ _=>true
 |.DictComp _ _ _ _ _=>true
 |_=>false
noncomputable def yj(mu:BM)(e:Expr):Option (Str×Expr):=(nK e).bind λq=>(iT q.1).bind λw=>(asName w.1).bind λy=>(match q.2.1,q.2.2.1 with
 |[a],[]=>if w.2.1=("append" : Str)/\mu.contains y=true/\noStar a=true/\(w.2.2.endLine == q.2.2.2.line)=true then some (y,a)else none
 |_,_=>none)
def yk:Expr->Bool
 |.Dict [] [] _=>true
 |_=>false
def DF(M:Gm)(ah:Nat->Fn)(n:Nat)(L:Lc)(x:Str)(e:Expr):FS:=match kN L.N x with
 |some i=>if kg L x then(if L.mu.contains x then(if yk e then x_ i else gX i ((comp M ah n).O L e))else aI i ((comp M ah n).E L e))else cW
 |none=>cW
abbrev many:Nat:=1000000
def NZ(M:Gm)(ah:Nat->Fn)(n:Nat)(L:Lc)(f:Str)(e:Expr):FE:=if M.bf.contains f then(if yk e then lW M.bc else ig M.bc ((comp M ah n).O L e))else(comp M ah n).E L e
def N4(M:Gm)(ah:Nat->Fn)(n:Nat)(L:Lc)(o:Expr)(f:Str)(e:Expr):FS:=match kN M.P.an f with
  |some j=>aJ M.P.tab j ((comp M ah n).E L o) (NZ M ah n L f e)
  |none=>cW
def N5(M:Gm)(ah:Nat->Fn)(n:Nat)(L:Lc)(o b e:Expr):FS:=if An e then cW else match iV M (comp M ah n) L o with
 |some f=>dI M.bc f ((comp M ah n).E L b) ((comp M ah n).E L e)
 |none=>match(asName o).bind λy=>if kg L y then kN L.N y else none with
  |some i=>if isSlice b then cW else cU i ((comp M ah n).E L b) ((comp M ah n).E L e)
  |none=>cW
def Ĩ(M:Gm)(ah:Nat->Fn)(n:Nat)(L:Lc)(e:Expr):Expr->FS
 |.Name x _=>DF M ah n L x e
 |.Attribute o f _=>N4 M ah n L o f e
 |.Subscript o b _=>N5 M ah n L o b e
 |_=>cW
def N6(M:Gm)(ah:Nat->Fn)(n:Nat)(L:Lc)(t:Expr)(op:Operator)(e:Expr):FS:=match(iT t).bind λq=>(kN M.P.an q.2.1).map λj=>(q.1,j)with
  |some (o,j)=>if op=.Add then nR M.P.tab j fD ((comp M ah n).E L o) ((comp M ah n).E L e)else cW
  |none=>match(asName t).bind λx=>(kN L.N x).map λi=>(x,i)with
  |some (x,i)=>if op=.Add/\kg L x=true then tD fD i ((comp M ah n).E L e)else cW
  |none=>cW
def Te(M:Gm)(r:Rc)(L:Lc)(e:Expr):Option (FE×Expr):=(nK e).bind λq=>(iT q.1).bind λw=>(iV M r L w.1).bind λf=>(match q.2.1,q.2.2.1 with
 |[a],[]=>if w.2.1=("append" : Str)/\noStar a=true/\(w.2.2.endLine == q.2.2.2.line)=true then some (f,a)else none
 |_,_=>none)
def Xy(M:Gm)(ah:Nat->Fn)(n:Nat)(L:Lc)(e:Expr):FS:=match Te M (comp M ah n) L e with
  |some (f,a)=>eZ M.bc f ((comp M ah n).E L a)
  |none=>match yj L.mu e with
  |some (y,a)=>(match kN L.N y with
   |some i=>if kg L y then iO i ((comp M ah n).E L a)else cW
   |none=>cW)
  |none=>if An e then cW else aK ((comp M ah n).E L e)
def retS(M:Gm)(ah:Nat->Fn)(n:Nat)(L:Lc):Option Expr->FS
 |some e=>if L.mu.contains ("return" : Str)then aA (ig M.bc ((comp M ah n).O L e))else aA ((comp M ah n).E L e)
 |none=>aA (cF .non)
def Tf(M:Gm)(r:Rc)(L:Lc)(e:Expr):Option FE:=(nK e).bind λq=>(iT q.1).bind λw=>(iV M r L w.1).bind λf=>(match q.2.1,q.2.2.1 with
 |[],[]=>if w.2.1=("values" : Str)/\(w.2.2.endLine == q.2.2.2.line)=true then some f else none
 |_,_=>none)
def N7(M:Gm)(ah:Nat->Fn)(n:Nat)(L:Lc)(b:FS)(tg it:Expr):FS:=match Tf M (comp M ah n) L it with
 |some f=>(match Pq L.N (kg L) tg with
  |some (g,_)=>Dr M.bc g b f
  |none=>cW)
 |none=>if isSet it then cW else(match Pq L.N (kg L) tg with
  |some (g,_)=>f6 ((comp M ah n).I L tg it) g b
  |none=>cW)
def Xz(M:Gm)(ah:Nat->Fn)(n:Nat)(rS:Lc->Fs->FS)(L:Lc):Stmt->FS
 |.Assign ts e _=>(match ts with
  |[t]=>Ĩ M ah n L e t
  |_=>cW)
 |.AugAssign t op e _=>N6 M ah n L t op e
 |.Expr e _=>Xy M ah n L e
 |.Return o _=>retS M ah n L o
 |.If c a b _=>aR ((comp M ah n).T L c) (rS L a) (rS L b)
 |.For tg it body oe _=>(match oe with
  |[]=>N7 M ah n L (rS L body) tg it
  |_::_=>cW)
 |.While c body oe _=>(match oe with
  |[]=>gY many ((comp M ah n).T L c) (rS L body)
  |_::_=>cW)
 |.Try body hs oe fb _=>(match hs,oe,fb with
  |_::_,[],[]=>rS L body
  |_,_,_=>cW)
 |.Pass _=>aC
 |.Break _=>Ri
 |.Continue _=>Rj
 |_=>cW
def kO(M:Gm)(ah:Nat->Fn)(n:Nat):Nat->Lc->Fs->FS
 |0,_,_=>cW
 |_+1,_,[]=>aC
 |k+1,L,[st]=>Xz M ah n (kO M ah n k) L st
 |k+1,L,st::rest=>af (Xz M ah n (kO M ah n k) L st) (kO M ah n k L rest)
end D
namespace D
open PySem L2
structure DG(M:Gm)(Pr:Program)(w:World)(K:bD)(mg:Str->Dx)(base:Heap)(ah:Nat->Fn)(k:Nat):Prop where
 pg:nF K mg M.P
 cst:∀x t,M.cs.lookup x=some t->x8 K mg x t
 fns:∀x ds i,M.fs.lookup x=some (ds,i)->W3 M.P Pr w K mg base k x ds (ah i)
 fz:∀x c n,M.cl.lookup x=some (.fz c n)->Y9 M.P Pr w K mg base k c n x
 cp:∀x c,M.cl.lookup x=some (.cp c)->Zg M.P Pr w K mg base k c x
 nw:∀x c i,M.cl.lookup x=some (.nw c i)->Ze M.P Pr w K mg base k c x (ah i)
 mts:∀m l c i,M.ms.lookup m=some l->l.lookup c=some i->U7 M.P Pr w K mg base k c m (ah i)
 bl:∀x,x∈M.bl->mg x=none
structure CxOk(M:Gm)(ah:Nat->Fn)(k:Nat)(L:Lc)(X:Cx):Prop where
 gm:DG M X.prog X.w X.K X.mg X.base ah k
 N:X.N=L.N
 sc:X.env.scope=L.sc
 calm:X.calm=true
 room:∃j,k+1<=j/\bM j X.A
variable{X:Cx}{a b c e o:Expr}{M:Gm}{L:Lc}{es:D1}{i k:Nat}{ah:Nat->Fn}{bF bP p pos bU:Pos}{K:bD}{r:Rc}{x y:Str}{mg:Str->Dx}
def ia{N:BM}{x:Str}{i:Nat}(h:kN N x=some i):N[i]?=some x:=by
 unfold kN at h;rw[Jw,Jx]at h;obtain⟨hj,h1,_⟩:=h;rw[fj hj,eq_of_beq h1]
def Vi(h:qq x=false):df x/\kB x:=by
 unfold qq at h;exact Bool.or_eq_false_iff.mp h
def gx(C:CxOk M ah k L X)(h:kg L x=true):Loc X.env.scope x/\xo X.env.scope x/\df x/\kB x:=by
 rw[C.sc];unfold kg at h;split at h
 ·rename_i e
  obtain⟨h1,h2⟩:=Vi (by simpa using h)
  exact⟨.inl e,.inl e,h1,h2⟩
 ·rename_i e
  obtain⟨h1,h2⟩:=Vi (by simpa using h)
  exact⟨.inr e,.inr (.inl e),h1,h2⟩
 ·cases h
def lr(C:CxOk M ah k L X)(h:E9 L x=true):Gl X x/\df x:=by
 unfold E9 at h;rw[dh]at h;obtain⟨h1,h2⟩:=h;refine⟨?_,(Vi (by simpa using h2)).1⟩
 show X.env.scope.names.lookup x=_;rw[C.sc];exact of_decide_eq_true h1
def sj(M:Gm)(X:Cx)(r:Rc)(L:Lc):Prop:=∀e,PE X e (tE (M.P.kt X) (r.E L e))
def XA(M:Gm)(X:Cx)(r:Rc)(L:Lc):Prop:=∀e,PT X e (tT (M.P.kt X) (r.T L e))
def ĩ(M:Gm)(X:Cx)(r:Rc)(L:Lc):Prop:=∀tg e,PI X tg e (tI (M.P.kt X) (r.I L tg e))
def Ī(M:Gm)(X:Cx)(r:Rc)(L:Lc):Prop:=∀e,PE X e (tO (M.P.kt X) (r.O L e))
def wB(M:Gm)(ah:Nat->Fn)(k:Nat)(r:Rc):Prop:=∀L X,CxOk M ah k L X->sj M X r L/\XA M X r L/\ĩ M X r L/\Ī M X r L
theorem kh(hE:sj M X r L):∀es:D1,es.all noStar=true->PA X es (tA (M.P.kt X) (eA (es.map (r.E L))))
 |[],_=>rj
 |e::es,h=>by
  rw[eU,dh]at h;exact mi (hE e) (kh hE es h.2) (ao h.1)
theorem ux(hE:sj M X r L):∀es:D1,PE X (.BoolOp .And es pos) (tE (M.P.kt X) (Du (es.map (r.E L))))
 |[]=>a_
 |[a]=>Cz (hE a)
 |a::b::es=>MH (hE a) (ux hE (b::es))
theorem yl(hE:sj M X r L):∀es:D1,PE X (.BoolOp .Or es pos) (tE (M.P.kt X) (NL (es.map (r.E L))))
 |[]=>a_
 |[a]=>Cz (hE a)
 |a::b::es=>Ru (hE a) (yl hE (b::es))
def Tg:PW X e (tT (M.P.kt X) pe):=λ_ _ _ _ _ _ _ ⟨_,_,_,_,_,h,_⟩=>by cases h
theorem uy(hT:XA M X r L):∀es:D1,PW X (.BoolOp .And es pos) (tT (M.P.kt X) (Dv (es.map (r.T L))))
 |[]=>Tg
 |[a]=>MG (hT a)
 |a::b::es=>Rr (hT a) (uy hT (b::es))
theorem ym(hT:XA M X r L):∀es:D1,PW X (.BoolOp .Or es pos) (tT (M.P.kt X) (NN (es.map (r.T L))))
 |[]=>Tg
 |[a]=>Rq (hT a)
 |a::b::es=>Wz (hT a) (ym hT (b::es))
def dR{α:Type}{l:List (Str×α)}{x:Str}{a:α}(h:l.lookup x=some a):(x,a)∈l:=by
 induction l with
 |nil=>simp at h
 |cons p l ih=>
  obtain⟨q,b⟩:=p;rw[ju]at h;split at h
  ·rename_i e
   cases h;rw[eq_of_beq e];exact fY ..
  ·exact bW _ (ih h)
theorem DH(C:CxOk M ah k L X):∀{ys:BM}{ds:Bi},yh M L ys=some ds->ys.length=ds.length/\∀(i d:Nat)(y:Str),ds[i]?=some d->ys[i]?=some y->M.P.cn[d]?=some y/\(M.P.fn[d]?).isSome=true/\Gl X y/\df y
 |[],ds,h=>by
  cases h;exact⟨rfl,λi d y h=>by simp at h⟩
 |y::ys,ds,h=>by
  unfold yh at h;split at h
  ·rename_i q
   rw[dh]at q;obtain⟨d,h1,h2⟩:=dM.mp h;obtain⟨ds',h3,rfl⟩:=cz.mp h2;obtain⟨h4,h5⟩:=DH C h3;obtain⟨g1,g2⟩:=lr C q.1;refine⟨by simp[h4],λi d' y' e1 e2=>?_⟩
   cases i with
   |zero=>
    simp at e1 e2;subst e1 e2;refine⟨ia h1,?_,g1,g2⟩;have q2:=q.2;rw[h1]at q2;exact q2
   |succ i=>exact h5 i d' y' (by simpa using e1) (by simpa using e2)
  ·cases h
def dU(C:CxOk M ah k L X)(h:blt M L x=true):Gl X x/\X.mg x=none/\df x:=by
 unfold blt at h;rw[dh]at h;obtain⟨g1,g2⟩:=lr C h.2;exact⟨g1,C.gm.bl x (Bq.mp h.1),g2⟩
def Th(C:CxOk M ah k L X)(hE:sj M X r L){q:Expr}(hb:blt M L ("isinstance" : Str)=true)(hs:noStar a=true):PE X (.Call (.Name "isinstance" p) [a,q] [] pos) (tE (M.P.kt X) (Zu M r L a q)):=by
 obtain⟨hg,hm,_⟩:=dU C hb;cases q with
 |Name y py=>
  show PE X _ (tE (M.P.kt X) (match qh.lookup y with|some ty=>_|none=>_))
  split
  ·rename_i ty V4
   split
   ·rename_i q
    rw[dh]at q;obtain⟨g1,g2⟩:=lr C q.2;exact MX rfl (dR V4) hm (C.gm.bl _ (Bq.mp q.1)) (hE a) hg g1 hs
   ·exact a_
  ·split
   ·rename_i ds E7
    obtain⟨h1,h2⟩:=DH C E7
    match ds,h1,h2 with
    |[d],_,h2=>
     obtain⟨f1,f2,f3,f4⟩:=h2 0 d y rfl rfl;exact R4 C.gm.pg f1 hm (hE a) hg f3 hs f4 f2
   ·exact a_
 |_=>exact a_
def uz{f:Str}{args:D1}(h:wu M L f args=some a):f=("list" : Str)/\blt M L ("range" : Str)=true/\noStar a=true/\∃p1 nN,args=[.Call (.Name "range" p1) [a] [] nN]:=by
 match args,h with
 |[e],h=>
  obtain⟨⟨g,as,ks⟩,h1,hh⟩:=dM.mp h;obtain⟨p1,nN,rfl⟩:=eO h1
  match as,ks,hh with
  |[a'],[],hq=>
   dsimp only at hq;split at hq
   ·rename_i q
    obtain⟨rfl,rfl,q3,q4⟩:=q;cases hq;exact⟨rfl,q3,q4,_,_,rfl⟩
   ·cases hq
def yn{e:Expr}{q}(h:K3 e=some q):e=.Subscript q.1 q.2.1 q.2.2:=by
 cases e<;>first|(cases h;done)|(cases h;rfl)
def eQ(C:CxOk M ah k L X)(hE:sj M X r L){f:FE}(h:iV M r L o=some f):PE X o (tE (M.P.kt X) f)/\bB o=true/\∀op,behindInMarks op o=false:=by
 rcases JU.mp h with h|⟨_,h⟩
 ·rcases JU.mp h with h|⟨_,h⟩
  ·obtain⟨q,h1,h⟩:=dM.mp h
   rw[i8 h1];split at h
   ·rename_i z
    rw[dh]at z;obtain⟨j,h2,rfl⟩:=cz.mp h;exact⟨KG C.gm.pg (ia h2) (hE _) z.2,rfl,λop=>by cases op<;>rfl⟩
   ·cases h
  ·obtain⟨y,h1,h3⟩:=dM.mp h
   clear h;obtain⟨py,rfl⟩:=cH h1;split at h3
   ·rename_i z
    rw[dh]at z;obtain⟨i,h2,rfl⟩:=cz.mp h3;obtain⟨l1,l2,l3,l4⟩:=gx C z.2;exact⟨Kq (by rw[C.N];exact ia h2) l2 l3 l4,rfl,λop=>by cases op<;>rfl⟩
   ·cases h3
 ·obtain⟨q,h1,h⟩:=dM.mp h
  obtain⟨y,h2,h⟩:=dM.mp h;split at h
  ·cases h
   refine⟨hE o,?_,?_⟩
   ·rw[yn h1];rfl
   ·rw[yn h1];exact λop=>by cases op<;>rfl
  ·cases h
def HE(C:CxOk M ah k L X)(hE:sj M X r L){op:CmpOp}(h:behindInMarks op b=false):PE X (.Compare a [op] [b] pos) (tE (M.P.kt X) (uv M r L a op b)):=by
 obtain⟨j,hj,hr⟩:=C.room;unfold uv;split
 ·rename_i ne f h1 h2
  exact SM rfl M.h_ hr h1 (eQ C hE h2).1 (hE b) h
 split
 ·rename_i neg f h1 h2
  exact Np M.h_ hr h1 (hE a) (eQ C hE h2).1 h
 exact Nj rfl hr (hE a) (hE b) h
def DI(C:CxOk M ah k L X)(hE:sj M X r L){op:CmpOp}(h:behindInMarks op b=false):PT X (.Compare a [op] [b] pos) (tT (M.P.kt X) (bu (uv M r L a op b))):=by
 obtain⟨j,hj,hr⟩:=C.room;unfold uv;split
 ·rename_i ne f h1 h2
  exact NF rfl M.h_ hr h1 (eQ C hE h2).1 (hE b) h
 split
 ·rename_i neg f h1 h2
  exact Nq M.h_ hr h1 (hE a) (eQ C hE h2).1 h
 exact Hg rfl hr (hE a) (hE b) h
def N8{e a:Expr}(h:Zv M L e=some a):blt M L ("reversed" : Str)=true/\noStar a=true/\∃p1 nN,e=.Call (.Name "reversed" p1) [a] [] nN:=by
 obtain⟨q,h1,h⟩:=dM.mp h;split at h
 ·rename_i b ha hk
  split at h
  ·rename_i z
   cases h;obtain⟨p1,nN,rfl⟩:=eO h1;obtain⟨f,as,ks⟩:=q;cases(show as=_ from ha);cases(show ks=_ from hk);cases(show f=_ from z.1);exact⟨z.2.1,z.2.2,_,_,rfl⟩
  ·cases h
 ·cases h
def HG(C:CxOk M ah k L X)(hE:sj M X r L){f:Str}{args:D1}{g:FE}(g1:Gl X f)(g2:X.mg f=none)(hs:args.all noStar=true)(h:NP M r L f args=some g):PE X (.Call (.Name f p) args [] pos) (tE (M.P.kt X) g):=by
 unfold NP at h;split at h
 ·rename_i a
  have hs:noStar a=true:=by simpa using hs
  split at h
  ·rename_i e
   subst e;obtain⟨fo,h1,rfl⟩:=cz.mp h;exact NB M.h_ (eQ C hE h1).1 hs g1 g2
  split at h
  ·rename_i e
   subst e;obtain⟨b,h1,rfl⟩:=cz.mp h;obtain⟨z1,z2,p1,nN,rfl⟩:=N8 h1;obtain⟨k1,k2,_⟩:=dU C z1;exact ND C.calm g2 k2 g1 k1 (hE b) z2
  ·cases h
 ·rename_i a q
  rw[eU,dh]at hs;split at h
  ·rename_i e
   subst e;obtain⟨fo,h1,h⟩:=dM.mp h;obtain⟨y,h2,h⟩:=dM.mp h;split at h
   ·rename_i z
    cases h;obtain⟨py,rfl⟩:=cH h2;obtain⟨z1,z2⟩:=z;subst z1;obtain⟨k1,k2,_⟩:=dU C z2;exact SN M.h_ (eQ C hE h1).1 g2 k2 g1 k1 hs.1
   ·cases h
  ·cases h
 ·cases h
def HH(hc:X.calm=true):∀p∈Td,W2 X p.1 p.2:=by
 intro p h;rcases gh.mp h with rfl|h
 ·exact⟨⟨_,Tc,.inl ⟨_,PyProof.Rows.boot_min,zK hc⟩⟩,by decide,by decide⟩
 rcases gh.mp h with rfl|h
 ·exact⟨⟨_,SK,.inl ⟨_,J7,zJ hc⟩⟩,by decide,by decide⟩
 rcases gh.mp h with rfl|h
 ·exact⟨⟨_,S8,.inl ⟨_,PyProof.Rows.boot_sum,Al hc⟩⟩,by decide,by decide⟩
 ·exact C2 hc p h
def DJ(C:CxOk M ah k L X)(hE:sj M X r L)(f:Str)(args:D1):PE X (.Call (.Name f p) args [] pos) (tE (M.P.kt X) (wx M ah r L f args)):=by
 obtain⟨j,hj,hr⟩:=C.room;unfold wx;split
 case isFalse=>exact a_
 rename_i hs;have hA:=kh hE args hs;split
 ·rename_i ds i hf
  split
  case isFalse=>exact a_
  rename_i q;obtain⟨g1,g2⟩:=lr C q;cases args with
  |nil=>exact G6 (C.gm.fns f ds i hf) hr (by omega) g1 g2
  |cons a args=>exact s_call (C.gm.fns f ds i hf) hr (by omega) hA g1 g2 hs
 ·split
  ·rename_i c n hc
   split
   case isFalse=>exact a_
   rename_i q;rw[dh]at q;obtain⟨g1,g2⟩:=lr C q.1;cases args with
   |nil=>cases q.2
   |cons a args=>exact R5 (C.gm.fz f c n hc) hr hj hA g1 g2 hs
  ·rename_i c hc
   split
   ·rename_i a
    split
    case isFalse=>exact a_
    rename_i q;obtain⟨g1,g2⟩:=lr C q;exact Nf (C.gm.cp f c hc) hr hj (hE a) g1 g2 (by simpa using hs)
   ·exact a_
  ·rename_i c i hc
   split
   case isFalse=>exact a_
   rename_i q;rw[dh]at q;obtain⟨g1,g2⟩:=lr C q.1;cases args with
   |nil=>cases q.2
   |cons a args=>exact Nd (C.gm.nw f c i hc) hr hj hA g1 g2 hs
  ·split
   case isFalse=>exact a_
   rename_i hb;obtain⟨g1,g2,g3⟩:=dU C hb;split
   ·rename_i g hg
    exact HG C hE g1 g2 hs hg
   split
   ·rename_i a q e _
    have e:=eq_of_beq e;subst e;rw[eU,dh]at hs;exact Th C hE hb hs.1
   ·split
    ·rename_i y py e _ _
     have e:=eq_of_beq e;subst e;have main:PE X (.Call (.Name "len" p) [.Name y py] [] pos) (tE (M.P.kt X) (bz cD (eA [r.E L (.Name y py)]))):=KD (C2 C.calm ("len",cD) (fY ..)) rfl g1 g2 hA hs;split
     ·rename_i i hi
      split
      ·rename_i q
       rw[dh]at q;obtain⟨l1,l2,l3,l4⟩:=gx C q.2;exact Hd rfl (by rw[C.N];exact ia hi) l2 l3 l4 g1 g2
      ·exact main
     ·exact main
    ·split
     ·rename_i a ha
      obtain⟨rfl,h2,h3,p1,nN,rfl⟩:=uz ha;obtain⟨k1,k2,k3⟩:=dU C h2;exact vV (KY C.calm g2 k2 g1 k1 (hE a) h3)
     ·split
      ·rename_i g a Ti hg _ _ _ _
       exact KD (HH C.calm (f,g) (dR hg)) rfl g1 g2 hA hs
      ·exact a_
theorem nV{sc:Scope}(C:CxOk M ah k L X)(hf:∀x∈frees sc,sc.names.lookup x=some .free/\L.sc.names.lookup x=some .cell):∀{xs:BM}{js:Bi},idxs L.N xs=some js->(∀x∈xs,x∈frees sc)->fM X sc js xs
 |[],js,h,_=>by cases h;exact .nil
 |x::xs,js,h,hx=>by
  obtain⟨i,h1,h2⟩:=dM.mp (show(kN L.N x).bind _=some js from h);obtain⟨js',h3,rfl⟩:=cz.mp h2;obtain⟨f1,f2⟩:=hf x (hx x (fY ..));refine .cons (by rw[C.N];exact ia h1) f1 ?_ (nV C hf h3 λy hy=>hx y (bW _ hy))
  show X.env.scope.names.lookup x=_;rw[C.sc];exact f2
def Ao{sc:Scope}{x:Str}(h:x∈frees sc):(x,NameKind.free)∈sc.names:=by
 unfold frees at h;obtain⟨q,h1,h2⟩:=Be.mp h;obtain⟨n,kk⟩:=q;split at h2
 ·rename_i e;cases h2;have e:kk=.free:=e;subst e;exact h1
 ·cases h2
def DK(C:CxOk M ah k L X)(sc:Scope):relabel sc X.env=Dw sc L.sc:=by
 unfold relabel Dw Env.kindOf;rw[C.sc]
theorem wC{N:BM}{ok:Str->Bool}(hN:X.N.Nodup)(h:∀x i,ok x=true->kN N x=some i->X.N[i]?=some x/\Loc X.env.scope x/\(X.fn x=true\/X.env.scope.names.lookup x=some .local)):∀{es:D1}{xs:BM}{is:Bi},namesOf es=some xs->xs.all ok=true->idxs N xs=some is ->
  PZ X es (nI is)/\(assignEach es X.env).length=is.length/\(assignEach es X.env).findIdx? (·.1)=none
 |[],xs,is,h1,_,h3=>by
  cases h1;cases h3;exact⟨FH,rfl,rfl⟩
 |e::es,xs,is,h1,h2,h3=>by
  cases e<;>first|(cases h1;done)|skip
  rename_i x px;obtain⟨zs,h4,rfl⟩:=cz.mp (show(namesOf es).map (x::·)=some xs from h1)
  rw[eU,dh]at h2;obtain⟨i,h5,h6⟩:=dM.mp (show(kN N x).bind _=some is from h3);obtain⟨XC,h7,rfl⟩:=cz.mp h6;obtain⟨g1,g2,g3⟩:=h x i h2.1 h5;obtain⟨r1,r2,r3⟩:=wC hN h h4 h2.2 h7;refine⟨BN (qK hN g1 g2 g3) r1 rfl,?_,?_⟩
  ·show((false,_)::assignEach es X.env).length=_
   rw[eT,r2];rfl
  ·show List.findIdx? (·.1) ((false,_)::assignEach es X.env)=none
   rw[List.findIdx?_cons];simp only[r3];rfl
def K6{B:KT}(hB:B.K=X.K){N:BM}{ok:Str->Bool}{tg:Expr}{g:FG}{is:Bi}(hc:X.calm=true)(hN:X.N.Nodup)(h:∀x i,ok x=true->kN N x=some i->X.N[i]?=some x/\Loc X.env.scope x/\(X.fn x=true\/X.env.scope.names.lookup x=some .local))
  (ht:Pq N ok tg=some (g,is)):∃gt,PG X tg gt/\rB B gt g is:=by
 cases tg<;>first|(cases ht;done)|skip
 ·rename_i x px
  replace ht:(if ok x=true then _ else none)=some (g,is):=ht
  split at ht
  ·rename_i q
   obtain⟨i,h1,h2⟩:=cz.mp ht;cases h2;obtain⟨g1,g2,g3⟩:=h x i q h1;exact⟨_,qK hN g1 g2 g3,xS i⟩
  ·cases ht
 ·rename_i es x1 tp
  replace ht:(namesOf es).bind _=some (g,is):=ht
  obtain⟨xs,h1,h2⟩:=dM.mp ht;split at h2
  ·rename_i q
   obtain⟨XC,h3,h4⟩:=cz.mp h2;cases h4;obtain⟨r1,r2,r3⟩:=wC hN h h1 q h3;refine⟨_,BO hc r1 r2 r3,?_⟩;rw[<- hB];exact C8 _ rfl
  ·cases h2
def N9{N:BM}{ok:Str->Bool}{tg:Expr}{g:FG}{is:Bi}(ht:Pq N ok tg=some (g,is)):∀i∈is,i<N.length:=by
 have lt:∀{x i},kN N x=some i->i<N.length:=λh=>(c_.mp (ia h)).1;cases tg<;>first|(cases ht;done)|skip
 ·rename_i x px
  replace ht:(if ok x=true then _ else none)=some (g,is):=ht
  split at ht
  ·obtain⟨i,h1,h2⟩:=cz.mp ht
   cases h2;intro j hj;rw[iu.mp hj];exact lt h1
  ·cases ht
 ·rename_i es x1 tp
  replace ht:(namesOf es).bind _=some (g,is):=ht
  obtain⟨xs,h1,h2⟩:=dM.mp ht;split at h2
  ·obtain⟨XC,h3,h4⟩:=cz.mp h2
   cases h4
   have:∀(xs:BM)(is:Bi),idxs N xs=some is->∀i∈is,i<N.length:=by
    intro xs
    induction xs with
    |nil=>intro is h;cases h;intro i hi;cases hi
    |cons x xs ih=>
     intro is h;obtain⟨i,h5,h6⟩:=dM.mp (show(kN N x).bind _=some is from h);obtain⟨ī,h7,rfl⟩:=cz.mp h6;intro j hj;rcases gh.mp hj with z|z
     ·rw[z];exact lt h5
     ·exact ih ī h7 j z
   exact this xs _ h3
  ·cases h2
def yo{it:Expr}(h:isSet it=false):∀x,foldedSetIterable it X.env x=pure x:=λx=>by
 unfold foldedSetIterable;cases it<;>first|rfl|(cases h)
structure N_(M:Gm)(X:Cx)(r:Rc)(L:Lc)(elt tg iter:Expr)(ifs:D1)(sc:Scope)(js:Bi)(g:FG)(is:Bi):Prop where
 sco:f_ X sc
 fr:fM X sc js (frees sc)
 nd:(locals sc++frees sc).Nodup
 it:PI X tg iter (tI (M.P.kt X) (r.I L tg iter))
 ex:∃gt,(∀cl C fp s H,PG (X.block (locals sc++frees sc) sc cl C fp s H) tg gt)/\rB (M.P.kt X) gt g is
 ts:∀cl C fp s H,E5 (X.block (locals sc++frees sc) sc cl C fp s H) ifs (tT (M.P.kt X) (K2 r (Dy L sc) ifs))
 el:∀cl C fp s H,PE (X.block (locals sc++frees sc) sc cl C fp s H) elt (tE (M.P.kt X) (r.E (Dy L sc) elt))
 lt:∀i∈is,i<(locals sc).length
 st:∀x,foldedSetIterable iter X.env x=pure x
def yp(R:wB M ah k r)(C:CxOk M ah k L X){elt tg iter:Expr}{ifs:D1}{sc:Scope}{js:Bi}{g:FG}{is:Bi}(h:(NO L sc&&decide ((locals sc++frees sc).Nodup)&&!isSet iter&&decide (ifs.length<=1))=true)(hj:idxs L.N (frees sc)=some js)
  (ht:Pq (locals sc) (λx=>decide (sc.names.lookup x=some .local)) tg=some (g,is)):N_ M X r L elt tg iter ifs sc js g is:=by
 obtain⟨hE,hT,hI,hO⟩:=R L X C;simp only[dh,decide_eq_true_eq,Bool.not_eq_true']at h;obtain⟨⟨⟨h1,XD⟩,h3⟩,h4⟩:=h;unfold NO at h1;simp only[dh,decide_eq_true_eq,jw]at h1;obtain⟨⟨k1,k2⟩,k3⟩:=h1;have pM:∀x∈frees sc,sc.names.lookup x=some .free/\L.sc.names.lookup x=some .cell:=λx hx=>by
  have:=(k2 _ (Ao hx)).2 rfl
  exact this
 have bs:f_ X sc:=⟨k1,λq hq=>(k2 q hq).1.1,λq hq e=>(k2 q hq).1.2 e,λq hq e=>by
  show X.env.scope.names.lookup q.1=_;rw[C.sc];exact((k2 q hq).2 e).2⟩
 have U0:∀cl CC fp s H,CxOk M ah k (Dy L sc) (X.block (locals sc++frees sc) sc cl CC fp s H):=λcl CC fp s H=>⟨C.gm,rfl,DK C sc,C.calm,C.room⟩;refine⟨bs,nV C pM hj λ_ h=>h,XD,hI tg iter,?_,λcl CC fp s H=>?_,λcl CC fp s H=>(R _ _ (U0 cl CC fp s H)).1 elt,N9 ht,yo h3⟩
 ·-- the target's names are the block's own
  have key:∀cl CC fp s H,∀x i,decide (sc.names.lookup x=some .local)=true->kN (locals sc) x=some i->(X.block (locals sc++frees sc) sc cl CC fp s H).N[i]?=some x/\Loc (X.block (locals sc++frees sc) sc cl CC fp s H).env.scope x/\((X.block (locals sc++frees sc) sc cl CC fp s H).fn x=true\/(X.block (locals sc++frees sc) sc cl CC fp s H).env.scope.names.lookup x=some .local):=λcl CC fp s H x i hx hi=>by
   have hl:(relabel sc X.env).names.lookup x=some .local:=lookup_relabel_local (of_decide_eq_true hx);have h1:=ia hi;refine⟨?_,.inl hl,.inr hl⟩;show(locals sc++frees sc)[i]?=some x;rw[gi (c_.mp h1).1];exact h1
  cases tg<;>first|(cases ht;done)|skip
  ·rename_i x px
   replace ht:(if _ then _ else none)=some (g,is):=ht
   split at ht
   ·rename_i q
    obtain⟨i,h5,h6⟩:=cz.mp ht;cases h6;exact⟨_,λcl CC fp s H=>by
     obtain⟨g1,g2,g3⟩:=key cl CC fp s H x i q h5;exact qK XD g1 g2 g3,xS i⟩
   ·cases ht
  ·rename_i es x1 tp
   replace ht:(namesOf es).bind _=some (g,is):=ht
   obtain⟨xs,h5,h6⟩:=dM.mp ht;split at h6
   ·rename_i q
    obtain⟨XC,h7,h8⟩:=cz.mp h6;cases h8;refine⟨LJ X.K is.length (nI is),λcl CC fp s H=>?_,C8 (B:=M.P.kt X) is rfl⟩;obtain⟨r1,r2,r3⟩:=wC (X:=X.block (locals sc++frees sc) sc cl CC fp s H) XD (key cl CC fp s H) h5 q h7;exact BO (X:=X.block (locals sc++frees sc) sc cl CC fp s H) C.calm r1 r2 r3
   ·cases h6
 ·match ifs,h4 with
  |[],_=>exact R7
  |[c],_=>exact R8 ((R _ _ (U0 cl CC fp s H)).2.1 c)
def ki(R:wB M ah k r)(C:CxOk M ah k L X)(e:Expr):PE X e (tO (M.P.kt X) (qr r L e)):=by
 cases e<;>first|exact dO|skip
 rename_i elt gs sc p
 match gs with
 |[]=>exact dO
 |_::_::_=>exact dO
 |[⟨tg,iter,ifs,ay⟩]=>
  show PE X _ (tO (M.P.kt X) (nU r L elt ⟨tg,iter,ifs,ay⟩ sc));unfold nU;split
  case isFalse=>exact dO
  rename_i h;obtain⟨rfl,h⟩:=h;split
  ·rename_i js g is hj ht
   have K:=yp R C (elt:=elt) h hj ht;obtain⟨gt,h1,h2⟩:=K.ex;exact M5 (locals sc) C.calm K.sco K.fr K.it h1 h2 K.ts K.el K.lt K.st
  ·exact dO
def rM(hE:sj M X r L):∀e:Option Expr,PO X e (tP (M.P.kt X) (Dz r L e))
 |none=>RM
 |some e=>RN (hE e)
def HJ(h:isSlice e=false):jY e:=λo i=>by
 unfold subscripted;cases e<;>first|rfl|(cases h)
def HK{m:Str}{f:FE}:∀{args:D1},NS M r L o m args=some f->m=("get" : Str)/\∃b d fb,args=[b,d]/\iV M r L o=some fb/\f=rJ M.bc fb (r.E L b) (r.E L d)
 |[],h=>by cases h
 |[_],h=>by cases h
 |_::_::_::_,h=>by cases h
 |[b,d],h=>by
  dsimp only[NS]at h;split at h
  ·rename_i e
   obtain⟨fb,h5,rfl⟩:=cz.mp h;exact⟨e,b,d,fb,rfl,h5,rfl⟩
  ·cases h
def HL{m:Str}{f:FE}{args:D1}(h:NT M r L o m args=some f):m=("pop" : Str)/\∃k1 p1 fb,args=[.Constant (.int 0) k1 p1]/\iV M r L o=some fb/\f=nS M.bc fb:=by
 unfold NT at h;split at h
 ·rename_i b
  split at h
  ·rename_i hc
   split at h
   ·rename_i e
    obtain⟨fb,h5,rfl⟩:=cz.mp h;obtain⟨k1,p1,rfl⟩:=i9 hc;exact⟨e,_,_,fb,rfl,h5,rfl⟩
   ·cases h
  ·cases h
 ·cases h
def Tj(hb:bB o=true)(hs:[a,b].all noStar=true)(hl:(bF.endLine == bP.line)=true):M2 X o "get" bF a b bP:=by
 refine⟨fJ hb,o_ hs (by simp),hl,?_⟩
 simp only[eU,Jz,Bv,dh]at hs;rw[ao hs.1,ao hs.2];rfl
def yq{l:List (Nat×Nat)}{m:Str}(C:CxOk M ah k L X)(h:M.ms.lookup m=some l):∀c f,ak l ah c=some f->U7 M.P X.prog X.w X.K X.mg X.base k c m f:=λc f hf=>by
 obtain⟨i,h1,rfl⟩:=cz.mp hf;exact C.gm.mts m l c i h h1
def DL{kk:Nat}(c:Const):PE X (.Constant c kk pos) (tE (M.P.kt X) (DA c)):=by
 cases c with
 |int i=>exact j5 BG λ_ _=>rfl
 |bool b=>exact j5 PK λ_ _=>rfl
 |none=>exact j5 Lw λ_ _=>rfl
 |str s=>
  show PE X _ (tE _ (if s.length<=1000000 then cF (.str s.cps.toList)else aQ))
  split
  ·rename_i h
   obtain⟨⟨l⟩⟩:=s;exact j5 BH λ_ _=>⟨rfl,by rw[<- fU l];exact h⟩
  ·exact a_
 |_=>exact a_
def HM(C:CxOk M ah k L X)(x:Str):PE X (.Name x pos) (tE (M.P.kt X) (DB M L x)):=by
 unfold DB;split
 ·rename_i i hi
  split
  ·rename_i q
   obtain⟨l1,l2,l3,l4⟩:=gx C q;exact Kq (by rw[C.N];exact ia hi) l2 l3 l4
  ·exact a_
 ·split
  ·rename_i t ht
   split
   ·rename_i q
    obtain⟨g1,g2⟩:=lr C q;exact Sm (C.gm.cst _ _ ht) rfl g1 g2
   ·exact a_
  ·exact a_
def Tn(C:CxOk M ah k L X)(hE:sj M X r L){i:Expr}(h:jY i):PE X (.Subscript o i pos) (tE (M.P.kt X) (Vg M r L o i)):=by
 unfold Vg;split
 ·rename_i f hf
  obtain⟨j,hj,hr⟩:=C.room;exact Ss M.h_ hr (eQ C hE hf).1 (hE _) h
 split
 ·rename_i y kk hk
  obtain⟨y',h1,h2⟩:=dM.mp hk;obtain⟨k',h2,h3⟩:=cz.mp h2;cases h3;obtain⟨py,rfl⟩:=cH h1;split
  ·rename_i q
   rw[dh]at q;obtain⟨l1,l2,l3,l4⟩:=gx C q.2;exact Ng (by rw[C.N];exact ia h2) l2 l3 l4 (hE _) h
  ·exact RL rfl (hE _) (hE _) h
 ·exact RL rfl (hE _) (hE _) h
def Oa(C:CxOk M ah k L X)(hE:sj M X r L)(o:Expr)(m:Str)(ap:Pos)(args:D1)(cp:Pos):PE X (.Call (.Attribute o m ap) args [] cp) (tE (M.P.kt X) (NU M ah r L o m ap args cp)):=by
 obtain⟨j,hj,hr⟩:=C.room;unfold NU;split
 case isFalse=>exact a_
 rename_i h;simp only[dh,decide_eq_true_eq]at h;obtain⟨⟨⟨h1,h2⟩,h3⟩,h4⟩:=h;have hA:=kh hE args h2;split
 ·rename_i f hf
  obtain⟨rfl,b,d,fb,rfl,h5,rfl⟩:=HK hf;obtain⟨b1,b2,_⟩:=eQ C hE h5;exact Su M.h_ hr b1 (hE b) (hE d) (Tj b2 h2 h4)
 split
 ·rename_i f hf
  obtain⟨rfl,k1,p1,fb,rfl,h5,rfl⟩:=HL hf;obtain⟨b1,b2,_⟩:=eQ C hE h5;exact NC M.h_ b1 b2 h4
 split
 ·rename_i l hl
  cases args with
  |nil=>exact G7 (yq C hl) hr (by omega) (hE o) (KU h1 h2 (by omega) h4)
  |cons a args=>exact MY (yq C hl) hr (by omega) (hE o) hA h2 (KU h1 h2 (by omega) h4)
 ·split
  ·rename_i g a Ti hg _ _
   exact RS (MU (m,g) (dR hg)) rfl (hE o) hA h1 h2 (by rw[eT]at h3;omega) h4
  ·exact a_
def Oc(hE:sj M X r L)(ks:List (Option Expr))(vs:D1):PE X (.Dict ks vs pos) (tE (M.P.kt X) (NQ M r L ks vs)):=by
 unfold NQ;split
 ·rename_i l hl
  split
  ·rename_i q
   exact SO M.h_ M.Dt hE hl (λz=>by rw[z]at q;cases q.2.2) q.1 q.2.1
  ·exact a_
 ·exact a_
def To(C:CxOk M ah k L X)(hE:sj M X r L)(e:Expr):PE X e (tE (M.P.kt X) (Vh M r L e)):=by
 unfold Vh;split
 ·rename_i i h
  obtain⟨y,h1,h3⟩:=dM.mp h;clear h;obtain⟨py,rfl⟩:=cH h1;split at h3
  ·rename_i z
   rw[dh]at z;obtain⟨l1,l2,l3,l4⟩:=gx C z.2;exact NG M.h_ (by rw[C.N];exact ia h3) l2 l3 l4
  ·cases h3
 ·exact hE e
theorem uA(C:CxOk M ah k L X)(hE:sj M X r L):∀es:D1,es.all noStar=true->PA X es (tA (M.P.kt X) (eA (es.map (Vh M r L))))
 |[],_=>rj
 |e::es,h=>by
  rw[eU,dh]at h;exact mi (To C hE e) (uA C hE es h.2) (ao h.1)
def Od(C:CxOk M ah k L X)(hE:sj M X r L)(f:Expr)(args:D1)(ks:List Keyword):PE X (.Call f args ks pos) (tE (M.P.kt X) (NV M r L f args ks)):=by
 unfold NV;split
 ·rename_i y a w hy
  split
  ·rename_i i hc
   split
   ·rename_i q
    obtain⟨q1,q2,q3,q4⟩:=q;obtain⟨p,rfl⟩:=cH hy;obtain⟨k1,p1,e⟩:=i9 hc;obtain⟨g1,g2,_⟩:=dU C q2;obtain⟨an,v,kp⟩:=w;cases(show an=some ("default" : Str)from q4);cases(show v=_ from e);subst q1;exact NJ g1 g2 C.calm (hE a) q3
   ·exact a_
  ·exact a_
 ·exact a_
def DM(R:wB M ah k r)(C:CxOk M ah k L X)(e:Expr):PE X e (tE (M.P.kt X) (K4 M ah r L e)):=by
 obtain⟨hE,hT,hI,hO⟩:=R L X C;cases e with
 |Constant c _ _=>exact DL c
 |Name x _=>exact HM C x
 |BinOp a op b _=>exact RC rfl _ (hE _) (hE _)
 |UnaryOp op a _=>cases op with
  |USub=>exact RD rfl (hE _)
  |Not=>exact MI (hE _)
  |_=>exact a_
 |BoolOp op es _=>cases op with
  |And=>exact ux hE _
  |Or=>exact yl hE _
 |Compare a ops bs _=>
  match ops,bs with
  |[op],[b]=>
   show PE X _ (tE (M.P.kt X) (if behindInMarks op b then aQ else uv M r L a op b))
   split
   ·exact a_
   ·rename_i h
    exact HE C hE (by simpa using h)
  |[],_=>exact a_
  |_::_::_,_=>exact a_
  |[_],[]=>exact a_
  |[_],_::_::_=>exact a_
 |IfExp c a b _=>exact Rv (hT _) (hE _) (hE _)
 |Tuple es _ _=>
  show PE X _ (tE (M.P.kt X) (if es.all noStar then _ else aQ))
  split
  ·rename_i h;exact Ro (uA C hE _ h)
  ·exact a_
 |List es _=>
  show PE X _ (tE (M.P.kt X) (if es.all noStar then _ else aQ))
  split
  ·rename_i h;exact Rp (kh hE _ h)
  ·exact a_
 |Subscript o i _=>
  show PE X _ (tE (M.P.kt X) (NR M r L o i));cases hs:isSlice i with
  |false=>
   rw[show NR M r L o i=Vg M r L o i by cases i<;>first|rfl|cases hs]
   exact Tn C hE (HJ hs)
  |true=>
   cases i<;>first|(cases hs;done)|skip
   rename_i lo hi st _;cases st with
   |none=>
    show PE X _ (tE (M.P.kt X) (match Vf M r L o with|some f=>_|none=>_))
    cases hb:Vf M r L o with
    |none=>exact WN rfl (hE _) (rM hE _) (rM hE _)
    |some f=>exact SG M.h_ (eQ C hE (show iV M r L o=some f by unfold iV;rw[hb];rfl)).1 (rM hE _) (rM hE _)
   |some _=>exact a_
 |Attribute o f _=>
  show PE X _ (tE (M.P.kt X) (if bB o then _ else aQ))
  split
  ·rename_i h
   split
   ·rename_i j hj
    split
    ·exact Nt C.gm.pg M.h_ (ia hj) (hE _) h
    ·exact KG C.gm.pg (ia hj) (hE _) h
   ·exact a_
  ·exact a_
 |Dict ks vs _=>exact Oc hE ks vs
 |ListComp elt gs sc p=>exact vV (ki R C _)
 |Call f args ks cp=>
  cases ks with
  |cons w ws=>exact Od C hE f args (w::ws)
  |nil=>cases f with
   |Name f _=>exact DJ C hE _ _
   |Attribute o m ap=>exact Oa C hE o m ap args cp
   |_=>exact a_
 |_=>exact a_
def DN(R:wB M ah k r)(C:CxOk M ah k L X)(e:Expr):PT X e (tT (M.P.kt X) (stepT M r L e)):=by
 obtain⟨hE,hT,hI,hO⟩:=R L X C;cases e with
 |BoolOp op es _=>cases op with
  |And=>exact(uy hT _).pt
  |Or=>exact(ym hT _).pt
 |UnaryOp op a _=>cases op with
  |Not=>exact Rt (hT _)
  |_=>exact Ku (hE _) rfl λie=>rfl
 |Compare a ops bs _=>
  match ops,bs with
  |[op],[b]=>
   show PT X _ (tT (M.P.kt X) (if behindInMarks op b then pe else bu (uv M r L a op b)))
   split
   ·exact jD
   ·rename_i h
    exact DI C hE (by simpa using h)
  |[],_=>exact jD
  |_::_::_,_=>exact jD
  |[_],[]=>exact jD
  |[_],_::_::_=>exact jD
 |IfExp _ _ _ _=>exact jD
 |_=>exact Ku (hE _) rfl λie=>rfl
def HN{e:Expr}{args:D1}(h:yi e=some args):∃p pos,e=.Call (.Name "range" p) args [] pos:=by
 obtain⟨⟨f,as,ks⟩,h1,hh⟩:=dM.mp h;clear h;obtain⟨p,pos,rfl⟩:=eO h1;have h:=hh;clear hh;split at h
 ·rename_i q
  obtain⟨rfl,q⟩:=q;cases h;rw[show ks=[]from xl.mp q];exact⟨_,_,rfl⟩
 ·cases h
def DO{e a:Expr}{n:Int}(h:uw e=some (a,n)):∃p pos,(n=0/\e=.Call (.Name "enumerate" p) [a] [] pos)\/(n=1/\∃k1 p1 kp,e=.Call (.Name "enumerate" p) [a] [⟨some (Str.ofString "start"),.Constant (.int 1) k1 p1,kp⟩] pos):=by
 obtain⟨⟨f,as,ks⟩,h1,hh⟩:=dM.mp h;clear h;obtain⟨p,pos,rfl⟩:=eO h1;have h:=hh;clear hh;split at h
 case isFalse=>cases h
 rename_i q
 replace q:f=("enumerate" : Str):=q
 subst q
 match as,ks,h with
 |[a'],[],h=>cases h;exact⟨_,_,.inl ⟨rfl,rfl⟩⟩
 |[a'],[⟨an,v,kp⟩],h=>
  dsimp only at h;cases hc:hU v with
  |none=>rw[hc]at h;cases h
  |some c=>
   rw[hc]at h;cases c<;>first|(cases h;done)|skip
   obtain⟨k1,p1,rfl⟩:=i9 hc;dsimp only at h;split at h
   ·rename_i q;obtain⟨rfl,rfl⟩:=q;cases h;exact⟨_,_,.inr ⟨rfl,_,_,_,rfl⟩⟩
   ·cases h
def HP(h:DC e=some a):∃p pos,e=.Call (.Name "reversed" p) [a] [] pos/\noStar a=true:=by
 obtain⟨⟨f,as,ks⟩,h1,hh⟩:=dM.mp h;clear h;obtain⟨p,pos,rfl⟩:=eO h1
 match as,ks,hh with
 |[a'],[],h=>
  dsimp only at h;split at h
  ·rename_i q
   obtain⟨rfl,q⟩:=q;cases h;exact⟨_,_,rfl,q⟩
  ·cases h
def HQ(C:CxOk M ah k L X)(hE:sj M X r L)(f:Str)(args:D1):PE X (.Call (.Name f p) args [] pos) (tO (M.P.kt X) (NY M r L f args)):=by
 unfold NY;split
 case isFalse=>exact dO
 rename_i hb;obtain⟨g1,g2,g3⟩:=dU C hb;split
 ·rename_i a ha
  obtain⟨rfl,h2,h3,p1,nN,rfl⟩:=uz ha;obtain⟨k1,k2,k3⟩:=dU C h2;exact KY C.calm g2 k2 g1 k1 (hE a) h3
 ·split
  ·split
   ·rename_i q
    obtain⟨rfl,q⟩:=q;exact Sy rfl g2 g1 (hE _) q
   ·exact dO
  ·exact dO
def DP(R:wB M ah k r)(C:CxOk M ah k L X)(tg e:Expr):PI X tg e (tI (M.P.kt X) (stepI M r L tg e)):=by
 obtain⟨hE,hT,hI,hO⟩:=R L X C;unfold stepI;split
 ·rename_i args ha
  obtain⟨p,pos,rfl⟩:=HN ha;split
  case isFalse=>exact t_
  rename_i h;rw[dh]at h;obtain⟨g1,g2,_⟩:=dU C h.1;have hs:=h.2;split
  ·exact C9 g1 g2 (hE _) (by simpa using hs)
  ·simp only[eU,dh]at hs
   exact C_ g1 g2 (hE _) (hE _) hs.1 hs.2.1
  ·exact Nz g1 g2 (hE _) (hE _) (hE _) hs
  ·exact t_
 ·split
  ·rename_i a n Ĭ
   split
   case isFalse=>exact t_
   rename_i h;simp only[dh]at h;obtain⟨⟨h1,h2⟩,h3⟩:=h;obtain⟨g1,g2,_⟩:=dU C h1;cases tg<;>first|(cases h2;done)|skip
   obtain⟨p,pos,h4|h4⟩:=DO Ĭ
   ·obtain⟨rfl,rfl⟩:=h4
    exact Si rfl g1 g2 (hE a) h3
   ·obtain⟨rfl,k1,p1,kp,rfl⟩:=h4
    exact Sj rfl g1 g2 (hE a) h3
  split
  ·rename_i a ĭ
   obtain⟨p,pos,rfl,h2⟩:=HP ĭ;split
   ·rename_i h1
    obtain⟨g1,g2,_⟩:=dU C h1;exact SD g1 g2 (hE a) h2
   ·exact t_
  ·split
   ·rename_i h
    cases tg<;>first|(cases h;done)|skip
    exact R6 rfl (hE e)
   ·exact KN rfl (hE e)
def DQ(R:wB M ah k r)(C:CxOk M ah k L X)(e:Expr):PE X e (tO (M.P.kt X) (K5 M r L e)):=by
 obtain⟨hE,hT,hI,hO⟩:=R L X C;cases e with
 |List es _=>
  show PE X _ (tO (M.P.kt X) (if es.all noStar then _ else fQ))
  split
  ·rename_i h;exact MF (kh hE _ h)
  ·exact dO
 |ListComp elt gs sc p=>exact ki R C _
 |IfExp c a b _=>exact Sx (hT _) (hO _) (hO _)
 |BinOp a op b _=>cases op<;>first|exact Nx (hE _) (hE _)|exact Ny (hE _) (hE _)|exact dO
 |Call f args ks _=>cases ks with
  |cons _ _=>exact dO
  |nil=>cases f<;>first|exact HQ C hE _ _|exact dO
 |_=>exact dO
theorem du:∀n,wB M ah k (comp M ah n)
 |0=>λL X C=>⟨λ_=>a_,λ_=>jD,λ_ _=>t_,λ_=>dO⟩
 |n+1=>λL X C=>⟨DM (du n) C,DN (du n) C,DP (du n) C,DQ (du n) C⟩
structure E_(M:Gm)(ah:Nat->Fn)(k:Nat)(L:Lc)(X:Cx):Prop extends CxOk M ah k L X where
 fn:∀x,X.fn x=true
 nd:X.N.Nodup
 xe:X.xe=λ_ _=>False
def nW{t:Option Expr}{l:Nat}(h:An e=false):swapsWith e t l X.env=pure false:=by
 cases e<;>first|rfl|(cases h)
def Oe(C:CxOk M ah k L X){tp:Pos}{l:Nat}(h:An e=true->∃elt gs sc p,e=.ListComp elt gs sc p):swapsWith e (some (.Name x tp)) l X.env=pure (DE L x tp e):=by
 cases e<;>first|rfl|skip
 ·unfold swapsWith DE Env.blockKind Env.kindOf
  rw[C.sc];rfl
 ·obtain⟨_,_,_,_,z⟩:=h rfl;cases z
 ·obtain⟨_,_,_,_,z⟩:=h rfl;cases z
def passes(C:E_ M ah k L X):PassesOwn (model X.prog X.w) X.A X.env X.xe:=by rw[C.xe];exact PassesOwn.never
def yr(h:yk e=true):∃dp,e=.Dict [] [] dp:=by
 cases e<;>first|(cases h;done)|skip
 rename_i ks vs dp
 match ks,vs,h with
 |[],[],_=>exact⟨_,rfl⟩
def Of(h:An e=true):yk e=false:=by
 cases e<;>first|rfl|(cases h)
def HR(C:E_ M ah k L X)(n:Nat)(e:Expr):PS X (.Assign [.Name x bU] e pos) (tS (M.P.kt X) (DF M ah n L x e)):=by
 obtain⟨hE,hT,hI,hO⟩:=du (M:=M) (ah:=ah) (k:=k) n L X C.toCxOk;unfold DF;split
 case h_2=>exact cO
 rename_i i hi;split
 case isFalse=>exact cO
 rename_i q;obtain⟨l1,l2,l3,l4⟩:=gx C.toCxOk q;have hN:X.N[i]?=some x:=by rw[C.N];exact ia hi
 have hf:X.fn x=true\/X.env.scope.names.lookup x=some .local:=.inl (C.fn x);by_cases hlc:An e=false
 ·split
  ·split
   ·rename_i hd
    obtain⟨dp,rfl⟩:=yr hd;exact Nk C.nd hN l1 hf
   ·exact KP C.nd hN l1 (hO e) (nW hlc) hf
  ·exact KO C.nd hN l1 (hE e) (nW hlc) hf
 ·rw[Of (by simpa using hlc),if_neg fL]
  cases n with
  |zero=>
   split
   ·exact λ_ _ _ _ _ _ ⟨_,_,_,_,_,h,_⟩=>by cases h
   ·exact λ_ _ _ _ _ _ ⟨_,_,_,_,_,h,_⟩=>by cases h
  |succ n=>
   cases e with
   |ListComp elt gs sc cp=>
    have R:=du (M:=M) (ah:=ah) (k:=k) n;have main:PS X (.Assign [.Name x bU] (.ListComp elt gs sc cp) pos) (tS (M.P.kt X) (gX i (qr (comp M ah n) L (.ListComp elt gs sc cp))))/\PS X (.Assign [.Name x bU] (.ListComp elt gs sc cp) pos) (tS (M.P.kt X) (aI i (fq (qr (comp M ah n) L (.ListComp elt gs sc cp))))):=by
     have sw:=Oe (X:=X) (x:=x) (tp:=bU) (l:=pos.line) (e:=.ListComp elt gs sc cp) C.toCxOk (λ_=>⟨_,_,_,_,rfl⟩);cases hb:DE L x bU (.ListComp elt gs sc cp)with
     |false=>
      rw[hb]at sw;exact⟨KP C.nd hN l1 (ki R C.toCxOk _) sw hf,KO C.nd hN l1 (vV (ki R C.toCxOk _)) sw hf⟩
     |true=>
      rw[hb]at sw;have bad:PS X (.Assign [.Name x bU] (.ListComp elt gs sc cp) pos) (tS (M.P.kt X) (gX i fQ))/\PS X (.Assign [.Name x bU] (.ListComp elt gs sc cp) pos) (tS (M.P.kt X) (aI i (fq fQ))):=
       ⟨λ_ _ _ _ _ _ ⟨_,_,_,_,_,h,_⟩=>(by cases h),λ_ _ _ _ _ _ ⟨_,_,_,_,_,h,_⟩=>(by cases h)⟩
      match gs with
      |[]=>exact bad
      |_::_::_=>exact bad
      |[⟨tg,iter,ifs,ay⟩]=>
       rw[show qr (comp M ah n) L (.ListComp elt [⟨tg,iter,ifs,ay⟩] sc cp)=nU (comp M ah n) L elt ⟨tg,iter,ifs,ay⟩ sc from rfl];unfold nU;split
       case isFalse=>exact bad
       rename_i h;obtain⟨rfl,h⟩:=h;split
       ·rename_i js g is hj ht
        have K:=yp R C.toCxOk (elt:=elt) h hj ht;obtain⟨gt,h1,h2⟩:=K.ex;exact M_ (locals sc) C.calm C.nd hN l1 K.sco K.fr K.it h1 h2 K.ts K.el K.lt K.st hf sw
       ·exact bad
    split
    ·exact main.1
    ·exact main.2
   |SetComp a b c d=>
    split
    ·exact λ_ _ _ _ _ _ ⟨_,_,_,_,_,h,_⟩=>by cases h
    ·exact λ_ _ _ _ _ _ ⟨_,_,_,_,_,h,_⟩=>by cases h
   |DictComp a b c d f=>
    split
    ·exact λ_ _ _ _ _ _ ⟨_,_,_,_,_,h,_⟩=>by cases h
    ·exact λ_ _ _ _ _ _ ⟨_,_,_,_,_,h,_⟩=>by cases h
   |_=>exact absurd rfl hlc
def HS{mu:BM}{e a:Expr}{y:Str}(h:yj mu e=some (y,a)):noStar a=true/\∃py ap cp,e=.Call (.Attribute (.Name y py) "append" ap) [a] [] cp/\(ap.endLine == cp.line)=true:=by
 obtain⟨⟨f,as,ks,cp⟩,h1,h⟩:=dM.mp h;obtain⟨w,h2,h⟩:=dM.mp h;obtain⟨y',h3,h⟩:=dM.mp h
 match as,ks,h1,h with
 |[a'],[],h1,h=>
  dsimp only at h;split at h
  ·rename_i q
   obtain⟨q1,_,q3,q4⟩:=q;cases h;obtain⟨py,h3⟩:=cH h3;rw[i7 h1,i8 h2,h3,q1];exact⟨q3,_,_,_,rfl,q4⟩
  ·cases h
def Zw(C:E_ M ah k L X):∀x i,kg L x=true->kN L.N x=some i->X.N[i]?=some x/\Loc X.env.scope x/\(X.fn x=true\/X.env.scope.names.lookup x=some .local):=λx i h1 h2=>⟨by rw[C.N];exact ia h2,(gx C.toCxOk h1).1,.inl (C.fn x)⟩
def Og(C:E_ M ah k L X)(n:Nat)(f:Str)(e:Expr):PE X e (tE (M.P.kt X) (NZ M ah n L f e)):=by
 obtain⟨hE,hT,hI,hO⟩:=du (M:=M) (ah:=ah) (k:=k) n L X C.toCxOk;unfold NZ;split
 ·split
  ·rename_i hd
   obtain⟨dp,rfl⟩:=yr hd;exact Nl M.h_ M.Dt
  ·exact Dg M.h_ M.Dt (hO e)
 ·exact hE e
def DR{f:Str}{fp:Pos}{l:Nat}:swapsWith e (some (.Attribute o f fp)) l X.env=pure false:=by
 cases e<;>rfl
def HU(C:E_ M ah k L X)(n:Nat)(o:Expr)(f:Str){fp:Pos}(e:Expr):PS X (.Assign [.Attribute o f fp] e pos) (tS (M.P.kt X) (N4 M ah n L o f e)):=by
 obtain⟨hE,hT,hI,hO⟩:=du (M:=M) (ah:=ah) (k:=k) n L X C.toCxOk;unfold N4;split
 ·rename_i j hj
  exact Sg C.gm.pg (ia hj) (hE o) (Og C n f e) DR
 ·exact cO
def HV(C:E_ M ah k L X)(n:Nat)(o b:Expr){sp:Pos}(e:Expr):PS X (.Assign [.Subscript o b sp] e pos) (tS (M.P.kt X) (N5 M ah n L o b e)):=by
 obtain⟨hE,hT,hI,hO⟩:=du (M:=M) (ah:=ah) (k:=k) n L X C.toCxOk;obtain⟨j,hj,hr⟩:=C.room;unfold N5;split
 ·exact cO
 rename_i h;split
 ·rename_i f hf
  exact Sq M.h_ hr (hE e) (eQ C.toCxOk hE hf).1 (hE b) (nW (by simpa using h))
 split
 ·rename_i i hi
  obtain⟨y,h1,h2⟩:=dM.mp hi;obtain⟨py,rfl⟩:=cH h1;split at h2
  ·rename_i q
   obtain⟨l1,l2,l3,l4⟩:=gx C.toCxOk q;split
   ·exact cO
   ·rename_i hs
    exact SE (hE b) (hE e) (by rw[C.N];exact ia h2) l2 l3 l4 (nW (by simpa using h)) (by simpa using hs)
  ·cases h2
 ·exact cO
def HW(C:E_ M ah k L X)(n:Nat)(t:Expr)(op:Operator)(e:Expr):PS X (.AugAssign t op e pos) (tS (M.P.kt X) (N6 M ah n L t op e)):=by
 obtain⟨hE,hT,hI,hO⟩:=du (M:=M) (ah:=ah) (k:=k) n L X C.toCxOk;unfold N6;split
 ·rename_i o j hk
  obtain⟨q,h1,h2⟩:=dM.mp hk;obtain⟨j',h2,h3⟩:=cz.mp h2;cases h3;rw[i8 h1];split
  ·rename_i e;subst e
   exact Sw C.gm.pg (ia h2) (hE _) (hE _)
  ·exact cO
 split
 case h_2=>exact cO
 rename_i x i hk;obtain⟨x',h1,h2⟩:=dM.mp hk;obtain⟨i',h2,h3⟩:=cz.mp h2;cases h3;obtain⟨py,rfl⟩:=cH h1;split
 ·rename_i q
  obtain⟨rfl,q⟩:=q;obtain⟨l1,l2,l3,l4⟩:=gx C.toCxOk q;exact Sl C.nd (by rw[C.N];exact ia h2) l1 (hE _) (.inl (C.fn _))
 ·exact cO
def HX{f:FE}(h:Te M r L e=some (f,a)):∃o ap cp,e=.Call (.Attribute o "append" ap) [a] [] cp/\iV M r L o=some f/\noStar a=true/\(ap.endLine == cp.line)=true:=by
 obtain⟨⟨g,as,ks,cp⟩,h1,h⟩:=dM.mp h;obtain⟨w,h2,h⟩:=dM.mp h;obtain⟨f',h3,h⟩:=dM.mp h
 match as,ks,h1,h with
 |[a'],[],h1,h=>
  dsimp only at h;split at h
  ·rename_i q
   obtain⟨q1,q3,q4⟩:=q;cases h;rw[i7 h1,i8 h2,q1];exact⟨_,_,_,rfl,h3,q3,q4⟩
  ·cases h
def Oh(C:E_ M ah k L X)(n:Nat)(e:Expr):PS X (.Expr e pos) (tS (M.P.kt X) (Xy M ah n L e)):=by
 obtain⟨hE,hT,hI,hO⟩:=du (M:=M) (ah:=ah) (k:=k) n L X C.toCxOk;unfold Xy;split
 ·rename_i f a ha
  obtain⟨o,ap,cp,rfl,ho,h1,h2⟩:=HX ha;obtain⟨b1,b2,_⟩:=eQ C.toCxOk hE ho;exact Nn M.h_ b1 b2 (hE a) h1 h2
 split
 ·rename_i y a ha
  obtain⟨h1,py,ap,cp,rfl,h2⟩:=HS ha;split
  ·rename_i i hi
   split
   ·rename_i q
    obtain⟨l1,l2,l3,l4⟩:=gx C.toCxOk q;exact Se (hE a) (by rw[C.N];exact ia hi) l2 l3 l4 h1 h2
   ·exact cO
  ·exact cO
 ·split
  ·exact cO
  ·rename_i h
   exact Nb (hE e) (nW (by simpa using h))
def val_inv{f:FE}(h:Tf M r L e=some f):∃o ap cp,e=.Call (.Attribute o "values" ap) [] [] cp/\iV M r L o=some f/\(ap.endLine == cp.line)=true:=by
 obtain⟨⟨g,as,ks,cp⟩,h1,h⟩:=dM.mp h;obtain⟨w,h2,h⟩:=dM.mp h;obtain⟨f',h3,h⟩:=dM.mp h
 match as,ks,h1,h with
 |[],[],h1,h=>
  dsimp only at h;split at h
  ·rename_i q
   obtain⟨q1,q4⟩:=q;cases h;rw[i7 h1,i8 h2,q1];exact⟨_,_,_,rfl,h3,q4⟩
  ·cases h
def DS(C:E_ M ah k L X)(n:Nat){rS:Lc->Fs->FS}(hS:∀M6,jx X M6 (tS (M.P.kt X) (rS L M6)))(st:Stmt):PS X st (tS (M.P.kt X) (Xz M ah n rS L st)):=by
 obtain⟨hE,hT,hI,hO⟩:=du (M:=M) (ah:=ah) (k:=k) n L X C.toCxOk;cases st with
 |Assign ts e pos=>
  match ts with
  |[]=>exact cO
  |_::_::_=>exact cO
  |[t]=>cases t with
   |Name x _=>exact HR C n _
   |Attribute o f _=>exact HU C n o f e
   |Subscript o b _=>exact HV C n o b e
   |_=>exact cO
 |AugAssign t op e pos=>exact HW C n t op e
 |Expr e pos=>exact Oh C n e
 |Return o pos=>cases o with
  |none=>exact Na
  |some e=>
   show PS X _ (tS (M.P.kt X) (if L.mu.contains ("return" : Str)then _ else _))
   split
   ·exact KQ (Dg M.h_ M.Dt (hO _))
   ·exact KQ (hE _)
 |If c a b pos=>exact W7 (hT _) (hS _) (hS _)
 |For tg it body oe pos=>cases oe with
  |cons _ _=>exact cO
  |nil=>
   show PS X _ (tS (M.P.kt X) (N7 M ah n L (rS L body) tg it));unfold N7;split
   ·rename_i f hv
    obtain⟨o,ap,cp,rfl,h1,h2⟩:=val_inv hv;obtain⟨b1,b2,_⟩:=eQ C.toCxOk hE h1;split
    ·rename_i g is ht
     obtain⟨gt,q1,q2⟩:=K6 (B:=M.P.kt X) rfl C.calm C.nd (Zw C) ht;exact NI C.calm b1 q1 q2 (hS body) (passes C) M.h_ M.Dt b2 h2
    ·exact cO
   split
   ·exact cO
   ·rename_i h
    split
    ·rename_i g is ht
     obtain⟨gt,q1,q2⟩:=K6 (B:=M.P.kt X) rfl C.calm C.nd (Zw C) ht;exact Sf C.calm (hI tg it) q1 q2 (hS body) (passes C) (yo (by simpa using h))
    ·exact cO
 |While c body oe pos=>cases oe with
  |cons _ _=>exact cO
  |nil=>exact G_ _ (hT _) (hS _) (passes C)
 |Try body hs oe fb pos=>
  match hs,oe,fb with
  |[],_,_=>exact cO
  |_::_,_::_,_=>exact cO
  |_::_,[],_::_=>exact cO
  |_::_,[],[]=>exact Sn C.xe (hS _)
 |Pass _=>exact M8
 |Break _=>exact G9
 |Continue _=>exact M9
 |_=>exact cO
theorem i_(n:Nat):∀(m:Nat)(L:Lc)(X:Cx),E_ M ah k L X->∀M6,jx X M6 (tS (M.P.kt X) (kO M ah n m L M6))
 |0,_,_,_,_=>Sa
 |m+1,L,X,C,[]=>Sb
 |m+1,L,X,C,[st]=>Sd (DS C n (i_ n m L X C) st)
 |m+1,L,X,C,st::s2::rest=>M7 (DS C n (i_ n m L X C) st) (i_ n m L X C (s2::rest))
structure Fe where
 cls:Option Str
 x:Str
 qual:Str
 st:Stmt
 N:BM
 ps:BM
 mu:BM
 sl:Bool
 ds:FV
def noFn:Fn:=λ_ _=>.bad
def Tp(b:Bool)(f:Fn):Fn:=if b then aU f else f
def DT(M:Gm)(ah:Nat->Fn)(e:Fe):Fn:=Tp e.sl (aG e.ps.length e.N.length (kO M ah 60 200 ⟨e.N,aH e.st,e.mu⟩ (cK e.st)))
def jm(M:Gm)(Ft:List Fe):Nat->Nat->Fn
 |0,_=>noFn
 |n+1,i=>match Ft[i]? with
  |some e=>DT M (jm M Ft n) e
  |none=>noFn
section
def Fb(K:bD)(x:Str):Option Addr:=match oJ K mainGlobals x with
 |some (some (.ref a))=>some a
 |_=>none
def kj{x:Str}{a:Addr}(h:Fb K x=some a):oJ K mainGlobals x=some (some (.ref a)):=by
 unfold Fb at h;split at h
 ·rename_i e;cases h;exact e
 ·cases h
def XE(K:bD)(C:Addr)(m:Str):Option Addr:=match ir K (.ref C) m with
 |some (some (.ref a))=>some a
 |_=>none
def Vj(K:bD)(C:Addr)(ns:BM):Bool:=AO K C Str.empty&&Fj K C&&AU K C&&decide (ir K (.ref C) "__setattr__" = some (some (.builtin "object.__setattr__"))) &&
 decide (ir K (.ref C) "__class__" = some (some (.builtin "object.__class__")))&&decide (AZ K C (.type "object")=some true)&&ns.all (λf=>decide (ir K (.ref C) f=some none))&&decide ns.Nodup&&decide (ns.length<=100)
def subB(K:bD)(cn:BM)(C:Addr)(l:Bi):Bool:=(cP cn.length).all λd=>match cn[d]? with
 |none=>true
 |some n=>(match Fb K n with
  |some D=>decide (sE K (.ref C) (.ref D)=some (decide (d∈l)))
  |none=>false)
def Tq(K:bD)(P:Pg):Bool:=(cP P.cn.length).all λc=>match P.cn[c]? with
 |none=>true
 |some n=>(match Fb K n,P.fn[c]?,P.sub[c]? with
  |some C,some ns,some l=>Vj K C ns&&subB K P.cn C l
  |_,_,_=>false)
def gtB(K:bD):Bool:=decide (AX K (.builtin "object.__class__") "__get__" = some (some (.builtin "getset_descriptor.__get__")))&&decide (AY K (.builtin "object.__class__")=some true)
def Oi(K:bD)(mg:Str->Dx):Prop:=∀x o,oJ K mainGlobals x=some o->mg x=o
def Oj{h:Heap}(X:K.In h)(G:h.Ns mainGlobals mg):Oi K mg:=λx o e=>by
 cases o with
 |none=>exact PySem.W.mg_none_of X G e
 |some v=>exact PySem.W.mg_of X G e
def yt{P:Pg}(h:Tq K P=true){c:Nat}{n:Str}(hc:P.cn[c]?=some n):∃C ns l,Fb K n=some C/\P.fn[c]?=some ns/\P.sub[c]?=some l/\Vj K C ns=true/\subB K P.cn C l=true:=by
 unfold Tq at h
 have:=jw.mp h c (Fo.mpr (c_.mp hc).1)
 rw[hc]at this;dsimp only at this;split at this
 ·rename_i C ns l h1 h2 h3
  rw[dh]at this;exact⟨C,ns,l,h1,h2,h3,this.1,this.2⟩
 ·cases this
def wD(g:Oi K mg){n:Str}{C:Addr}{ns:BM}(ha:Fb K n=some C)(h:Vj K C ns=true):Pn K mg n ns C:=by
 unfold Vj at h;simp only[dh,decide_eq_true_eq]at h;obtain⟨⟨⟨⟨⟨⟨⟨⟨h1,h2⟩,h3⟩,h4⟩,h5⟩,h6⟩,h7⟩,h8⟩,h9⟩:=h;have a:=kj ha;exact⟨a,g _ _ a,h8,h9,⟨h1,h2,h3,h4⟩,λf hf=>show ir K (.ref C) f=some none from of_decide_eq_true (jw.mp h7 f hf),h5,h6⟩
def Tr{P:Pg}(g:Oi K mg)(h:Tq K P=true)(ht:gtB K=true):nF K mg P:=by
 refine⟨λc n ns h1 h2=>?_,λc d n n' C D l h1 h2 h3 h4 h5=>?_,?_⟩
 ·obtain⟨C,E6,l,ha,hn,_,hb,_⟩:=yt h h1
  rw[h2]at hn;cases hn;exact⟨C,wD g ha hb⟩
 ·obtain⟨C',E6,l',ha,_,hl,_,hs⟩:=yt h h1
  rw[h5]at hl;cases hl;have e:=(g _ _ (kj ha)).symm.trans h3;cases e;unfold subB at hs
  have:=jw.mp hs d (Fo.mpr (c_.mp h2).1)
  rw[h2]at this;dsimp only at this;split at this
  ·rename_i D' hd
   have e:=(g _ _ (kj hd)).symm.trans h4;cases e;exact of_decide_eq_true this
  ·cases this
 ·unfold gtB at ht
  rw[dh]at ht;exact⟨of_decide_eq_true ht.1,of_decide_eq_true ht.2⟩
def Ol(K:bD)(e:Fe):Option Addr:=match e.cls with
 |none=>Fb K e.x
 |some c=>(Fb K c).bind λC=>XE K C e.x
def K7(K:bD)(e:Fe):Option FuncData:=(Ol K e).bind λf=>match K.lookup f with
 |some ⟨_,_,.func fd,_⟩=>some fd
 |_=>none
def DU(e:Fe)(fd:FuncData):FuncData:=zb e.x e.qual (j0 e.st) (cK e.st) (aH e.st) fd.defaults fd.kwdefaults fd.doc fd.pyModule fd.annotations fd.code fd.closureTuple
def Zx(e:Fe):Bool:=decide ((aH e.st).kind=.function)&&!(aH e.st).isCoroutine&&!(aH e.st).isGenerator&&decide e.N.Nodup&&decide (e.N.take e.ps.length=e.ps)&&e.ps.all (λx=>decide ((aH e.st).names.lookup x=some .local) ||decide ((aH e.st).names.lookup x=some .cell))&&(aH e.st).names.all (λy=>decide (y.2≠.free))
def yu:T->Value->Bool
 |.int i,.int j _=>decide (i=j)
 |.str l,.str s _=>decide (s.cps.toList=l)&&decide (l.length<=1000000)
 |.bl b,.bool c=>b == c
 |.non,.none=>true
 |_,_=>false
def eW:T->V
 |.int i=>.int i
 |.str l=>SV l
 |.bl b=>.bl b
 |_=>.non
def yv{t:T}{u:Value}(h:yu t u=true):RelV (eW t) u/\∀(B:KT)al H,Rep B al H t (eW t):=by
 unfold yu at h;split at h
 ·have h:=of_decide_eq_true h
  subst h;exact⟨⟨_,rfl⟩,λ_ _ _=>rfl⟩
 ·rename_i l s tk
  rw[dh]at h;have h1:=of_decide_eq_true h.1;subst h1;exact⟨⟨tk,rfl⟩,λ_ _ _=>⟨rfl,of_decide_eq_true h.2⟩⟩
 ·have h:=eq_of_beq h
  subst h;exact⟨rfl,λ_ _ _=>rfl⟩
 ·exact⟨rfl,λ_ _ _=>rfl⟩
 ·cases h
def jI:FV->Bz->Bool
 |[],[]=>true
 |t::ts,u::us=>yu t u&&jI ts us
 |_,_=>false
theorem nX:∀{ts:FV}{us:Bz},jI ts us=true->Vals (ts.map eW) us/\∀(B:KT)al H,aB B al H ts (ts.map eW)
 |[],[],_=>⟨.nil,λ_ _ _=>rfl⟩
 |t::ts,u::us,h=>by
  rw[jI,dh]at h;obtain⟨a,b⟩:=yv h.1;obtain⟨c,d⟩:=nX h.2;exact⟨.cons a c,λB al H=>⟨_,_,rfl,b B al H,d B al H⟩⟩
 |[],_::_,h=>by cases h
 |_::_,[],h=>by cases h
def XF(K:bD)(ds:FV)(dV:Value):Bool:=match ds with
 |[]=>(match dV with
  |.none=>true
  |_=>false)
 |_::_=>(match dV with
  |.ref a=>(match K.lookup a with
   |some ⟨_,_,.seq aF _,_⟩=>jI ds aF.toList
   |_=>false)
  |_=>false)
def Vk(K:bD)(e:Fe):Bool:=match Ol K e,K7 K e with
 |some f,some fd=>sD K (.ref f)&&AQ K (.ref f)&&A1 K fd.code e.qual&&Zx e&&XF K e.ds fd.defaults
 |_,_=>false
def Bn(e:Fe):Prop:=match e.ds with
 |[]=>∀(kV doc pm:Value)(an:Option Addr)(jP ct:Value)(us:Bz),us.length=e.ps.length->bindArgs (zb e.x e.qual (j0 e.st) (cK e.st) (aH e.st) .none kV doc pm an jP ct) ⟨us,[]⟩=pure (e.ps.zip us)
 |ds=>∀(kV doc pm:Value)(an:Option Addr)(jP ct:Value)(s:Shared)(a:Addr)(o:Obj)(gn:Bz)(n:Nat)(us:Bz),s.heap.get? a=some o->o.data=.seq gn.toArray n->gn.length=ds.length->(us++gn).length=e.ps.length ->
  BindsTo s (zb e.x e.qual (j0 e.st) (cK e.st) (aH e.st) (.ref a) kV doc pm an jP ct) ⟨us,[]⟩ (e.ps.zip (us++gn))
structure uB(K:bD)(e:Fe)(f:Addr)(fd:FuncData):Prop where
 at_:Ol K e=some f
 fn:wb K e.x e.qual e.st f fd
 sc:gT e.N e.ps (aH e.st)
 isf:AQ K (.ref f)=true
 bs:e.ds=[]->∀us:Bz,us.length=e.ps.length->bindArgs fd ⟨us,[]⟩=pure (e.ps.zip us)
 bd:∃(gn:Bz)(dV:List V),Binds K fd e.ps gn/\Vals dV gn/\∀(B:KT)al H,aB B al H e.ds dV
def uB.bn{e:Fe}{f:Addr}{fd:FuncData}(F:uB K e f fd)(h:e.ds=[]):Binds K fd e.ps []:=.all (F.bs h)
theorem qt:∀{ts:FV}{us:Bz},jI ts us=true->us.length=ts.length
 |[],[],_=>rfl
 |t::ts,u::us,h=>by
  rw[jI,dh]at h;simp[qt h.2]
 |[],_::_,h=>by cases h
 |_::_,[],h=>by cases h
def Tt{e:Fe}(h:Vk K e=true)(q:K7 K e=(K7 K e).map (DU e))(b:Bn e):∃f fd,uB K e f fd:=by
 unfold Vk at h;split at h
 case h_2=>cases h
 rename_i f fd h1 h2;simp only[dh]at h;obtain⟨⟨⟨⟨h3,h4⟩,h5⟩,h6⟩,h7⟩:=h;rw[h2]at q;injection q with q
 have l:∃oc od E3,K.lookup f=some ⟨oc,od,.func fd,E3⟩:=by
  unfold K7 at h2;rw[h1]at h2;dsimp only[Option.bind]at h2;split at h2
  ·rename_i oc od fd' E3 e
   cases h2;exact⟨oc,od,E3,e⟩
  ·cases h2
 obtain⟨oc,od,E3,l⟩:=l;have F:wb K e.x e.qual e.st f fd:=⟨⟨oc,od,fd.defaults,fd.kwdefaults,fd.doc,fd.pyModule,fd.annotations,fd.code,fd.closureTuple,E3,q,l,h5⟩,h3⟩;have bs:e.ds=[]->∀us:Bz,us.length=e.ps.length->bindArgs fd ⟨us,[]⟩=pure (e.ps.zip us):=λh us hl=>by
  unfold Bn at b;rw[h]at b h7;unfold XF at h7;dsimp only at b h7;split at h7
  ·rename_i hd
   rw[q];unfold DU;rw[hd];exact b _ _ _ _ _ _ us hl
  ·cases h7
 have bd:∃(gn:Bz)(dV:List V),Binds K fd e.ps gn/\Vals dV gn/\∀(B:KT)al H,aB B al H e.ds dV:=by
  cases E7:e.ds with
  |nil=>exact⟨[],[],.all (bs E7),.nil,λ_ _ _=>rfl⟩
  |cons d ds=>
   unfold Bn at b;rw[E7]at b h7;unfold XF at h7;dsimp only at b h7;split at h7
   case h_2=>cases h7
   rename_i a hd;split at h7
   case h_2=>cases h7
   rename_i oc' od' aF n' UH Į;obtain⟨v1,v2⟩:=nX h7;refine⟨aF.toList,_,λs us KX hl=>?_,v1,λB al H=>v2 B al H⟩;rw[q];unfold DU;rw[hd];exact b _ _ _ _ _ _ s a _ aF.toList n' us (KX _ _ Į) rfl (qt h7) hl
 refine⟨f,fd,h1,F,?_,h4,bs,bd⟩;unfold Zx at h6;simp only[dh,decide_eq_true_eq]at h6;obtain⟨⟨⟨⟨⟨⟨g1,g2⟩,g3⟩,g4⟩,g5⟩,g6⟩,g7⟩:=h6;refine⟨g1,by simpa using g2,by simpa using g3,g4,g5,λx hx=>?_,λy hy=>of_decide_eq_true (jw.mp g7 y hy)⟩
 have:=jw.mp g6 x hx
 rw[JP]at this;exact this.imp of_decide_eq_true of_decide_eq_true
end
abbrev HZ:=List (Str×Nat)
section
variable{Ft:List Fe}{It:HZ}
def XG(e:Fe):Bool:=e.N.all λx=>(decide ((aH e.st).names.lookup x=some .local) ||decide ((aH e.st).names.lookup x=some .cell))&&!qq x
def K8{e:Fe}(h:XG e=true):∀(i:Nat)(x:Str),e.N[i]?=some x->xo (aH e.st) x/\df x/\kB x:=λi x hx=>by
 have:=jw.mp h x (jT hx)
 rw[dh,JP]at this;refine⟨this.1.elim (λh=>.inl (of_decide_eq_true h)) λh=>.inr (.inl (of_decide_eq_true h)),Vi (by simpa using this.2)⟩
def Zy(K:bD)(C f:Addr):Bool:=AW K C&&decide (ir K (.ref C) "__init__" = some (some (.ref f)))&&sD K (.ref C)
def DV(K:bD)(M:Gm)(Ft:List Fe)(It:HZ)(c:Nat)(x:Str)(t:BM->Fe->Bool):Bool:=match M.P.cn[c]?,M.P.fn[c]?,(It.lookup x).bind λi=>Ft[i]? with
 |some n,some ns,some e=>decide (n=x)&&(match Fb K x,Ol K e with
  |some C,some f=>Zy K C f&&e.ds.isEmpty&&t ns e
  |_,_=>false)
 |_,_,_=>false
def Zz(n:Nat)(ns:BM)(e:Fe):Bool:=XG e&&nL e.N 1 (cK e.st) ns&&decide (e.ps.length=ns.length+1)&&decide (ns.length=n)
noncomputable def ZA(K:bD)(ns:BM)(e:Fe):Bool:=XG e&&decide (e.ps.length=2)&&decide (oJ K mainGlobals "list" = some none)&&decide ((aH e.st).names.lookup ("list" : Str)=some .globalImplicit)&&(match cK e.st with
 |[Sk]=>(match rF Sk with
  |some (s0,n,q)=>decide (ns=[n])&&decide (e.N[0]?=some s0)&&decide (e.N[1]?=some q)
  |none=>false)
 |_=>false)
noncomputable def XH(K:bD)(M:Gm)(Ft:List Fe)(It:HZ)(x:Str):Ck->Bool
 |.fz c n=>DV K M Ft It c x (Zz n)
 |.cp c=>DV K M Ft It c x (ZA K)
 |.nw c i=>decide (It.lookup x=some i)&&DV K M Ft It c x λ_ _=>true
def XI:FV->FV->Bool
 |[],[]=>true
 |[.int i],[.int j]=>decide (i=j)
 |_,_=>false
def H0{a b:FV}(h:XI a b=true):a=b:=by
 unfold XI at h;split at h
 ·rfl
 ·rw[of_decide_eq_true h]
 ·cases h
def XJ(K:bD)(Ft:List Fe)(p:Str×FV×Nat):Bool:=match Ft[p.2.2]? with
 |some e=>decide (e.cls=none)&&decide (e.x=p.1)&&XI p.2.1 e.ds
 |none=>false
noncomputable def XM(K:bD)(M:Gm)(Ft:List Fe)(m:Str)(p:Nat×Nat):Bool:=match M.P.cn[p.1]?,M.P.fn[p.1]?,Ft[p.2]? with
 |some n,some ns,some e=>(match Fb K n,Ol K e with
  |some C,some f=>decide (ir K (.ref C) m=some (some (.ref f)))&&e.ds.isEmpty&&!ns.contains m
  |_,_=>false)
 |_,_,_=>false
def Om(K:bD)(M:Gm)(Ft:List Fe)(It:HZ):Bool:=Tq K M.P&&gtB K&&Ft.all (Vk K)&&M.fs.all (XJ K Ft)&&M.cl.all (λp=>XH K M Ft It p.1 p.2)&&M.ms.all (λp=>p.2.all (XM K M Ft p.1))&&M.bl.all (λx=>decide (oJ K mainGlobals x=some none))
structure ModOk(K:bD)(M:Gm)(Ft:List Fe)(It:HZ):Prop where
 b:Om K M Ft It=true
 q:Ft.map (K7 K)=Ft.map λe=>(K7 K e).map (DU e)
 bn:∀e∈Ft,Bn e
theorem DW{α β:Type}{f g:α->β}:∀{l:List α},l.map f=l.map g->∀a∈l,f a=g a
 |[],_,a,h=>by simp at h
 |b::l,e,a,h=>by
  rw[dZ,dZ]at e;injection e with e1 e2
  rcases gh.mp h with rfl|h
  ·exact e1
  ·exact DW e2 a h
def ModOk.split(O:ModOk K M Ft It):Tq K M.P=true/\gtB K=true/\(∀e∈Ft,Vk K e=true)/\(∀p∈M.fs,XJ K Ft p=true)/\(∀p∈M.cl,XH K M Ft It p.1 p.2=true)/\(∀p∈M.ms,∀q∈p.2,XM K M Ft p.1 q=true)/\∀x∈M.bl,oJ K mainGlobals x=some none:=by
 have h:=O.b;unfold Om at h;simp only[dh]at h;obtain⟨⟨⟨⟨⟨⟨h1,h2⟩,h3⟩,h4⟩,h5⟩,h6⟩,h7⟩:=h;exact⟨h1,h2,jw.mp h3,jw.mp h4,jw.mp h5,λp hp=>jw.mp (jw.mp h6 p hp),λx hx=>of_decide_eq_true (jw.mp h7 x hx)⟩
def ModOk.fe(O:ModOk K M Ft It){e:Fe}(h:e∈Ft):∃f fd,uB K e f fd:=Tt (O.split.2.2.1 e h) (DW O.q e h) (O.bn e h)
def H_{B:KT}{P:Program}{w:World}{base:Heap}{k:Nat}{f:Addr}{fd:FuncData}{ps:BM}:dF P w K mg base lR k f fd ps (qi B noFn):=
 ⟨λvs H Q E ⟨_,_,_,_,_,_,_,h,_⟩=>(by cases h),λ_ _ _ _ _ _ _ _ _ _ _ _ _ ⟨_,_,_,_,_,_,_,h,_⟩=>(by cases h)⟩
def wF(g:Oi K mg)(O:ModOk K M Ft It){c:Nat}{x:Str}{t:BM->Fe->Bool}(h:DV K M Ft It c x t=true):∃C ns e i f fd,M.P.cn[c]?=some x/\M.P.fn[c]?=some ns/\It.lookup x=some i/\Ft[i]?=some e/\uB K e f fd/\Mk K C f/\Pn K mg x ns C/\t ns e=true/\e.ds=[]:=by
 unfold DV at h;split at h
 case h_2=>cases h
 rename_i n ns e h1 h2 h3;obtain⟨i,h4,h5⟩:=dM.mp h3;rw[dh]at h;obtain⟨hn,h⟩:=h;have hn:=of_decide_eq_true hn;subst hn;split at h
 case h_2=>cases h
 rename_i C f h6 h7;rw[dh]at h;obtain⟨f',fd,F⟩:=O.fe (jT h5)
 have:=F.at_.symm.trans h7
 cases this;obtain⟨C',E6,l,g1,g2,_,g3,_⟩:=yt O.split.1 h1;rw[h6]at g1;cases g1;rw[h2]at g2;cases g2;unfold Zy at h;simp only[dh,decide_eq_true_eq]at h;exact⟨C,ns,e,i,_,fd,h1,h2,h4,h5,F,⟨h.1.1.1.1,h.1.1.1.2,F.isf,h.1.1.2⟩,wD g h6 g3,h.2,xl.mp h.1.2⟩
def Aq{α:Type}{l:List (Nat×α)}{x:Nat}{a:α}(h:l.lookup x=some a):(x,a)∈l:=by
 induction l with
 |nil=>simp at h
 |cons p l ih=>
  obtain⟨q,b⟩:=p;rw[ju]at h;split at h
  ·rename_i e
   cases h;rw[eq_of_beq e];exact fY ..
  ·exact bW _ (ih h)
variable{Pr:Program}{w:World}{base:Heap}
def Pn.Ia{P:Pg}{c:Nat}{x:Str}{ns:BM}{C:Addr}(F:Pn K mg x ns C)(h1:P.cn[c]?=some x)(h2:P.fn[c]?=some ns):iP (j7 P K Pr w) c C ns:=⟨x,h1,h2,F.nd,F.at_⟩
def Ic{e:Fe}{f:Addr}{fd:FuncData}{ah:Nat->Fn}{k:Nat}(F:uB K e f fd)(G:DG M Pr w K mg base ah k):dF Pr w K mg base lR (k+2) f fd e.ps (qi (j7 M.P K Pr w) (DT M ah e)):=by
 have main:dF Pr w K mg base lR (k+2) f fd e.ps (qi (j7 M.P K Pr w) (aG e.ps.length e.N.length (kO M ah 60 200 ⟨e.N,aH e.st,e.mu⟩ (cK e.st)))):=by
  refine Nc F.fn F.sc λjP A outer s H E hr=>?_;exact i_ 60 200 ⟨e.N,aH e.st,e.mu⟩ (oW lR Pr w K mg base e.N e.qual (aH e.st) f jP A outer s H E).J9 ⟨⟨G,rfl,rfl,rfl,k+1,bV _,hr⟩,λ_=>rfl,F.sc.nd,rfl⟩ (cK e.st)
 unfold DT Tp;split
 ·exact Ha main
 ·exact main
def yw{n:Nat}{i:Nat}{e:Fe}{f:Addr}{fd:FuncData}(F:uB K e f fd)(he:Ft[i]?=some e)(h:∀m,n=m+1->DG M Pr w K mg base (jm M Ft m) (2*m+1)):dF Pr w K mg base lR (2*n+1) f fd e.ps (qi (j7 M.P K Pr w) (jm M Ft n i)):=by
 cases n with
 |zero=>exact H_
 |succ m=>
  have:=Ic F (h m rfl)
  unfold jm;rw[he];exact this
def Oo(g:Oi K mg)(O:ModOk K M Ft It)(hc:∀x t,M.cs.lookup x=some t->x8 K mg x t):∀n,DG M Pr w K mg base (jm M Ft n) (2*n+1):=by
 intro n
 induction n using Nat.strongRecOn with
 |ind n ih=>
 have call:∀{i:Nat}{e:Fe}{f:Addr}{fd:FuncData},uB K e f fd->Ft[i]?=some e->dF Pr w K mg base lR (2*n+1) f fd e.ps (qi (j7 M.P K Pr w) (jm M Ft n i)):=λF he=>yw F he λm hm=>ih m (by omega)
 obtain⟨o1,o2,o3,o4,o5,o6,o7⟩:=O.split;have pg:=Tr g o1 o2;refine⟨pg,hc,λx ds i h=>?_,λx c k h=>?_,λx c h=>?_,λx c i h=>?_,λm l c i h1 h2=>?_,λx h=>g x none (o7 x h)⟩
 ·have q:=o4 _ (dR h)
  unfold XJ at q;dsimp only at q;split at q
  case h_2=>cases q
  rename_i e he;rw[dh,dh]at q;obtain⟨⟨q2,q3⟩,q1⟩:=q;have q2:=of_decide_eq_true q2;have q3:=of_decide_eq_true q3;subst q3;obtain⟨f,fd,F⟩:=O.fe (jT he);have ha:=F.at_;unfold Ol at ha;rw[q2]at ha;obtain⟨gn,dV,b1,b2,b3⟩:=F.bd;exact⟨f,fd,e.ps,gn,dV,call F he,g _ _ (kj ha),F.fn.kp,b1,b2,λal H=>H0 q1▸b3 _ al H⟩
 ·obtain⟨C,ns,e,i,f,fd,c1,c2,c3,c4,F,m,cl,q,q9⟩:=wF g O (o5 _ (dR h))
  unfold Zz at q;simp only[dh,decide_eq_true_eq]at q;obtain⟨⟨⟨q1,q2⟩,q3⟩,q4⟩:=q;exact⟨C,f,fd,e.ps,ns,cl.Ia c1 c2,q4,cl.gl,m,j_ F.fn F.sc (K8 q1) q2 q3 cl.cl cl.na cl.nd cl.o_,F.bn q9⟩
 ·obtain⟨C,ns,e,i,f,fd,c1,c2,c3,c4,F,m,cl,q,q9⟩:=wF g O (o5 _ (dR h))
  unfold ZA at q;simp only[dh,decide_eq_true_eq]at q;obtain⟨⟨⟨⟨q1,q2⟩,q3⟩,q4⟩,q5⟩:=q;split at q5
  case h_2=>cases q5
  rename_i Sk hb;split at q5
  case h_2=>cases q5
  rename_i s0 n' q' hi;simp only[dh,decide_eq_true_eq]at q5;obtain⟨⟨r1,r2⟩,r3⟩:=q5;subst r1;exact⟨C,f,fd,e.ps,n',cl.Ia c1 c2,cl.gl,m,Df F.fn F.sc hb hi r2 r3 (K8 q1) (g _ _ q3) q4 q2 cl.cl (cl.na _ (fY ..)),F.bn q9⟩
 ·have q:=o5 _ (dR h)
  unfold XH at q;dsimp only at q;rw[dh]at q;obtain⟨q0,q⟩:=q;have q0:=of_decide_eq_true q0;obtain⟨C,ns,e,i',f,fd,c1,c2,c3,c4,F,m,cl,_,q9⟩:=wF g O q;rw[q0]at c3;cases c3;exact⟨C,f,fd,e.ps,ns,cl.Ia c1 c2,cl.gl,m,call F c4,F.bn q9⟩
 ·have q:=o6 _ (dR h1) (c,i) (Aq h2)
  unfold XM at q;dsimp only at q;split at q
  case h_2=>cases q
  rename_i n' ns e d1 d2 d3;split at q
  case h_2=>cases q
  rename_i C f d4 d5;rw[dh,dh]at q;obtain⟨⟨q1,q9⟩,q2⟩:=q;obtain⟨C',E6,l',g1,g2,_,g3,_⟩:=yt o1 d1;rw[d4]at g1;cases g1;rw[d2]at g2;cases g2;have cl:=wD g d4 g3;obtain⟨f',fd,F⟩:=O.fe (jT d3)
  have:=F.at_.symm.trans d5
  cases this;exact⟨C,_,fd,e.ps,ns,cl.Ia d1 d2,cl.cl,⟨of_decide_eq_true q1,F.isf,F.fn.kp⟩,call F d3,F.bn (xl.mp q9),λz=>by rw[Bq.mpr z]at q2;cases q2⟩
end
section
variable{Ft:List Fe}{It:HZ}
def Ie(K:bD)(p:Str×T):Bool:=match oJ K mainGlobals p.1 with
 |some (some u)=>(match p.2,u with
  |.tup ts,.ref a=>(match K.lookup a with
   |some ⟨.type c,_,.seq aF _,_⟩=>decide (c = "tuple")&&decide (aF.size<=sizeLine)&&jI ts aF.toList
   |_=>false)
  |t,u=>yu t u)
 |_=>false
def Oq(g:Oi K mg){x:Str}{t:T}(h:Ie K (x,t)=true):x8 K mg x t:=by
 unfold Ie at h;dsimp only at h;split at h
 case h_2=>cases h
 rename_i u hu;have hm:=g _ _ hu;split at h
 ·rename_i ts a
  split at h
  ·rename_i c od aF n sl hl
   simp only[dh,decide_eq_true_eq]at h;obtain⟨⟨h1,h2⟩,h3⟩:=h;subst h1;obtain⟨v1,v2⟩:=nX h3;exact⟨_,.ref a,hm,rfl,λB al H hB=>⟨a,ts.map eW,rfl,.inr ⟨_,aF,n,hB▸hl,rfl,rfl,h2,v1⟩,v2 B al H⟩⟩
  ·cases h
 ·obtain⟨v1,v2⟩:=yv h
  exact⟨u,eW t,hm,v1,λB al H _=>v2 B al H⟩
structure DX(K:bD)(M:Gm)(Ft:List Fe)(It:HZ):Prop extends ModOk K M Ft It where
 cs:M.cs.all (Ie K)=true
variable{Pr:Program}{w:World}{base:Heap}
def Ig(g:Oi K mg)(O:DX K M Ft It)(n:Nat):DG M Pr w K mg base (jm M Ft n) (2*n+1):=Oo g O.toModOk (λx t h=>Oq g (jw.mp O.cs _ (dR h))) n
def Ih{B:KT}{f:Fn}{k:Nat}(ns:Fh)(h:∃m',f [.scr ns] []=.ok (.bl true,m')){H:Hp}{a:Addr}(hO:Ml H)(hS:cJ B.K H a (ns.map V.int)):qi B f [.ref a] H (λv _=>v=.bl true) λ_ _ _=>False:=by
 obtain⟨m',h⟩:=h;refine⟨⟨H,λ_=>none,[]⟩,[.scr ns],[],_,m',⟨λ_ _ e=>e,λb p e=>(by cases e),rfl,λk ob e=>(by simp at e)⟩,⟨_,_,rfl,⟨a,rfl,hS⟩,rfl⟩,h,λv g' H' _ _ r=>r⟩
end
def Tu{l:PySem.W.OpenLaw}{m n:Nat}{q:Program}{loose:BM}{XP:(Str->Dx)->Heap->Prop}{YP:World->Heap->Prop}{d:DefRec}{K:Params->bD}{M:Gm}{Ft:List Fe}{It:HZ}{i:Nat}{e:Fe}
  (hn:l.most=some m) (hm:m<=sizeLine) (į:d.params.defaults=[]) (hr:bM (2*n+1) callerA) (hY:∀(w:World)(h:Heap),YP w h->(K w.params).In h)
  (he:Ft[i]?=some e) (hp:e.ps=[("_law_script" : Str)]) (hx:e.x=d.name) (AJ:e.cls=none) (E7:e.ds=[]) (O:∀P,DX (K P) M Ft It) (hT:∀ns:Fh,ns.length<=m->(∀i∈ns,i.natAbs.log2<1048577)->∃m',jm M Ft n i [.scr ns] []=.ok (.bl true,m')) :
  PySem.W.WalkO q loose XP YP l.row.toRowW d [] (λf vs=>PySem.call f vs):=by
 intro w s₀ s₁ mg mb G Y fa o pm cd doc dV kV ho hd pO hD İ hg args vals as Gn XN hrd V9 hlo
 obtain rfl:dV=.none:=Jm.none hD į
 obtain rfl:kV=.none:=Jm.noKw hD
 obtain⟨a,vs,ns,rfl,rfl,XO,hints,dD⟩:=Att.zU hn Gn V9;have bits:∀i∈ns,i.natAbs.log2<1048577:=λi hi=>by
  have h1:=PySem.W.layableW_item (PySem.W.layableW_arg XN _ (iu.mpr rfl)) (.int i) (jc.mpr ⟨i,hi,rfl⟩);have h2:=PyData.bits_of_layable (PyProof.Rows.Da.lay0_int (PySem.W.layable_int h1));unfold Builtin.Int.intBits at h2;split at h2
  ·rename_i z
   rw[show i=0 from of_decide_eq_true z];decide
  ·omega
 refine PySem.W.enter_call (codeAny_mono (?_:codeAny (model l.prog w) callerA (.call (.ref fa) ⟨[.ref a],[]⟩) (λr s'=>r=.ok (.ret (.bool true))/\OldK s₁.heap s'.heap/\s'.os=s₁.os/\PyProof.Rows.AllBare s'.gens) s₁) λr s' hq=>?_)
 ·have KX:=hY w _ Y
  have g:=Oj KX G.T.g;obtain⟨f,fd,F⟩:=(O w.params).fe (jT he);have ha:=F.at_;unfold Ol at ha;rw[AJ]at ha;have ea:=(g _ _ (kj ha)).symm.trans (hx▸İ);cases ea;refine Ce (k:=2*n+1) (fd:=fd) (x:=("_law_script" : Str)) (CX:=lR) (sp:=qi (j7 M.P (K w.params) l.prog w) (jm M Ft n i)) KX G.T.g G.T.b G.T.builtins G.T.nolimit hg XO hints (fK dD hm) hr (λbase KB GB=>?_) (λs u=>?_) (λH hO hS=>Ih (k:=0) ns (hT ns dD bits) hO hS) λ_ _ _ z=>z
  ·have:=yw (Pr:=l.prog) (w:=w) (base:=base) (mg:=mg) F he (n:=n) λm hm=>Ig g (O w.params) m
   rw[hp]at this;exact this
  ·have:=F.bs E7 [u] (by rw[hp];rfl)
   rw[hp]at this;exact .of_eq this
 ·obtain⟨rfl,h2,h3,h4⟩:=hq
  exact⟨.inl ⟨.bool true,.bool true,[],rfl,λ_=>rfl,.bool true,Att.zV l _,λ_=>⟨Bc.nil,λ_ hm=>(nomatch hm)⟩⟩,h2,h3,h4⟩
end D
namespace D
def bo{α β:Type}(a:α)(f:α->Res β):Res.bind (.ok a) f=f a:=rfl
def rN{α:Type}(a:α):aT (some a)=.ok a:=rfl
section
variable{a b:FS}{s s':S}{r:Res (Out×S)}{t:T}{c:FT}{np n:Nat}{ts:FV}{m m':He}{e:FE}
def seq1(h:a s=.ok (.nx,s'))(k:b s'=r):af a b s=r:=by unfold af;rw[h];exact k
def Ot(h:a s=.ok (.rt t,s')):af a b s=.ok (.rt t,s'):=by unfold af;rw[h];rfl
def Pu(h:c s=.ok (true,s'))(k:a s'=r):aR c a b s=r:=by unfold aR;rw[h];exact k
def vf(h:c s=.ok (false,s'))(k:b s'=r):aR c a b s=r:=by unfold aR;rw[h];exact k
def gI(h:e s=.ok (t,s')):aA e s=.ok (.rt t,s'):=by unfold aA;rw[h];rfl
def ee(h:ts.length=np)(k:b ⟨ts.map (λt=>some (.val t))++bX (n-ts.length) none,m⟩=.ok (.rt t,s'))(hm:s'.m=m'):aG np n b ts m=.ok (t,m'):=by
 unfold aG;rw[if_pos h,k,<- hm];rfl
def wG(h:ts.length=np)(k:b ⟨ts.map (λt=>some (.val t))++bX (n-ts.length) none,m⟩=.ok (.nx,s'))(hm:s'.m=m'):aG np n b ts m=.ok (.non,m'):=by
 unfold aG;rw[if_pos h,k,<- hm];rfl
def yx{g:Fn}(h:aW ts=true)(k:g ts []=.ok (t,m'))(ht:noOwn t=true):aU g ts m=.ok (t,m):=by
 unfold aU;rw[if_pos h,k];exact if_pos ht
def cZ{g:Fn}{ds:FV}{fl:FL}(h:fl s=.ok (ts,s'))(k:g (ts++ds) s'.m=.ok (t,m')):aw g ds fl s=.ok (t,⟨s'.r,m'⟩):=by
 unfold aw;rw[h];show(match g (ts++ds) s'.m with|.ok q=>_|.bad=>_|.exc c fs s'=>_)=_;rw[k]
end
def uC{g:Nat->Option Fn}{o:FE}{fl:FL}{k:Nat}{ob:Ob}{f:Fn}{ts:FV}{t:T}{s s1 s2:S}{m':He}(h:o s=.ok (.own k,s1))(hm:s1.m[k]?=some ob)(hg:g ob.c=some f)(ha:fl s1=.ok (ts,s2))(hc:f (.own k::ts) s2.m=.ok (t,m')) :
  av g o fl s=.ok (t,⟨s2.r,m'⟩):=by
 unfold av;rw[h];show Res.bind (aT ((s1.m[k]?).bind λob=>g ob.c)) _=_;rw[hm];show Res.bind (aT (g ob.c)) _=_;rw[hg];refine Eq.trans (bo f _) ?_;exact cZ (ts:=.own k::ts) (s':=s2) (by rw[ha];rfl) (by rw[dc];exact hc)
def lu{α:Type}{p:Prop}[Decidable p]{x:α}(h:p):gd p x=some x:=if_pos h
def ev:(∀t s,cF t s=.ok (t,s))/\(∀g a s,dq g a s=(a s).bind λp=>(aT (g p.1)).bind λt=>.ok (t,p.2))/\(∀g a b s,bA g a b s=(a s).bind λp=>(b p.2).bind λq=>(aT (g p.1 q.1)).bind λt=>.ok (t,q.2)) /\
  (∀s,ba s=.ok ([],s))/\(∀a r s,bH a r s=(a s).bind λp=>(r p.2).bind λq=>.ok (p.1::q.1,q.2))/\(∀g a s,bz g a s=(a s).bind λp=>(aT (g p.1)).bind λt=>.ok (t,p.2)) /\
  (∀a s,tB a s=(a s).bind λp=>(aT (GI p.1)).bind λb=>.ok (b,p.2))/\(∀a s,bu a s=(a s).bind λp=>(aT (MD p.1)).bind λb=>.ok (b,p.2))/\(∀a s,dH a s=(a s).bind λp=>.ok (!p.1,p.2)) /\
  (∀s,q_ s=.ok (none,s))/\(∀a s,ni a s=(a s).bind λp=>(aT (Rf p.1)).bind λi=>.ok (some i,p.2))/\(∀a lo hi s,ph a lo hi s=(a s).bind λp=>(lo p.2).bind λq=>(hi q.2).bind λz=>(aT (AK q.1 z.1 p.1)).bind λt=>.ok (t,z.2)) /\
  (∀i a s,aI i a s=(a s).bind λp=>.ok (.nx,jR p.2 i (.val p.1)))/\(∀a s,aK a s=(a s).bind λp=>.ok (.nx,p.2))/\(∀s,aC s=.ok (.nx,s)) /\
  (∀r m i c,jR ⟨r,m⟩ i c=⟨r.set i (some c),m⟩)/\(∀f o fl s,pA f o fl s=(o s).bind λp=>(aT (G2 p.1)).bind λl=>(fl p.2).bind λq=>(aT (f l q.1)).bind λt=>.ok (t,q.2)) /\
  (∀t,GI (.bl t)=some t)/\(∀t,MD (.bl t)=some t)/\(∀i,Rf (.int i)=some i)/\(∀l,G2 (.str l)=some l):=
 ⟨λ_ _=>rfl,λ_ _ _=>rfl,λ_ _ _ _=>rfl,λ_=>rfl,λ_ _ _=>rfl,λ_ _ _=>rfl,λ_ _=>rfl,λ_ _=>rfl,λ_ _=>rfl,λ_=>rfl,λ_ _=>rfl,λ_ _ _ _=>rfl,λ_ _ _=>rfl,λ_ _=>rfl,λ_=>rfl,λ_ _ _ _=>rfl,λ_ _ _ _=>rfl,λ_=>rfl,λ_=>rfl,λ_=>rfl,λ_=>rfl⟩
def uD:(∀r m t,vF 0 ⟨some (.val t)::r,m⟩=.ok (t,⟨some (.val t)::r,m⟩))/\(∀x0 r m t,vF 1 ⟨x0::some (.val t)::r,m⟩=.ok (t,⟨x0::some (.val t)::r,m⟩))/\(∀x0 x1 r m t,vF 2 ⟨x0::x1::some (.val t)::r,m⟩=.ok (t,⟨x0::x1::some (.val t)::r,m⟩))/\(∀x0 x1 x2 r m t,vF 3 ⟨x0::x1::x2::some (.val t)::r,m⟩=.ok (t,⟨x0::x1::x2::some (.val t)::r,m⟩))/\(∀x0 x1 x2 x3 r m t,vF 4 ⟨x0::x1::x2::x3::some (.val t)::r,m⟩=.ok (t,⟨x0::x1::x2::x3::some (.val t)::r,m⟩))/\(∀x0 x1 x2 x3 x4 r m t,vF 5 ⟨x0::x1::x2::x3::x4::some (.val t)::r,m⟩=.ok (t,⟨x0::x1::x2::x3::x4::some (.val t)::r,m⟩))/\(∀x0 x1 x2 x3 x4 x5 r m t,vF 6 ⟨x0::x1::x2::x3::x4::x5::some (.val t)::r,m⟩=.ok (t,⟨x0::x1::x2::x3::x4::x5::some (.val t)::r,m⟩))/\(∀x0 x1 x2 x3 x4 x5 x6 r m t,vF 7 ⟨x0::x1::x2::x3::x4::x5::x6::some (.val t)::r,m⟩=.ok (t,⟨x0::x1::x2::x3::x4::x5::x6::some (.val t)::r,m⟩))/\(∀y r c,sH (α:=Option C) (y::r) 0 c=c::r)/\(∀x0 y r c,sH (α:=Option C) (x0::y::r) 1 c=x0::c::r)/\(∀x0 x1 y r c,sH (α:=Option C) (x0::x1::y::r) 2 c=x0::x1::c::r)/\(∀x0 x1 x2 y r c,sH (α:=Option C) (x0::x1::x2::y::r) 3 c=x0::x1::x2::c::r)/\(∀x0 x1 x2 x3 y r c,sH (α:=Option C) (x0::x1::x2::x3::y::r) 4 c=x0::x1::x2::x3::c::r)/\(∀x0 x1 x2 x3 x4 y r c,sH (α:=Option C) (x0::x1::x2::x3::x4::y::r) 5 c=x0::x1::x2::x3::x4::c::r)/\(∀x0 x1 x2 x3 x4 x5 y r c,sH (α:=Option C) (x0::x1::x2::x3::x4::x5::y::r) 6 c=x0::x1::x2::x3::x4::x5::c::r)/\(∀x0 x1 x2 x3 x4 x5 x6 y r c,sH (α:=Option C) (x0::x1::x2::x3::x4::x5::x6::y::r) 7 c=x0::x1::x2::x3::x4::x5::x6::c::r):=
 ⟨λ_ _ _=>rfl,λ_ _ _ _=>rfl,λ_ _ _ _ _=>rfl,λ_ _ _ _ _ _=>rfl,λ_ _ _ _ _ _ _=>rfl,λ_ _ _ _ _ _ _ _=>rfl,λ_ _ _ _ _ _ _ _ _=>rfl,λ_ _ _ _ _ _ _ _ _ _=>rfl,λ_ _ _=>rfl,λ_ _ _ _=>rfl,λ_ _ _ _ _=>rfl,λ_ _ _ _ _ _=>rfl,λ_ _ _ _ _ _ _=>rfl,λ_ _ _ _ _ _ _ _=>rfl,λ_ _ _ _ _ _ _ _ _=>rfl,λ_ _ _ _ _ _ _ _ _ _=>rfl⟩
end D
namespace D
open PySem L2 PyProof.Rows
def K9(l:Bi):(⟨l.toArray⟩:Str).length=l.length:=by show l.toArray.size=_;simp
open PySem.StrLaws in
theorem uE(s sub:Str)(hi:Nat):∀(l:Bi)(a fr:Nat),(forIn l ((#[a]:Array Nat),fr) (occBody s sub hi 1)).run.fst=#[a]
 |[],_,_=>rfl
 |b::l,a,fr=>by
  rw[Fq];unfold occBody;rw[if_neg (by simp)]
  exact uE s sub hi l a fr
open PySem.StrLaws Builtin.Str in
theorem occ_first(s sub:Str)(hi:Nat):∀(n lo fr:Nat),fr<=lo ->
  ((forIn (vt lo n) ((#[]:Array Nat),fr) (occBody s sub hi 1)).run.fst=#[]/\∀i,lo<=i->i<lo+n->¬ (i+sub.length<=hi/\subAt s sub i=true)) \/
  ∃i,(forIn (vt lo n) ((#[]:Array Nat),fr) (occBody s sub hi 1)).run.fst=#[i]/\lo<=i/\i<lo+n/\(i+sub.length<=hi/\subAt s sub i=true)/\∀j,lo<=j->j<i->¬ (j+sub.length<=hi/\subAt s sub j=true)
 |0,lo,fr,_=>.inl ⟨rfl,λi a b=>by omega⟩
 |n+1,lo,fr,h=>by
  rw[JC,Fq];by_cases hc:lo+sub.length<=hi/\subAt s sub lo=true
  ·right
   refine⟨lo,?_,bV _,by omega,hc,λj a b=>by omega⟩
   unfold occBody;rw[if_pos ⟨⟨⟨by simp,h⟩,hc.1⟩,hc.2⟩]
   exact uE s sub hi _ lo _
  ·have e:∀k,(occBody s sub hi 1 lo ((#[]:Array Nat),fr) >>= k:Id (Array Nat×Nat))=k (ForInStep.yield ((#[]:Array Nat),fr)):=λk=>by
    unfold occBody;rw[if_neg (λz=>hc ⟨z.1.2,z.2⟩)];rfl
   rw[e];rcases occ_first s sub hi n (lo+1) fr (by omega)with⟨a,b⟩|⟨i,a,b,c,d,g⟩
   ·refine .inl ⟨a,λi h1 h2=>?_⟩
    by_cases z:i=lo
    ·subst z;exact hc
    ·exact b i (by omega) (by omega)
   ·refine .inr ⟨i,a,by omega,by omega,d,λj h1 h2=>?_⟩
    by_cases z:j=lo
    ·subst z;exact hc
    ·exact g j (by omega) h2
def wH(c:Nat)(r:Bi)(i:Nat):(i+(⟨[c].toArray⟩:Str).length<=r.length/\Builtin.Str.subAt ⟨r.toArray⟩ ⟨[c].toArray⟩ i=true) ↔ r[i]?=some c:=by
 rw[StrLaws.subAt_eq,K9,beq_iff_eq];show(i + [c].length<=r.length/\(r.drop i).take [c].length=[c]) ↔ _;constructor
 ·rintro⟨h1,h2⟩
  have:=congrArg (λq=>q[0]?) h2
  simpa using this
 ·intro h
  have hi:=(c_.mp h).1;refine⟨hi,?_⟩;rw[zk hi]
  have:=(c_.mp h).2
  simp[this]
def Ii(c:Nat)(D S R:Bi)(h:c∉S):Builtin.Str.occurrences ⟨(D++(S++c::R)).toArray⟩ ⟨[c].toArray⟩ D.length (D++(S++c::R)).length 1=[D.length+S.length]:=by
 have Pp:(D++(S++c::R))[D.length+S.length]?=some c:=by
  rw[e_ (by omega),e_ (by omega)]
  simp
 have ı:∀j,D.length<=j->j<D.length+S.length->¬ (D++(S++c::R))[j]?=some c:=λj h1 h2 z=>by
  rw[e_ h1,gi (by omega)]at z
  exact h (jT z)
 rw[StrLaws.occ_eq];rcases occ_first ⟨(D++(S++c::R)).toArray⟩ ⟨[c].toArray⟩ (D++(S++c::R)).length ((D++(S++c::R)).length+1-D.length) D.length D.length (bV _)with⟨a,b⟩|⟨i,a,b,c',d,g⟩
 ·exact absurd ((wH c _ _).mpr Pp) (b _ (by omega) (by simp;omega))
 ·rw[a]
  have hi:=(wH c _ _).mp d
  have:i=D.length+S.length:=by
   rcases Nat.lt_trichotomy i (D.length+S.length)with z|z|z
   ·exact absurd hi (ı i b z)
   ·exact z
   ·exact absurd ((wH c _ _).mpr Pp) (g _ (by omega) z)
  rw[this]
def Ar(c:Nat)(S R:Bi)(h:c∉S):tR (S++c::R) [.str [c]]=some (.int ((S.length:Nat):Int)):=by
 have:=Ii c [] S R h
 rw[lL]at this;show some (T.int (Txt.find _ _))=_;unfold Txt.find;rw[K9];have e:Builtin.Str.occurrences ⟨(S++c::R).toArray⟩ ⟨[c].toArray⟩ 0 (S++c::R).length 1=[0+S.length]:=this;rw[e,A6]
def yy(n d k:Nat):gK n d (some (k:Int))=min k n:=by
 unfold gK;dsimp only;rw[if_neg (by omega)];rfl
def DY(n d:Nat):gK n d none=d:=rfl
def nY{α:Type}(w r:List α):cA (w++r) (some (w.length:Int)) none=r:=by
 unfold cA;rw[yy,DY,dg,A7 (by omega),List.drop_left]
 simp
def DZ{α:Type}(w r:List α):cA (w++r) none (some (w.length:Int))=w:=by
 unfold cA;rw[yy,DY,dg,A7 (by omega)]
 simp
def pre_app(w r:Bi):pre w (w++r)=true:=by unfold pre;simp
def gy{c d:Nat}{w r:Bi}(h:c≠d):pre (c::w) (d::r)=false:=by
 unfold pre;rw[eT,eT,JD]
 have:(d::Br w.length r == c::w)=false:=by
  rw[beq_eq_false_iff_ne];intro z;injection z with z _
  exact h z.symm
 rw[this,JM]
def D0(c:Nat)(w r:Bi):pre (c::w) (c::r)=pre w r:=by
 unfold pre;rw[eT,eT,JD]
 have:(c::Br w.length r == c::w)=(Br w.length r == w):=by
  rw[JN];simp
 rw[this]
 congr 1
 apply decide_eq_decide.mpr;omega
end D
namespace D
abbrev sv(t:T):Option C:=some (.val t)
abbrev cI(i:Int):FE:=cF (.int i)
abbrev cS(l:Bi):FE:=cF (.str l)
abbrev oA:FE->FE->FE:=bA (dP .Add)
abbrev oM:FE->FE->FE:=bA (dP .Mod)
abbrev oD:FE->FE->FE:=bA (dP .FloorDiv)
abbrev oE:FE->FE->FE:=bA (aM .Eq)
abbrev oI:FE->FE->FE:=bA jf
abbrev k1(a:FE):FL:=bH a ba
abbrev k2(a b:FE):FL:=bH a (k1 b)
abbrev k3(a b c:FE):FL:=bH a (k2 b c)
abbrev zA:FE:=vF 0
abbrev zB:FE:=vF 1
abbrev zC:FE:=vF 2
abbrev zD:FE:=vF 3
abbrev zO:FE:=cI 0
abbrev zI:FE:=cI 1
abbrev zh:Bi:=[104,101,97,112]
abbrev zg:Bi:=[103,105,118,101]
abbrev zl:Bi:=[108,101,102,116]
abbrev zr:Bi:=[114,111,111,109]
abbrev zu:Bi:=[117,112]
def W{α:Type}(x:Res α)(Q:α->Prop):Prop:=∃a,x=.ok a/\Q a
section
variable{α β:Type}{x:Res α}{f:α->Res β}{P:α->Prop}{R:β->Prop}
def W.mono{Q:α->Prop}(h:W x Q)(k:∀a,Q a->P a):W x P:=let⟨a,e,q⟩:=h;⟨a,e,k a q⟩
theorem W.bind(h:W x λa=>W (f a) R):W (x.bind f) R:=by
 obtain⟨a,rfl,b,e,q⟩:=h;exact⟨b,e,q⟩
def W.of{a:α}(e:x=.ok a)(h:P a):W x P:=⟨a,e,h⟩
end
section
variable{s s1 s':S}{a b:FE}{fl:FL}{g:T->T->FX}{gN:FV->FX}{Q:T×S->Prop}{t u:T}{ts:FV}{i:Nat}{c:FT}{A B:FS}{QS:Out×S->Prop}{QB:Bool×S->Prop}{QL:FV×S->Prop}{G:T×He->Prop}
def Tv{f:Fn}(h:W (fl s) λp=>W (f p.1 p.2.m) λq=>Q (q.1,⟨p.2.r,q.2⟩)):W (aw f [] fl s) Q:=W.bind (h.mono λp k=>by
 obtain⟨q,e,k⟩:=k;refine⟨_,?_,k⟩;rw[dc,e])
def WB(b:FS)(s:S)(G:T×He->Prop):Prop:=W (b s) λp=>∃t,p.1=.rt t/\G (t,p.2.m)
def Tw(h:W (a s) λp=>G (p.1,p.2.m)):WB (aA a) s G:=W.bind (h.mono λp q=>⟨_,rfl,_,rfl,q⟩)
def yz(e:a s=.ok (t,s'))(h:G (t,s'.m)):WB (aA a) s G:=Tw ⟨_,e,h⟩
def b7(h:W (A s) λp=>p.1=.nx/\WB B p.2 G):WB (af A B) s G:=W.bind (h.mono λp zz=>by
 obtain⟨e,k⟩:=zz;obtain⟨o,s'⟩:=p;cases e;exact k)
def K_(h:WB A s G):WB (af A B) s G:=W.bind (W.mono h λp ⟨t,e,k⟩=>⟨p,by obtain⟨o,s'⟩:=p;cases e;rfl,t,e,k⟩)
def XQ(h:W (a s) λp=>QS (.nx,jR p.2 i (.val p.1))):W (aI i a s) QS:=W.bind (h.mono λ_ q=>⟨_,rfl,q⟩)
def XR(h:W (a s) λp=>WB B (jR p.2 i (.val p.1)) G):WB (af (aI i a) B) s G:=b7 (XQ (h.mono λ_ q=>⟨rfl,q⟩))
def Tz(e:a s=.ok (t,s'))(h:WB B (jR s' i (.val t)) G):WB (af (aI i a) B) s G:=XR ⟨_,e,h⟩
def ZC(h:W (c s) λp=>(p.1=true->W (A p.2) QS)/\(p.1=false->W (B p.2) QS)):W (aR c A B s) QS:=W.bind (h.mono λp zz=>by
 obtain⟨k1,k2⟩:=zz;cases e:p.1 with
 |true=>exact k1 e
 |false=>exact k2 e)
def f9(e:c s=.ok (true,s'))(h:W (A s') QS):W (aR c A B s) QS:=ZC ⟨_,e,⟨λ_=>h,λz=>by cases z⟩⟩
def bw(e:c s=.ok (false,s'))(h:W (B s') QS):W (aR c A B s) QS:=ZC ⟨_,e,⟨λz=>(by cases z),λ_=>h⟩⟩
def ZD(e:c s=.ok (true,s'))(h:WB A s' G):WB (af (aR c A B) a') s G:=K_ (f9 e h)
def XS(e:c s=.ok (false,s'))(h:WB B s' G):WB (af (aR c A aC) B) s G:=b7 (bw e ⟨_,rfl,rfl,h⟩)
def iW{np n:Nat}{m:He}(h:ts.length=np)(k:WB B ⟨ts.map (λt=>some (.val t))++bX (n-ts.length) none,m⟩ G):W (aG np n B ts m) G:=by
 unfold aG;rw[if_pos h];exact W.bind (W.mono k λp ⟨t,e,k⟩=>⟨_,by rw[e],k⟩)
def uF{f:Fn}{m:He}(h:aW ts=true)(k:W (f ts []) λp=>noOwn p.1=true/\G (p.1,m)):W (aU f ts m) G:=by
 obtain⟨p,e,h1,h2⟩:=k;refine⟨_,?_,h2⟩;unfold aU;rw[if_pos h,e];exact if_pos h1
def dJ(h:W (A s) λp=>p.1=.nx/\W (B p.2) QS):W (af A B s) QS:=W.bind (h.mono λp zz=>by
 obtain⟨e,k⟩:=zz;obtain⟨o,s'⟩:=p;cases e;exact k)
theorem Ou{gg:FG}{I:S->Prop}:∀{ts:FV}{s:S},(∀t∈ts,∀s,I s->∃r,gg t s.r=some r/\W (B ⟨r,s.m⟩) λp=>p.1=.nx/\I p.2)->I s->W (bZ gg B ts s) λp=>p.1=.nx/\I p.2
 |[],s,_,h=>⟨_,rfl,rfl,h⟩
 |t::ts,s,k,h=>by
  obtain⟨r,e1,⟨o,s1⟩,e2,e3,h1⟩:=k t (fY ..) s h;cases e3;obtain⟨p,e4,h2⟩:=Ou (ts:=ts) (λt ht=>k t (bW _ ht)) h1;refine⟨p,?_,h2⟩;rw[bZ,e1];refine Eq.trans (bo _ _) ?_;show Res.bind (B ⟨r,s.m⟩) _=_;rw[e2];exact e4
end
end D
namespace K46
open PySem D L2
variable(n:Nat){m:List _root_.D.Ob}
abbrev D3:Bi:=[97,98,99,100,101,102,103,104,105,106,107,108,109,110,111,112,113,114,115,116,117,118,119,120,121,122,65,66,67,68,69,70,71,72,73,74,75,76,77,78,79,80,81,82,83,84,85,86,87,88,89,90,48,49,50,51,52,53,54,55,56,57,32,33,34,35,36,38,39,40,41,42,43,44,45,46,47,58,59,60,61,62,63,64,91,92,93,94,95,96,123,124,125,126]
abbrev Ov:Bi:=[97,98,99,100,101,102,103,104,105,106,107,108,109,110,111,112,113,114,115,116,117,118,119,120,121,122]
abbrev TH:Bi:=[32,33,34,35,38,39,40,41,44,45,48,49,50,51,52,53,54,55,56,57,58,59,60,61,62,64,65,66,67,68,69,70,71,72,73,74,75,76,77,78,79,80,81,82,83,84,85,86,87,88,89,90,92,95,96,97,98,99,100,101,102,103,104,105,106,107,108,109,110,111,112,113,114,115,116,117,118,119,120,121,122,123,124,125,126]
abbrev TJ:Bi:=[32,33,34,35,36,38,39,40,41,42,43,44,45,46,47,48,49,50,51,52,53,54,55,56,57,58,59,60,61,62,63,64,65,66,67,68,69,70,71,72,73,74,75,76,77,78,79,80,81,82,83,84,85,86,87,88,89,90,91,92,93,94,95,96,97,98,99,100,101,102,103,104,105,106,107,108,109,110,111,112,113,114,115,116,117,118,119,120,121,122,123,124,125,126]
noncomputable abbrev fx(x:Str)(i:Nat):Str×FV×Nat:=(x,[],i)
noncomputable def M:Gm:={
 P:={cn:=("Program" :: "Line" :: "Always" :: "RowIs" :: "Last" :: "Like" :: "Soon" :: "FromTo" :: "Not" :: "End" :: "Mark" :: "Drop" :: "Print" :: "Done" :: "Say" :: "Swap" :: "Join" :: "Pile" :: "Bring" :: "Go" :: "Add" :: "Tell" :: "TextRow" :: "Truths" :: "Walker" :: "Blade" :: "Scan" :: []),an:=("lines" :: "cond" :: "deed" :: "number" :: "pattern" :: "many" :: "first" :: "second" :: "inner" :: "name" :: "words" :: "every" :: "most" :: "shelf" :: "text" :: "known" :: "conds" :: "up" :: "behind_marks" :: "teller" :: "truths" :: "passed" :: "met" :: "taken" :: "hand" :: "hand_rows" :: "shelves" :: "sums" :: "noted" :: "log" :: "wanting" :: "walker" :: "seen" :: "came" :: "waiting" :: "rest" :: "finished" :: []),tab:=[[0],[1,2],[],[3],[],[4],[5,4],[6,7],[8],[],[9],[],[],[],[10],[4,10,11],[12],[13,12],[13],[9],[6,7],[],[14,3,15],[16,17],[0,18,19,20,21,22,23,24,25,26,27,28,29,30],[31,32,33,34,35,36],[35,3]],sub:=[[0],[1],[2],[3],[4],[5],[6],[7],[8],[9],[10],[11],[12],[13],[14],[15],[16],[17],[18],[19],[20],[21],[22],[23],[24],[25],[26]]},
 cs:=[("SIGNS",.str D3),("SMALL_LETTERS",.str Ov),("FIGURES",.str [48,49,50,51,52,53,54,55,56,57]),("MOST_ITEMS",.int 8),("MOST_SIGNS",.int 12),("NEVER_PLAIN",.str [94,36,46,91,93,42,43,63,47]),("NEVER_IN_A_SET",.str [93,94,47]),("ONCE",.str [49]),("HOW_MANY",.str [42,43,63]),("NOWHERE",.int (-1)),("MOST_FIGURES_pieces",.int 60),("COND_BEGINNINGS",.tup [.str [114,111,119,32],.str [108,97,115,116],.str [47],.str [115,111,111,110,32],.str [102,114,111,109,32],.str [110,111,116,32],.str [101,110,100]]),("MOST_ROW",.int 999),("MOST_FIGURES_linereading",.int 3),("MOST_SOON",.int 3),("LEAST_JOIN",.int 2),("MOST_SMALL",.int 9),("MOST_LETTERS",.int 8),("MOST_TEXT",.int 40),("MOST_LINES",.int 24)],
 fs:=(fx "made_of" 0::fx "beginning_of" 1::fx "may_stand_plain" 2::fx "pattern" 3::fx "items_of" 4::fx "place_behind_core" 5::fx "many_at" 6::fx "item_of" 7::fx "is_written_plain" 8::fx "written" 9::fx "written_core" 10::fx "may_be_left_out" 11::fx "may_come_again" 12::("stretch",[.int 0],13)::fx "found" 14::fx "greatest_ends" 15::fx "ends_behind_items" 16::fx "ends_with_item" 17::fx "holds" 18::fx "is_row_up_to" 19::fx "given_in" 20::fx "numbers_of_marks" 21::fx "ahead" 22::fx "rows_seen_by" 23::fx "line_of" 24::fx "line_next" 25::fx "cond_next" 26::fx "plain_cond_next" 27::fx "row_or_pattern_next" 28::fx "deed_next" 29::fx "pile_next" 30::fx "number_next" 31::fx "name_next" 32::fx "words_next" 33::fx "pattern_next" 34::fx "may_stand" 35::fx "cut" 36::fx "read" 37::fx "lines_of" 38::fx "marks_of" 39::fx "refuse_go_without_mark" 40::fx "_law_cell_at" 41::fx "_law_whole" 42::fx "_law_signs" 43::fx "_law_sign" 44::fx "_law_text" 45::fx "_law_of_parts" 46::fx "_law_new" 47::fx "_law_step" 48::fx "_law_due" 49::fx "_law_kept" 50::fx "_law_fed" 51::fx "_law_finished" 52::fx "law" 53::[]),
 cl:=(("Program",.cp 0)::("Line",.fz 1 2)::("Like",.fz 5 1)::("FromTo",.fz 7 2)::("Say",.fz 14 1)::("Pile",.fz 17 2)::("Bring",.fz 18 1)::("TextRow",.nw 22 61)::("Truths",.nw 23 63)::("Walker",.nw 24 67)::("Blade",.nw 25 84)::("Scan",.nw 26 91)::[]),
 ms:=(("has",[(22,62)])::("told_of",[(23,64)])::("truth",[(23,65)])::("truth_of_stretch",[(23,66)])::("want",[(24,68)])::("take",[(24,69)])::("take_with",[(24,70)])::("go_on",[(24,71)])::("meet",[(24,72)])::("hand_over",[(24,73)])::("finish",[(24,74),(25,86)])::("find_none",[(24,75)])::("give",[(24,76)])::("end_turn",[(24,77)])::("give_hand_and_end",[(24,78)])::("do",[(24,79)])::("do_giving",[(24,80)])::("do_pile",[(24,81)])::("do_bring",[(24,82)])::("rows_on_shelves",[(24,83)])::("feed",[(25,85)])::("refuse_once_finished",[(25,87)])::("come",[(25,88)])::("take_all_but",[(25,89)])::("kept",[(25,90)])::("passes",[(26,92)])::("must_pass",[(26,93)])::("while_made_of",[(26,94)])::("between",[(26,95)])::[]),
 bl:=["isinstance","len","all","any","str","int","list","range","enumerate","bool","min","max","reversed","sum"],bf:=["log","met","up","known","shelves","sums","noted","waiting"],bn:=["_law_own","_law_answer"],bs:=["_law_owns"],fz:=["_law_answer"]}
abbrev Fu(x:Str)(k:Nat)(N:BM)(a:Nat)(u:BM)(b:Bool):Fe:=⟨none,x,x,top k,N,N.take a,u,b,[]⟩
abbrev Fm(c x q:Str)(k h:Nat)(N:BM)(a:Nat):Fe:=⟨some c,x,q,inClass (top k) h,"self" :: N,"self" :: N.take a,[],false,[]⟩
noncomputable def Ft:List Fe:=[
 Fu "made_of" 38 ["text","signs"] 9 [] true,
 Fu "beginning_of" 39 ["text","signs","many"] 2 [] true,
 Fu "may_stand_plain" 47 ["sign"] 9 [] true,
 Fu "pattern" 48 ["text","front","body","back","items"] 1 [] true,
 Fu "items_of" 49 ["body","items","place","behind","many"] 1 ["items"] true,
 Fu "place_behind_core" 50 ["body","place","bracket"] 2 [] true,
 Fu "many_at" 51 ["body","place"] 9 [] true,
 Fu "item_of" 52 ["core","many"] 9 [] true,
 Fu "is_written_plain" 54 ["signs","others"] 9 [] true,
 Fu "written" 55 ["one","parts","signs","others","many"] 1 ["parts"] true,
 Fu "written_core" 56 ["signs","others"] 9 [] true,
 Fu "may_be_left_out" 59 ["item"] 9 [] true,
 Fu "may_come_again" 60 ["item"] 9 [] true,
 ⟨none,"stretch","stretch",top 63,["one","row","start","ends","begin"],["one","row","start"],[],true,[.int 0]⟩,
 Fu "found" 64 ["one","row"] 9 [] true,
 Fu "greatest_ends" 65 ["one","row","ends","item"] 2 [] true,
 Fu "ends_behind_items" 66 ["row","back"] 9 [] true,
 Fu "ends_with_item" 67 ["item","row","behind","signs","others","again","ends","place","end"] 3 ["ends"] true,
 Fu "holds" 71 ["cond","row"] 9 [] false,
 Fu "is_row_up_to" 72 ["cond","number"] 9 [] false,
 Fu "given_in" 82 ["log"] 9 ["return"] false,
 Fu "numbers_of_marks" 83 ["lines","numbers","number","line"] 1 ["numbers"] true,
 Fu "ahead" 85 ["program"] 9 [] true,
 Fu "rows_seen_by" 86 ["cond"] 9 [] true,
 Fu "line_of" 98 ["row","number","scan","line"] 2 [] true,
 Fu "line_next" 99 ["scan","cond"] 1 [] false,
 Fu "cond_next" 100 ["scan"] 9 [] false,
 Fu "plain_cond_next" 101 ["scan","many","first"] 1 [] false,
 Fu "row_or_pattern_next" 102 ["scan"] 9 [] false,
 Fu "deed_next" 103 ["scan"] 9 [] false,
 Fu "pile_next" 105 ["scan","shelf"] 1 [] false,
 Fu "number_next" 107 ["scan","least","most","figures","number"] 3 [] false,
 Fu "name_next" 108 ["scan","name"] 1 [] false,
 Fu "words_next" 109 ["scan","words"] 1 [] false,
 Fu "pattern_next" 110 ["scan","text"] 1 [] false,
 Fu "may_stand" 111 ["cond","deed"] 9 [] true,
 Fu "cut" 114 ["text","rows"] 1 [] true,
 Fu "read" 117 ["text","lines","marks"] 1 [] true,
 Fu "lines_of" 118 ["rows","lines","number","row"] 1 ["lines"] true,
 Fu "marks_of" 119 ["lines","marks","number","line"] 1 ["marks"] true,
 Fu "refuse_go_without_mark" 120 ["lines","marks","number","line"] 2 [] true,
 Fu "_law_cell_at" 122 ["_law_script","_law_k"] 9 [] true,
 Fu "_law_whole" 123 ["_law_answer"] 9 ["boxes"] true,
 Fu "_law_signs" 124 ["_law_number","_law_some"] 1 [] true,
 Fu "_law_sign" 125 ["_law_number","_law_signs_here","_law_some","_law_spot"] 2 [] true,
 Fu "_law_text" 126 ["_law_first","_law_signs_here","_law_pile","_law_lines"] 2 [] true,
 Fu "_law_of_parts" 127 ["_law_first","_law_signs_here","_law_most","_law_cond","_law_line","_law_some"] 2 [] true,
 Fu "_law_new" 128 [] 9 [] false,
 Fu "_law_step" 129 ["_law_own","_law_row","_law_first","_law_signs_here","_law_up","_law_given","_law_way"] 4 ["_law_given","boxes"] false,
 Fu "_law_due" 130 ["_law_own","_law_piece","_law_first","_law_signs_here","_law_given","_law_sign_here"] 4 ["boxes"] false,
 Fu "_law_kept" 131 ["_law_blade","_law_own","_law_many"] 2 ["boxes"] false,
 Fu "_law_fed" 132 ["_law_blade","_law_own","_law_piece","_law_first","_law_signs_here","_law_answer"] 5 ["boxes"] false,
 Fu "_law_finished" 133 ["_law_blade","_law_own","_law_first","_law_signs_here","_law_due_here","_law_answer"] 4 ["boxes"] false,
 Fu "law" 134 ["_law_script","_law_first","_law_signs_here","_law_program","_law_blades","_law_owns","_law_held","_law_cell","_law_which","_law_piece","_law_k","_law_answer","_law_other","_law_mixed"] 1 ["_law_blades","_law_held","boxes"] true,
 Fm "Program" "__init__" "Program.__init__" 10 0 ["lines"] 9,
 Fm "Line" "__init__" "Line.__init__" 11 0 ["cond","deed"] 9,
 Fm "Like" "__init__" "Like.__init__" 16 0 ["pattern"] 9,
 Fm "FromTo" "__init__" "FromTo.__init__" 18 0 ["first","second"] 9,
 Fm "Say" "__init__" "Say.__init__" 26 0 ["words"] 9,
 Fm "Pile" "__init__" "Pile.__init__" 29 0 ["shelf","most"] 9,
 Fm "Bring" "__init__" "Bring.__init__" 30 0 ["shelf"] 9,
 Fm "TextRow" "__init__" "TextRow.__init__" 69 0 ["text","number"] 9,
 Fm "TextRow" "has" "TextRow.has" 69 1 ["one","name"] 1,
 Fm "Truths" "__init__" "Truths.__init__" 70 0 ["lines"] 9,
 ⟨some "Truths","told_of","Truths.told_of",inClass (top 70) 1,["self","row","behind","truths","place","cond"],["self","row","behind"],["truths"],false,[]⟩,
 Fm "Truths" "truth" "Truths.truth" 70 2 ["place","cond","row","behind"] 9,
 Fm "Truths" "truth_of_stretch" "Truths.truth_of_stretch" 70 3 ["place","cond","row"] 9,
 Fm "Walker" "__init__" "Walker.__init__" 81 0 ["program"] 9,
 Fm "Walker" "want" "Walker.want" 81 1 [] 9,
 Fm "Walker" "take" "Walker.take" 81 2 ["row","behind"] 9,
 Fm "Walker" "take_with" "Walker.take_with" 81 3 ["text","truths"] 9,
 Fm "Walker" "go_on" "Walker.go_on" 81 4 [] 9,
 Fm "Walker" "meet" "Walker.meet" 81 5 ["line","number","truth"] 2,
 Fm "Walker" "hand_over" "Walker.hand_over" 81 6 ["rows"] 0,
 Fm "Walker" "finish" "Walker.finish" 81 7 ["line"] 0,
 Fm "Walker" "find_none" "Walker.find_none" 81 8 [] 9,
 Fm "Walker" "give" "Walker.give" 81 9 ["row"] 9,
 Fm "Walker" "end_turn" "Walker.end_turn" 81 10 [] 9,
 Fm "Walker" "give_hand_and_end" "Walker.give_hand_and_end" 81 11 [] 9,
 Fm "Walker" "do" "Walker.do" 81 12 ["deed","number"] 9,
 Fm "Walker" "do_giving" "Walker.do_giving" 81 13 ["deed"] 9,
 Fm "Walker" "do_pile" "Walker.do_pile" 81 16 ["deed","things"] 1,
 Fm "Walker" "do_bring" "Walker.do_bring" 81 17 ["deed","thing"] 1,
 Fm "Walker" "rows_on_shelves" "Walker.rows_on_shelves" 81 18 ["many","things"] 0,
 Fm "Blade" "__init__" "Blade.__init__" 87 0 ["program"] 9,
 Fm "Blade" "feed" "Blade.feed" 87 1 ["piece","parts","part"] 1,
 Fm "Blade" "finish" "Blade.finish" 87 2 [] 9,
 Fm "Blade" "refuse_once_finished" "Blade.refuse_once_finished" 87 3 [] 9,
 Fm "Blade" "come" "Blade.come" 87 4 ["text"] 9,
 Fm "Blade" "take_all_but" "Blade.take_all_but" 87 5 ["many","row"] 1,
 Fm "Blade" "kept" "Blade.kept" 87 8 [] 9,
 Fm "Scan" "__init__" "Scan.__init__" 97 0 ["row","number"] 9,
 Fm "Scan" "passes" "Scan.passes" 97 2 ["words"] 9,
 Fm "Scan" "must_pass" "Scan.must_pass" 97 3 ["words"] 9,
 Fm "Scan" "while_made_of" "Scan.while_made_of" 97 4 ["signs","taken"] 1,
 Fm "Scan" "between" "Scan.between" 97 5 ["sign","place","inside"] 1]
noncomputable def It:HZ:=[("Program",54),("Line",55),("Like",56),("FromTo",57),("Say",58),("Pile",59),("Bring",60),("TextRow",61),("Truths",63),("Walker",67),("Blade",84),("Scan",91)]
noncomputable abbrev cN:=jm M Ft
set_option maxHeartbeats 0
abbrev TF:=(Nat->Fn)->Fn
abbrev WT(i:Nat)(t:TF):Prop:=∀n,cN (n+1) i=t (cN n)
def t0:TF:=λah=>aU (aG 2 2 (aA (bz z8 (k1 (fq (cC (k7 zA) 2 [1] (setG 1) fm (bA (aM .In) zB zC)))))))
def w0:WT 0 t0:=λ_=>rfl
def t1:TF:=λah=>aU (aG 2 3 (af (aI 2 zO)
 (af (gY many (gu (bu (bA (aM .Lt) zC (bz cD (k1 zA)))) (bu (bA (aM .In) (oI zA zC) zB)))
  (tD fD 2 zI))
 (aA (ph zA q_ (ni zC))))))
def w1:WT 1 t1:=λ_=>rfl
def t2:TF:=λah=>aU (aG 1 1 (aA (ng (bA (aM .In) zA (cS D3)) (bA (aM .NotIn) zA (cS [94,36,46,91,93,42,43,63,47])))))
def w2:WT 2 t2:=λ_=>rfl
def t3:TF:=λah=>aU (aG 1 5 (af (aR (dH (tB (dq (R0 "str") zA)))
  cW
  aC)
 (af (aR (dH (tB (aw (ah 0) [] (k2 zA (cS D3)))))
  cW
  aC)
 (af (aI 1 (pA AM zA (k1 (cS [94]))))
 (af (aI 2 (xH (tB zB) (ph zA (ni zI) q_) zA))
 (af (aI 3 (pA WU zC (k1 (cS [36]))))
 (af (aI 4 (aw (ah 4) [] (k1 (xH (tB zD) (ph zC q_ (ni (dq j3 zI))) zC))))
 (af (aR (bu (bA (aM .Gt) (bz cD (k1 (vF 4))) (cI 8)))
  cW
  aC)
 (aA (bz gq (k3 zB (vF 4) zD)))))))))))
def w3:WT 3 t3:=λ_=>rfl
def t4:TF:=λah=>aU (aG 1 5 (af (gX 1 (iR ba))
 (af (aI 2 zO)
 (af (gY many (bu (bA (aM .Lt) zC (bz cD (k1 zA))))
  (af (aI 3 (aw (ah 5) [] (k2 zA zC)))
 (af (aI 4 (aw (ah 6) [] (k2 zA zD)))
 (af (iO 1 (aw (ah 7) [] (k2 (ph zA (ni zC) (ni zD)) (vF 4))))
 (aI 2 (xH (bu (oE (vF 4) (cS [49]))) zD (oA zD zI)))))))
 (aA zB)))))
def w4:WT 4 t4:=λ_=>rfl
def t5:TF:=λah=>aU (aG 2 3 (af (aR (bu (bA (aM .NotEq) (oI zA zB) (cS [91])))
  (aA (oA zB zI))
  aC)
 (af (aI 2 (pA tR zA (k2 (cS [93]) zB)))
 (af (aR (bu (oE zC (dq j3 zI)))
  cW
  aC)
 (aA (oA zC zI))))))
def w5:WT 5 t5:=λ_=>rfl
def t6:TF:=λah=>aU (aG 2 2 (af (aR (gu (bu (bA (aM .Lt) zB (bz cD (k1 zA)))) (bu (bA (aM .In) (oI zA zB) (cS [42,43,63]))))
  (aA (oI zA zB))
  aC)
 (aA (cS [49]))))
def w6:WT 6 t6:=λ_=>rfl
def t7:TF:=λah=>aU (aG 2 2 (af (aR (bu (oE zA (cS [46])))
  (aA (bz gq (k3 (cS []) (cF (.bl true)) zB)))
  aC)
 (af (aR (tB (pA AM zA (k1 (cS [91]))))
  (aA aQ)
  aC)
 (af (aR (dH (tB (aw (ah 2) [] (k1 zA))))
  cW
  aC)
 (aA (bz gq (k3 zA (cF (.bl false)) zB)))))))
def w7:WT 7 t7:=λ_=>rfl
def t8:TF:=λah=>aU (aG 2 2 (aA (ng (nh zB) (ng (oE (bz cD (k1 zA)) zI) (aw (ah 2) [] (k1 zA))))))
def w8:WT 8 t8:=λ_=>rfl
def t9:TF:=λah=>aU (aG 1 5 (af (gX 1 (iR (k1 (xH (tB (oI zA zO)) (cS [94]) (cS [])))))
 (af (f6 (Ab (oI zA zI)) (gG [2,3,4])
  (af (iO 1 (aw (ah 10) [] (k2 zC zD)))
 (iO 1 (xH (bu (oE (vF 4) (cS [49]))) (cS []) (vF 4)))))
 (af (iO 1 (xH (tB (oI zA (cI 2))) (cS [36]) (cS [])))
 (aA (pA joinM (cS []) (k1 zB)))))))
def w9:WT 9 t9:=λ_=>rfl
def Ĳ:TF:=λah=>aU (aG 2 2 (af (aR (bu (oE zA (cS [])))
  (aA (cS [46]))
  aC)
 (af (aR (tB zB)
  (aA aQ)
  aC)
 (af (aR (tB (aw (ah 8) [] (k2 zA zB)))
  (aA zA)
  aC)
 (aA aQ)))))
def Wf:WT 10 Ĳ:=λ_=>rfl
def ĳ:TF:=λah=>aU (aG 1 1 (aA (bA (aM .In) (oI zA (cI 2)) (bz gq (k2 (cS [42]) (cS [63]))))))
def Ĵ:WT 11 ĳ:=λ_=>rfl
def ĵ:TF:=λah=>aU (aG 1 1 (aA (bA (aM .In) (oI zA (cI 2)) (bz gq (k2 (cS [42]) (cS [43]))))))
def Ķ:WT 12 ĵ:=λ_=>rfl
abbrev TL:FS:=aR (bu (bA (aM .NotEq) (oI zD (vF 4)) (cI (-1))))
  (aA (bz gq (k2 (vF 4) (oI zD (vF 4)))))
  aC
def ķ:TF:=λah=>aU (aG 3 5 (af (aI 3 (aw (ah 15) [] (k2 zA zB)))
 (af (f6 (vR nj (k2 zC (bz cD (k1 zD)))) (setG 4)
  TL)
 (aA (cF .non)))))
def Ĺ:WT 13 ķ:=λ_=>rfl
def ĺ:TF:=λah=>aU (aG 2 2 (aA (bA (aM .IsNot) (aw (ah 13) [(.int (0))] (k2 zA zB)) (cF .non))))
def Ļ:WT 14 ĺ:=λ_=>rfl
def ļ:TF:=λah=>aU (aG 2 4 (af (aI 2 (aw (ah 16) [] (k2 zB (oI zA (cI 2)))))
 (af (f6 (o1 Nv (oI zA zI)) (setG 3)
  (aI 2 (aw (ah 17) [] (k3 zD zB zC))))
 (aA (xH (tB (oI zA zO)) (ph zC q_ (ni zI)) zC)))))
def Ľ:WT 15 ļ:=λ_=>rfl
def ľ:TF:=λah=>aU (aG 2 2 (af (aR (tB zB)
  (aA (oA (bA (dP .Mult) (bz dj (k1 (cI (-1)))) (bz cD (k1 zA))) (bz dj (k1 (bz cD (k1 zA))))))
  aC)
 (aA (fq (o1 Di (oA (bz cD (k1 zA)) zI))))))
def Ŀ:WT 16 ľ:=λ_=>rfl
abbrev TM:FS:=aR (bu (bA (aM .NotEq) (bA (aM .In) (oI zB (vF 7)) zD) (vF 4)))
  (af (aI 8 (oI zC (oA (vF 7) zI)))
 (af (aR (gu (tB (vF 5)) (bu (bA (aM .Gt) (lU 6 (oA (vF 7) zI)) (vF 8))))
  (aI 8 (lU 6 (oA (vF 7) zI)))
  aC)
 (aR (bu (bA (aM .Gt) (vF 8) (lU 6 (vF 7))))
  (cU 6 (vF 7) (vF 8))
  aC)))
  aC
def ŀ:TF:=λah=>aU (aG 3 9 (af (aI 3 (oI zA zO))
 (af (aI 4 (oI zA zI))
 (af (aI 5 (aw (ah 12) [] (k1 zA)))
 (af (gX 6 (Vc (tB (aw (ah 11) [] (k1 zA))) (o1 Xe zC) (o2 Nu (bz dj (k1 (cI (-1)))) (bz cD (k1 zC)))))
 (af (f6 (vR Ah (k3 (bA (dP .Sub) (bz cD (k1 zB)) zI) (dq j3 zI) (dq j3 zI))) (setG 7)
  TM)
 (aA (vF 6))))))))
def Ł:WT 17 ŀ:=λ_=>rfl
def ł:TF:=λah=>aG 2 2 (af (aR (tB (dq (gM M.P.sub [3]) zA))
  (aA (oE (au M.P.tab 3 zA) (au M.P.tab 3 zB)))
  aC)
 (af (aR (tB (dq (gM M.P.sub [5]) zA))
  (aA (av (ak [(22,62)] ah) zB (k1 (au M.P.tab 4 zA))))
  aC)
 (aA (cF (.bl true)))))
def Ń:WT 18 ł:=λ_=>rfl
def ń:TF:=λah=>aG 2 2 (aA (ng (dq (gM M.P.sub [3]) zA) (bA (aM .LtE) (au M.P.tab 3 zA) zB)))
def Ņ:WT 19 ń:=λ_=>rfl
def ņ:TF:=λah=>aG 1 1 (aA (ig M.bc (cC (k7 zA) 2 [] (setG 1) (bu (oE (oI zB zO) (cS zg))) (oI zB zI))))
def Ň:WT 20 ņ:=λ_=>rfl
def ň:TF:=λah=>aU (aG 1 4 (af (x_ 1)
 (af (f6 (jl 1 zA) (gG [2,3])
  (aR (tB (dq (gM M.P.sub [10]) (au M.P.tab 2 zD)))
  (cU 1 (au M.P.tab 9 (au M.P.tab 2 zD)) zC)
  aC))
 (aA zB))))
def Ŋ:WT 21 ň:=λ_=>rfl
def ŋ:TF:=λah=>aU (aG 1 1 (aA (HC (0) (fq (cC (k7 (au M.P.tab 0 zA)) 2 [] (setG 1) fm (aw (ah 23) [] (k1 (au M.P.tab 1 zB))))))))
def Ō:WT 22 ŋ:=λ_=>rfl
def ō:TF:=λah=>aU (aG 1 1 (af (aR (tB (dq (gM M.P.sub [8]) zA))
  (aA (aw (ah 23) [] (k1 (au M.P.tab 8 zA))))
  aC)
 (af (aR (tB (dq (gM M.P.sub [4]) zA))
  (aA zI)
  aC)
 (af (aR (tB (dq (gM M.P.sub [6]) zA))
  (aA (au M.P.tab 5 zA))
  aC)
 (aA zO)))))
def Ŏ:WT 23 ō:=λ_=>rfl
def ŏ:TF:=λah=>aU (aG 2 4 (af (aI 2 (iN 26 (ah 91) (k2 zA zB)))
 (af (aI 3 (aw (ah 25) [] (k1 zC)))
 (af (aR (vd (bu (bA (aM .NotEq) (au M.P.tab 35 zC) (cS []))) (dH (tB (aw (ah 35) [] (k2 (au M.P.tab 1 zD) (au M.P.tab 2 zD))))))
  (aK aQ)
  aC)
 (aA zD)))))
def Ő:WT 24 ŏ:=λ_=>rfl
def ő:TF:=λah=>aG 1 2 (af (aR (tB (av (ak [(26,92)] ah) zA (k1 (cS [109,97,114,107,32]))))
  (aA (fH 1 2 (k2 aQ aQ)))
  aC)
 (af (aR (dH (tB (bz vZ (k1 (fq (cC (k7 (cF (.tup [(.str [114,111,119,32]),(.str [108,97,115,116]),(.str [47]),(.str [115,111,111,110,32]),(.str [102,114,111,109,32]),(.str [110,111,116,32]),(.str [101,110,100])]))) 2 [0] (setG 1) fm (pA AM (au M.P.tab 35 zC) (k1 zB))))))))
  (aA (fH 1 2 (k2 aQ (aw (ah 29) [] (k1 zA)))))
  aC)
 (af (aI 1 (aw (ah 26) [] (k1 zA)))
 (af (aK (av (ak [(26,93)] ah) zA (k1 (cS [58,32]))))
 (aA (fH 1 2 (k2 zB (aw (ah 29) [] (k1 zA)))))))))
def Œ:WT 25 ő:=λ_=>rfl
def œ:TF:=λah=>aG 1 1 (af (aR (tB (av (ak [(26,92)] ah) zA (k1 (cS [101,110,100]))))
  (aA aQ)
  aC)
 (af (aR (tB (av (ak [(26,92)] ah) zA (k1 (cS [110,111,116,32]))))
  (aA aQ)
  aC)
 (aA (aw (ah 27) [] (k1 zA)))))
def Ŕ:WT 26 œ:=λ_=>rfl
def ŕ:TF:=λah=>aG 1 3 (af (aR (tB (av (ak [(26,92)] ah) zA (k1 (cS [108,97,115,116]))))
  (aA aQ)
  aC)
 (af (aR (tB (av (ak [(26,92)] ah) zA (k1 (cS [115,111,111,110,32]))))
  (af (aI 1 (aw (ah 31) [] (k3 zA zI (cI 3))))
 (af (aK (av (ak [(26,93)] ah) zA (k1 (cS [32]))))
 (aA aQ)))
  aC)
 (af (aR (tB (av (ak [(26,92)] ah) zA (k1 (cS [102,114,111,109,32]))))
  (af (aI 2 (aw (ah 28) [] (k1 zA)))
 (af (aK (av (ak [(26,93)] ah) zA (k1 (cS [32,116,111,32]))))
 (aA (fH 7 2 (k2 zC (aw (ah 28) [] (k1 zA)))))))
  aC)
 (aA (aw (ah 28) [] (k1 zA))))))
def Ŗ:WT 27 ŕ:=λ_=>rfl
def ŗ:TF:=λah=>aG 1 1 (af (aR (tB (av (ak [(26,92)] ah) zA (k1 (cS [114,111,119,32]))))
  (aA aQ)
  aC)
 (aA (fH 5 1 (k1 (aw (ah 34) [] (k1 zA))))))
def Ř:WT 28 ŗ:=λ_=>rfl
def ř:TF:=λah=>aG 1 1 (af (aR (tB (av (ak [(26,92)] ah) zA (k1 (cS [100,114,111,112]))))
  (aA aQ)
  aC)
 (af (aR (tB (av (ak [(26,92)] ah) zA (k1 (cS [112,114,105,110,116]))))
  (aA aQ)
  aC)
 (af (aR (tB (av (ak [(26,92)] ah) zA (k1 (cS [100,111,110,101]))))
  (aA aQ)
  aC)
 (af (aR (tB (av (ak [(26,92)] ah) zA (k1 (cS [116,101,108,108]))))
  (aA aQ)
  aC)
 (af (aR (tB (av (ak [(26,92)] ah) zA (k1 (cS [115,97,121,32]))))
  (aA (fH 14 1 (k1 (aw (ah 33) [] (k1 zA)))))
  aC)
 (af (aR (tB (av (ak [(26,92)] ah) zA (k1 (cS [115,119,97,112,32,101,118,101,114,121,32]))))
  (aA aQ)
  aC)
 (af (aR (tB (av (ak [(26,92)] ah) zA (k1 (cS [115,119,97,112,32]))))
  (aA aQ)
  aC)
 (af (aR (tB (av (ak [(26,92)] ah) zA (k1 (cS [106,111,105,110,32]))))
  (aA aQ)
  aC)
 (af (aR (tB (av (ak [(26,92)] ah) zA (k1 (cS [112,105,108,101,32]))))
  (aA (aw (ah 30) [] (k1 zA)))
  aC)
 (af (aR (tB (av (ak [(26,92)] ah) zA (k1 (cS [98,114,105,110,103,32]))))
  (aA (fH 18 1 (k1 (aw (ah 32) [] (k1 zA)))))
  aC)
 (af (aR (tB (av (ak [(26,92)] ah) zA (k1 (cS [103,111,32]))))
  (aA aQ)
  aC)
 (af (aK (av (ak [(26,93)] ah) zA (k1 (cS [97,100,100,32]))))
 (aA aQ)))))))))))))
def Ś:WT 29 ř:=λ_=>rfl
def ś:TF:=λah=>aG 1 2 (af (aI 1 (aw (ah 32) [] (k1 zA)))
 (af (aR (dH (tB (av (ak [(26,92)] ah) zA (k1 (cS [32])))))
  (aA (fH 17 2 (k2 zB (cF .non))))
  aC)
 (aA (fH 17 2 (k2 zB (aw (ah 31) [] (k3 zA zI (cI 9))))))))
def Ŝ:WT 30 ś:=λ_=>rfl
def ŝ:TF:=λah=>aG 3 5 (af (aI 3 (av (ak [(26,94)] ah) zA (k1 (cS [48,49,50,51,52,53,54,55,56,57]))))
 (af (aR (vd (bu (oE zD (cS []))) (vd (tB (pA AM zD (k1 (cS [48])))) (bu (bA (aM .Gt) (bz cD (k1 zD)) (cI 3)))))
  (aK aQ)
  aC)
 (af (aI 4 (bz C1 (k1 zD)))
 (af (aR (vd (bu (bA (aM .Lt) (vF 4) zB)) (bu (bA (aM .Gt) (vF 4) zC)))
  (aK aQ)
  aC)
 (aA (vF 4))))))
def Ş:WT 31 ŝ:=λ_=>rfl
def ş:TF:=λah=>aG 1 2 (af (aI 1 (av (ak [(26,94)] ah) zA (k1 (cS Ov))))
 (af (aR (vd (bu (oE zB (cS []))) (bu (bA (aM .Gt) (bz cD (k1 zB)) (cI 8))))
  (aK aQ)
  aC)
 (aA zB)))
def Š:WT 32 ş:=λ_=>rfl
def š:TF:=λah=>aG 1 2 (af (aI 1 (av (ak [(26,95)] ah) zA (k1 (cS [34]))))
 (af (aR (vd (bu (bA (aM .Gt) (bz cD (k1 zB)) (cI 40))) (dH (tB (aw (ah 0) [] (k2 zB (cS D3))))))
  (aK aQ)
  aC)
 (aA zB)))
def Ţ:WT 33 š:=λ_=>rfl
def ţ:TF:=λah=>aG 1 2 (af (aI 1 (av (ak [(26,95)] ah) zA (k1 (cS [47]))))
 (aA (aw (ah 3) [] (k1 zB))))
def Ť:WT 34 ţ:=λ_=>rfl
def ť:TF:=λah=>aU (aG 2 2 (af (aR (tB (dq (gM M.P.sub [9]) zA))
  (aA aQ)
  aC)
 (af (aR (tB (dq (gM M.P.sub [15]) zB))
  (aA aQ)
  aC)
 (aA (nh (dq (gM M.P.sub [21]) zB))))))
def Ŧ:WT 35 ť:=λ_=>rfl
def ŧ:TF:=λah=>aU (aG 1 2 (af (aI 1 (pA splitM zA (k1 (cS [10]))))
 (af (aR (bu (oE (oI zB (dq j3 zI)) (cS [])))
  (aA (bz gq (k2 (ph zB q_ (ni (dq j3 zI))) (cF (.bl true)))))
  aC)
 (aA (bz gq (k2 zB (cF (.bl false))))))))
def Ũ:WT 36 ŧ:=λ_=>rfl
def ũ:TF:=λah=>aU (aG 1 3 (af (aI 1 (aw (ah 38) [] (k1 (oI (aw (ah 36) [] (k1 zA)) zO))))
 (af (aI 2 (aw (ah 39) [] (k1 zB)))
 (af (aK (aw (ah 40) [] (k2 zB zC)))
 (aA (dq (GK 0) zB))))))
def Ū:WT 37 ũ:=λ_=>rfl
def ū:TF:=λah=>aU (aG 1 4 (af (gX 1 (iR ba))
 (af (f6 (jl 1 zA) (gG [2,3])
  (af (aR (bu (bA (aM .Gt) zC (cI 24)))
  cW
  aC)
 (iO 1 (aw (ah 24) [] (k2 zD zC)))))
 (aA zB))))
def Ŭ:WT 38 ū:=λ_=>rfl
def ŭ:TF:=λah=>aU (aG 1 4 (af (x_ 1)
 (af (f6 (jl 1 zA) (gG [2,3])
  (aR (tB (dq (gM M.P.sub [10]) (au M.P.tab 2 zD)))
  (af (aR (bu (bA (aM .In) (au M.P.tab 9 (au M.P.tab 2 zD)) zB))
  cW
  aC)
 (cU 1 (au M.P.tab 9 (au M.P.tab 2 zD)) (cF (.bl true))))
  aC))
 (aA zB))))
def Ů:WT 39 ŭ:=λ_=>rfl
def ů:TF:=λah=>aU (aG 2 4 (f6 (jl 1 zA) (gG [2,3])
  (aR (gu (tB (dq (gM M.P.sub [19]) (au M.P.tab 2 zD))) (bu (bA (aM .NotIn) (au M.P.tab 9 (au M.P.tab 2 zD)) zB)))
  cW
  aC)))
def Ű:WT 40 ů:=λ_=>rfl
def ű:TF:=λah=>aU (aG 2 2 (af (aR (bu (bA (aM .Lt) zB (bz cD (k1 zA))))
  (aA (oI zA zB))
  aC)
 (aA zO)))
def Ų:WT 41 ű:=λ_=>rfl
def ų:TF:=λah=>aU (aG 1 1 (aA (ng (dq (R0 "int") zA) (nh (dq (R0 "bool") zA)))))
def Ŵ:WT 42 ų:=λ_=>rfl
def ŵ:TF:=λah=>aU (aG 1 2 (af (aI 1 (cS TH))
 (aA (bz dj (k3 (oI zB (oM zA (cI 85))) (oI zB (oM (oD zA (cI 85)) (cI 85))) (oI zB (oM (oD zA (cI 7225)) (cI 85))))))))
def Ŷ:WT 43 ŵ:=λ_=>rfl
def ZE:TF:=λah=>aU (aG 2 4 (af (aI 2 (cS TJ))
 (af (aI 3 (oM zA (cI 200)))
 (af (aR (bu (bA (aM .Lt) zD (cI 45)))
  (aA (oI zB (oM zD (cI 3))))
  aC)
 (af (aR (bu (bA (aM .Lt) zD (oA (cI 45) (bz cD (k1 zC)))))
  (aA (oI zC (bA (dP .Sub) zD (cI 45))))
  aC)
 (aA (cS [10])))))))
def ŷ:WT 44 ZE:=λ_=>rfl
def Ÿ:TF:=λah=>aU (aG 2 4 (af (aI 2 (oA (oA (oA (oA (cS [102,114,111,109,32,47]) (oI zB zO)) (cS [47,32,116,111,32,47])) (oI zB zI)) (cS [47,58,32,112,105,108,101,32,104,101,97,112])))
 (af (aR (bu (bA (aM .Gt) (oM (oD zA (cI 2)) (cI 3)) zO))
  (aI 2 (oA (oA zC (cS [32])) (bz strN (k1 (oA zI (oM (oD zA (cI 6)) (cI 4)))))))
  aC)
 (af (aI 3 (bz dj (k2 zC (oA (oA (oA (oA (cS [102,114,111,109,32,47]) (oI zB zO)) (cS [47,32,116,111,32,47])) (oI zB zI)) (cS [47,58,32,115,97,121,32,34,117,112,34])))))
 (af (aI 3 (oA zD (bA (dP .Mult) (bz dj (k1 (oA (oA (cS [47]) (oI zB (cI 2))) (cS [47,58,32,98,114,105,110,103,32,104,101,97,112])))) (cI 2))))
 (af (aR (bu (oE (oM zA (cI 2)) zI))
  (aI 3 (dq Hq zD))
  aC)
 (aA (pA joinM (cS []) (k1 (fq (cC (k7 zD) 2 [] (setG 1) fm (oA zB (cS [10])))))))))))))
def Ź:WT 45 Ÿ:=λ_=>rfl
def ź:TF:=λah=>aU (aG 2 6 (af (aI 2 (cF .non))
 (af (aR (bu (bA (aM .Gt) (oM (oD zA (cI 2)) (cI 3)) zO))
  (aI 2 (oA zI (oM (oD zA (cI 6)) (cI 4))))
  aC)
 (af (aI 3 (fH 7 2 (k2 (fH 5 1 (k1 (aw (ah 3) [] (k1 (oI zB zO))))) (fH 5 1 (k1 (aw (ah 3) [] (k1 (oI zB zI))))))))
 (af (aI 4 (fH 1 2 (k2 (fH 5 1 (k1 (aw (ah 3) [] (k1 (oI zB (cI 2)))))) (fH 18 1 (k1 (cS zh))))))
 (af (aI 5 (bz dj (bH (fH 1 2 (k2 zD (fH 17 2 (k2 (cS zh) zC)))) (k3 (fH 1 2 (k2 zD (fH 14 1 (k1 (cS zu))))) (vF 4) (vF 4)))))
 (af (aR (bu (oE (oM zA (cI 2)) zI))
  (aI 5 (dq Hq (vF 5)))
  aC)
 (aA (dq (GK 0) (vF 5))))))))))
def Ż:WT 46 ź:=λ_=>rfl
def ż:TF:=λah=>aG 0 0 (aA (Hs M.bc [zu,zh,zl,zr] [(cF (.bl false)),(bz dj ba),(cS []),(cI 60)]))
def Ž:WT 47 ż:=λ_=>rfl
abbrev Ow:FS:=af (aR (gu (bu (oE (vF 6) (cI 2))) (tB (vF 4)))
  (iO 5 (cS zu))
  aC)
 (af (aR (gu (bu (oE (vF 6) zO)) (tB (vF 4)))
  (af (dI M.bc zA (cS zh) (oA (dz M.bc zA (cS zh)) (bz dj (k1 zB))))
 (aR (bu (bA (aM .Gt) (oM (oD zC (cI 2)) (cI 3)) zO))
  (dI M.bc zA (cS zh) (ph (dz M.bc zA (cS zh)) (ni (bz Ho (k2 zO (bA (dP .Sub) (bA (dP .Sub) (bz cD (k1 (dz M.bc zA (cS zh)))) zI) (oM (oD zC (cI 6)) (cI 4)))))) q_))
  aC))
  aC)
 (aR (gu (bu (oE (vF 6) zI)) (bu (bA (aM .In) (oI zD (cI 2)) zB)))
  (af (gX 5 (o2 Hi (vF 5) (dz M.bc zA (cS zh))))
 (dI M.bc zA (cS zh) (bz dj ba)))
  aC))
def ž:TF:=λah=>aG 4 7 (af (aI 4 (Pe (dz M.bc zA (cS zu)) (bA (aM .In) (oI zD zO) zB)))
 (af (aR (tB (dz M.bc zA (cS zu)))
  (dI M.bc zA (cS zu) (bA (aM .NotIn) (oI zD zI) zB))
  (dI M.bc zA (cS zu) (vF 4)))
 (af (gX 5 (iR ba))
 (af (f6 (k7 (oI (bz dj (k2 (bz dj (k3 zO (cI 2) zI)) (bz dj (k3 zI (cI 2) zO)))) (oM zC (cI 2)))) (setG 6)
  Ow)
 (aA (oA (vF 5) (bz dj (k1 zB))))))))
def w48:WT 48 ž:=λ_=>rfl
abbrev TN(ah:Nat->Fn):FS:=aR (bu (oE (vF 5) (cS [10])))
  (af (aI 4 (oA (vF 4) (aw (ah 48) [] (bH zA (k3 (dz M.bc zA (cS zl)) zC zD)))))
 (dI M.bc zA (cS zl) (cS [])))
  (dI M.bc zA (cS zl) (oA (dz M.bc zA (cS zl)) (vF 5)))
def t49:TF:=λah=>aG 4 6 (af (aI 4 (bz dj ba))
 (af (f6 (k7 zB) (setG 5)
  (TN ah))
 (aA (vF 4))))
def w49:WT 49 t49:=λ_=>rfl
def t50:TF:=λah=>aG 2 3 (af (aI 2 (av (ak [(25,90)] ah) zA ba))
 (aA (ng (aw (ah 42) [] (k1 zC)) (oE zC (bz cD (k1 (dz M.bc zB (cS zh))))))))
def w50:WT 50 t50:=λ_=>rfl
def t51:TF:=λah=>aG 5 6 (af (aR (dH (tB (aw (ah 50) [] (k2 zA zB))))
  (aA (cF .non))
  aC)
 (af (aI 5 (av (ak [(25,85)] ah) zA (k1 zC)))
 (af (aR (vd (dH (tB (Ak M.bc (vF 5)))) (bu (um M.bc true (vF 5) (aw (ah 49) [] (bH zB (k3 zC zD (vF 4)))))))
  (aA (cF .non))
  aC)
 (af (aR (dH (tB (aw (ah 50) [] (k2 zA zB))))
  (aA (cF .non))
  aC)
 (aA (vF 5))))))
def w51:WT 51 t51:=λ_=>rfl
def t52:TF:=λah=>aG 4 6 (af (aI 4 (bz dj ba))
 (af (aR (bu (bA (aM .NotEq) (dz M.bc zB (cS zl)) (cS [])))
  (aI 4 (aw (ah 48) [] (bH zB (k3 (dz M.bc zB (cS zl)) zC zD))))
  aC)
 (af (aI 5 (av (ak [(24,74),(25,86)] ah) zA ba))
 (aA (ng (Ak M.bc (vF 5)) (um M.bc false (vF 5) (vF 4)))))))
def w52:WT 52 t52:=λ_=>rfl
abbrev TQ(ah:Nat->Fn):FS:=af (aI 13 (oM (bA (dP .Mult) (oD (vF 7) (cI 24)) (cI 48271)) (cI 2147483647)))
 (aI 9 (oA (vF 9) (aw (ah 44) [] (k2 (oD (vF 13) (oA zI (bA (dP .Mult) (bA (dP .Mult) (bA (dP .Mult) (cI 61) (vF 10)) (vF 10)) (vF 10)))) zC))))
abbrev Ox(ah:Nat->Fn):FS:=af (aR (bu (oE (jk 6) (cI 6)))
  (iO 4 (iN 25 (ah 84) (k1 zD)))
  aC)
 (af (aI 8 (oM (vF 7) (jk 4)))
 (af (aI 9 (cS []))
 (af (f6 (vR nj (k1 (bz NK (k2 (oM (oD (vF 7) (cI 6)) (cI 4)) (dz M.bc (oI (vF 5) (vF 8)) (cS zr)))))) (setG 10)
  (TQ ah))
 (af (dI M.bc (oI (vF 5) (vF 8)) (cS zr) (bA (dP .Sub) (dz M.bc (oI (vF 5) (vF 8)) (cS zr)) (bz cD (k1 (vF 9)))))
 (af (aI 11 (aw (ah 51) [] (bH (lU 4 (vF 8)) (bH (oI (vF 5) (vF 8)) (k3 (vF 9) zB zC)))))
 (af (aR (bu (bA (aM .Is) (vF 11) (cF .non)))
  (aA (cF (.bl false)))
  aC)
 (af (aR (bu (oE (oM (oD (vF 7) (cI 5)) (cI 3)) zI))
  (eZ M.bc (vF 11) (cS [97,32,114,111,119,32,109,111,114,101]))
  aC)
 (iO 6 (bz gq (k2 (wm M.bc 11) (bz tW (k1 (vF 11)))))))))))))
abbrev TR(ah:Nat->Fn):FS:=af (aI 12 (oM (oA (vF 8) zI) (jk 4)))
 (af (aR (dH (tB (aw (ah 52) [] (bH (lU 4 (vF 8)) (k3 (oI (vF 5) (vF 8)) zB zC)))))
  (aA (cF (.bl false)))
  aC)
 (aR (bu (bA (aM .Gt) (vF 12) zO))
  (af (aI 11 (aw (ah 51) [] (bH (lU 4 (vF 12)) (bH (oI (vF 5) (vF 12)) (k3 (oA (oI zC zO) (cS [10])) zB zC)))))
 (aR (bu (bA (aM .Is) (vF 11) (cF .non)))
  (aA (cF (.bl false)))
  aC))
  aC))
def t53:TF:=λah=>aU (aG 1 14 (af (aI 1 (aw (ah 41) [] (k2 zA zO)))
 (af (aI 2 (aw (ah 43) [] (k1 (aw (ah 41) [] (k2 zA zI)))))
 (af (aI 3 (aw (ah 37) [] (k1 (aw (ah 45) [] (k2 zB zC)))))
 (af (aR (bu (oE (oM (oD zB (cI 24)) (cI 2)) zI))
  (aI 3 (aw (ah 46) [] (k2 zB zC)))
  aC)
 (af (gX 4 (iR (k2 (iN 25 (ah 84) (k1 zD)) (iN 25 (ah 84) (k1 zD)))))
 (af (aI 5 (fq (cC (vR nj (k1 (cI 3))) 2 [] (setG 1) fm (aw (ah 47) [] ba))))
 (af (gX 6 (iR ba))
 (af (f6 (k7 (ph zA (ni (cI 2)) q_)) (setG 7)
  (Ox ah))
 (af (f6 (vR nj (k1 (jk 4))) (setG 8)
  (TR ah))
 (aA (bz z8 (k1 (fq (cC (Ab (vF 6)) 3 [] (gG [1,2]) fm (oE zB zC))))))))))))))))
def w53:WT 53 t53:=λ_=>rfl
def t61:TF:=λah=>aG 3 3 (af (aJ M.P.tab 14 zA zB)
 (af (aJ M.P.tab 3 zA zC)
 (aJ M.P.tab 15 zA (lW M.bc))))
def w61:WT 61 t61:=λ_=>rfl
def t62:TF:=λah=>aG 2 3 (af (aI 2 (aw (ah 9) [] (k1 zB)))
 (af (aR (bu (rH M.bc true zC (au M.P.tab 15 zA)))
  (dI M.bc (au M.P.tab 15 zA) zC (aw (ah 14) [] (k2 zB (au M.P.tab 14 zA))))
  aC)
 (aA (dz M.bc (au M.P.tab 15 zA) zC))))
def w62:WT 62 t62:=λ_=>rfl
def t63:TF:=λah=>aG 2 2 (af (aJ M.P.tab 16 zA (fq (cC (k7 zB) 2 [] (setG 1) fm (au M.P.tab 1 zB))))
 (aJ M.P.tab 17 zA (lW M.bc)))
def w63:WT 63 t63:=λ_=>rfl
def t64:TF:=λah=>aG 3 6 (af (gX 3 (iR ba))
 (af (f6 (jl 0 (au M.P.tab 16 zA)) (gG [4,5])
  (iO 3 (av (ak [(23,65)] ah) zA (bH (vF 4) (k3 (vF 5) zB zC)))))
 (aA zD)))
def w64:WT 64 t64:=λ_=>rfl
def t65:TF:=λah=>aG 5 5 (af (aR (tB (dq (gM M.P.sub [8]) zC))
  (aA (nh (av (ak [(23,65)] ah) zA (bH zB (k3 (au M.P.tab 8 zC) zD (vF 4))))))
  aC)
 (af (aR (tB (dq (gM M.P.sub [7]) zC))
  (aA (av (ak [(23,66)] ah) zA (k3 zB zC zD)))
  aC)
 (af (aR (tB (dq (gM M.P.sub [4]) zC))
  (aA (oE (bz cD (k1 (vF 4))) zO))
  aC)
 (af (aR (tB (dq (gM M.P.sub [6]) zC))
  (aA (bz vZ (k1 (fq (cC (k7 (ph (vF 4) q_ (ni (au M.P.tab 5 zC)))) 2 [2] (setG 1) fm (av (ak [(22,62)] ah) zB (k1 (au M.P.tab 4 zC))))))))
  aC)
 (aA (aw (ah 18) [] (k2 zC zD)))))))
def ZF:WT 65 t65:=λ_=>rfl
def t66:TF:=λah=>aG 4 4 (af (aR (tB (rJ M.bc (au M.P.tab 17 zA) zB (cF (.bl false))))
  (af (dI M.bc (au M.P.tab 17 zA) zB (nh (aw (ah 18) [] (k2 (au M.P.tab 7 zC) zD))))
 (aA (cF (.bl true))))
  aC)
 (af (aR (dH (tB (aw (ah 18) [] (k2 (au M.P.tab 6 zC) zD))))
  (aA (cF (.bl false)))
  aC)
 (af (dI M.bc (au M.P.tab 17 zA) zB (nh (aw (ah 19) [] (k2 (au M.P.tab 7 zC) (au M.P.tab 3 zD)))))
 (aA (cF (.bl true))))))
def w66:WT 66 t66:=λ_=>rfl
def t67:TF:=λah=>aG 2 2 (af (aJ M.P.tab 0 zA (bz tW (k1 (au M.P.tab 0 zB))))
 (af (aJ M.P.tab 18 zA (aw (ah 21) [] (k1 (au M.P.tab 0 zA))))
 (af (aJ M.P.tab 19 zA (iN 23 (ah 63) (k1 (au M.P.tab 0 zA))))
 (af (aJ M.P.tab 20 zA (bz dj ba))
 (af (aJ M.P.tab 21 zA zO)
 (af (aJ M.P.tab 22 zA (lW M.bc))
 (af (aJ M.P.tab 23 zA zO)
 (af (aJ M.P.tab 24 zA (cF .non))
 (af (aJ M.P.tab 25 zA zO)
 (af (aJ M.P.tab 26 zA (lW M.bc))
 (af (aJ M.P.tab 27 zA (lW M.bc))
 (af (aJ M.P.tab 28 zA (ig M.bc (iR ba)))
 (af (aJ M.P.tab 29 zA (ig M.bc (iR ba)))
 (af (aJ M.P.tab 30 zA (cF (.bl false)))
 (aK (av (ak [(24,68)] ah) zA ba))))))))))))))))
def w67:WT 67 t67:=λ_=>rfl
def t68:TF:=λah=>aG 1 1 (af (eZ M.bc (au M.P.tab 29 zA) (bz gq (k2 (cS [119,97,110,116]) (oA (au M.P.tab 23 zA) zI))))
 (aJ M.P.tab 30 zA (cF (.bl true))))
def ZG:WT 68 t68:=λ_=>rfl
def t69:TF:=λah=>aG 3 3 (aK (av (ak [(24,70)] ah) zA (k2 (au M.P.tab 14 zB) (av (ak [(23,64)] ah) (au M.P.tab 19 zA) (k2 zB zC)))))
def w69:WT 69 t69:=λ_=>rfl
def t70:TF:=λah=>aG 3 3 (af (nR M.P.tab 23 fD zA zI)
 (af (eZ M.bc (au M.P.tab 29 zA) (bz gq (k2 (cS [116,97,107,101]) (au M.P.tab 23 zA))))
 (af (aJ M.P.tab 24 zA (xH (bu (bA (aM .Is) (au M.P.tab 24 zA) (cF .non))) zB (oA (oA (au M.P.tab 24 zA) (cS [32])) zB)))
 (af (nR M.P.tab 25 fD zA zI)
 (af (aJ M.P.tab 20 zA zC)
 (af (aJ M.P.tab 22 zA (lW M.bc))
 (af (aJ M.P.tab 30 zA (cF (.bl false)))
 (gY many (dH (tB (au M.P.tab 30 zA)))
  (aK (av (ak [(24,71)] ah) zA ba))))))))))
def w70:WT 70 t70:=λ_=>rfl
def t71:TF:=λah=>aG 1 1 (aR (bu (oE (au M.P.tab 21 zA) (bz cD (k1 (au M.P.tab 0 zA)))))
  (aK (av (ak [(24,78)] ah) zA ba))
  (af (nR M.P.tab 21 fD zA zI)
 (aK (av (ak [(24,72)] ah) zA (k2 (oI (au M.P.tab 0 zA) (bA (dP .Sub) (au M.P.tab 21 zA) zI)) (au M.P.tab 21 zA))))))
def ZH:WT 71 t71:=λ_=>rfl
def t72:TF:=λah=>aG 3 4 (af (aR (tB (dq (gM M.P.sub [9]) (au M.P.tab 1 zB)))
  (aA (cF .non))
  aC)
 (af (aR (bu (rH M.bc false zC (au M.P.tab 22 zA)))
  cW
  aC)
 (af (dI M.bc (au M.P.tab 22 zA) zC (cF (.bl true)))
 (af (aI 3 (oI (au M.P.tab 20 zA) (bA (dP .Sub) zC zI)))
 (af (eZ M.bc (au M.P.tab 29 zA) (bz gq (k3 (cS [109,101,101,116]) zC zD)))
 (aR (tB zD)
  (aK (av (ak [(24,79)] ah) zA (k2 (au M.P.tab 2 zB) zC)))
  aC))))))
def w72:WT 72 t72:=λ_=>rfl
def t73:TF:=λah=>aG 1 2 (af (aI 1 (aw (ah 20) [] (k1 (Af M.bc M.P.tab 29 zA))))
 (af (aJ M.P.tab 29 zA (ig M.bc (iR ba)))
 (aA zB)))
def w73:WT 73 t73:=λ_=>rfl
def t74:TF:=λah=>aG 1 2 (af (aK (av (ak [(24,75)] ah) zA ba))
 (af (aR (bu (bA (aM .IsNot) (au M.P.tab 24 zA) (cF .non)))
  (af (aK (av (ak [(24,78)] ah) zA ba))
 (aK (av (ak [(24,75)] ah) zA ba)))
  aC)
 (af (eZ M.bc (au M.P.tab 29 zA) (bz gq (k1 (cS [101,110,100]))))
 (f6 (k7 (au M.P.tab 0 zA)) (setG 1)
  (aR (tB (dq (gM M.P.sub [9]) (au M.P.tab 1 zB)))
  (aK (av (ak [(24,80)] ah) zA (k1 (au M.P.tab 2 zB))))
  aC)))))
def w74:WT 74 t74:=λ_=>rfl
def t75:TF:=λah=>aG 1 1 (eZ M.bc (au M.P.tab 29 zA) (bz gq (k2 (cS [110,111,110,101]) (oA (au M.P.tab 23 zA) zI))))
def w75:WT 75 t75:=λ_=>rfl
def t76:TF:=λah=>aG 2 2 (eZ M.bc (au M.P.tab 29 zA) (bz gq (k2 (cS zg) zB)))
def w76:WT 76 t76:=λ_=>rfl
def t77:TF:=λah=>aG 1 1 (af (eZ M.bc (au M.P.tab 29 zA) (bz gq (k1 (cS [111,118,101,114]))))
 (af (aJ M.P.tab 24 zA (cF .non))
 (af (aJ M.P.tab 25 zA zO)
 (af (aJ M.P.tab 21 zA zO)
 (aK (av (ak [(24,68)] ah) zA ba))))))
def w77:WT 77 t77:=λ_=>rfl
def t78:TF:=λah=>aG 1 1 (af (aK (av (ak [(24,76)] ah) zA (k1 (au M.P.tab 24 zA))))
 (aK (av (ak [(24,77)] ah) zA ba)))
def w78:WT 78 t78:=λ_=>rfl
def ZI:TF:=λah=>aG 3 3 (aR (tB (dq (gM M.P.sub [11]) zB))
  (aK (av (ak [(24,77)] ah) zA ba))
  (aR (tB (dq (gM M.P.sub [12]) zB))
  (aK (av (ak [(24,76)] ah) zA (k1 (au M.P.tab 24 zA))))
  (aR (tB (dq (gM M.P.sub [13]) zB))
  (aK (av (ak [(24,78)] ah) zA ba))
  (aR (tB (dq (gM M.P.sub [15]) zB))
  (aK aQ)
  (aR (tB (dq (gM M.P.sub [16]) zB))
  (aK aQ)
  (aR (tB (dq (gM M.P.sub [17]) zB))
  (aK (av (ak [(24,81)] ah) zA (k1 zB)))
  (aR (tB (dq (gM M.P.sub [19]) zB))
  (aJ M.P.tab 21 zA (oI (au M.P.tab 18 zA) (au M.P.tab 9 zB)))
  (aR (tB (dq (gM M.P.sub [20]) zB))
  (aK aQ)
  (aR (dH (tB (dq (gM M.P.sub [10]) zB)))
  (aK (av (ak [(24,80)] ah) zA (k1 zB)))
  aC)))))))))
def w79:WT 79 ZI:=λ_=>rfl
def t80:TF:=λah=>aG 2 2 (aR (tB (dq (gM M.P.sub [14]) zB))
  (aK (av (ak [(24,76)] ah) zA (k1 (au M.P.tab 10 zB))))
  (aR (tB (dq (gM M.P.sub [18]) zB))
  (aK (av (ak [(24,82)] ah) zA (k1 zB)))
  (aR (tB (dq (gM M.P.sub [21]) zB))
  (aK aQ)
  aC)))
def ZJ:WT 80 t80:=λ_=>rfl
def t81:TF:=λah=>aG 2 3 (af (aI 2 (oA (rJ M.bc (au M.P.tab 26 zA) (au M.P.tab 13 zB) (bz dj ba)) (bz dj (k1 (bz gq (k2 (au M.P.tab 24 zA) (au M.P.tab 25 zA)))))))
 (dI M.bc (au M.P.tab 26 zA) (au M.P.tab 13 zB) (xH (bu (bA (aM .Is) (au M.P.tab 12 zB) (cF .non))) zC (ph zC (ni (dq j3 (au M.P.tab 12 zB))) q_))))
def w81:WT 81 t81:=λ_=>rfl
def t82:TF:=λah=>aG 2 3 (af (f6 (k7 (rJ M.bc (au M.P.tab 26 zA) (au M.P.tab 13 zB) (bz dj ba))) (setG 2)
  (aK (av (ak [(24,76)] ah) zA (k1 (oI zC zO)))))
 (dI M.bc (au M.P.tab 26 zA) (au M.P.tab 13 zB) (bz dj ba)))
def w82:WT 82 t82:=λ_=>rfl
def t83:TF:=λah=>aG 1 3 (af (aI 1 zO)
 (af (Dr M.bc (setG 2) (tD fD 1 (bz Am (k1 (fq (cC (k7 zC) 2 [] (setG 1) fm (oI zB zI)))))) (au M.P.tab 26 zA))
 (aA zB)))
def w83:WT 83 t83:=λ_=>rfl
def t84:TF:=λah=>aG 2 2 (af (aJ M.P.tab 31 zA (iN 24 (ah 67) (k1 zB)))
 (af (aJ M.P.tab 32 zA (aw (ah 22) [] (k1 zB)))
 (af (aJ M.P.tab 33 zA zO)
 (af (aJ M.P.tab 34 zA (ig M.bc (iR ba)))
 (af (aJ M.P.tab 35 zA (cS []))
 (aJ M.P.tab 36 zA (cF (.bl false))))))))
def w84:WT 84 t84:=λ_=>rfl
def t85:TF:=λah=>aG 2 4 (af (aK (av (ak [(25,87)] ah) zA ba))
 (af (aI 2 (pA splitM (oA (au M.P.tab 35 zA) zB) (k1 (cS [10]))))
 (af (aJ M.P.tab 35 zA (oI zC (dq j3 zI)))
 (af (f6 (k7 (ph zC q_ (ni (dq j3 zI)))) (setG 3)
  (aK (av (ak [(25,88)] ah) zA (k1 zD))))
 (af (aK (av (ak [(25,89)] ah) zA (k1 (au M.P.tab 32 zA))))
 (aA (av (ak [(24,73)] ah) (au M.P.tab 31 zA) ba)))))))
def w85:WT 85 t85:=λ_=>rfl
def t86:TF:=λah=>aG 1 1 (af (aK (av (ak [(25,87)] ah) zA ba))
 (af (aJ M.P.tab 36 zA (cF (.bl true)))
 (af (aR (bu (bA (aM .NotEq) (au M.P.tab 35 zA) (cS [])))
  (aK (av (ak [(25,88)] ah) zA (k1 (au M.P.tab 35 zA))))
  aC)
 (af (aK (av (ak [(25,89)] ah) zA (k1 zO)))
 (af (aK (av (ak [(24,74),(25,86)] ah) (au M.P.tab 31 zA) ba))
 (aA (av (ak [(24,73)] ah) (au M.P.tab 31 zA) ba)))))))
def w86:WT 86 t86:=λ_=>rfl
def t87:TF:=λah=>aG 1 1 (aR (tB (au M.P.tab 36 zA))
  cW
  aC)
def w87:WT 87 t87:=λ_=>rfl
def t88:TF:=λah=>aG 2 2 (af (nR M.P.tab 33 fD zA zI)
 (eZ M.bc (au M.P.tab 34 zA) (iN 22 (ah 61) (k2 zB (au M.P.tab 33 zA)))))
def w88:WT 88 t88:=λ_=>rfl
abbrev TU(ah:Nat->Fn):FS:=af (aI 2 (nS M.bc (au M.P.tab 34 zA)))
 (aK (av (ak [(24,69)] ah) (au M.P.tab 31 zA) (k2 zC (Dk M.bc (au M.P.tab 34 zA) q_ (ni (au M.P.tab 32 zA))))))
def t89:TF:=λah=>aG 2 3 (gY many (bu (bA (aM .Gt) (lh M.bc (au M.P.tab 34 zA)) zB))
  (TU ah))
def w89:WT 89 t89:=λ_=>rfl
def t90:TF:=λah=>aG 1 1 (aA (oA (oA (lh M.bc (au M.P.tab 34 zA)) (au M.P.tab 25 (au M.P.tab 31 zA))) (av (ak [(24,83)] ah) (au M.P.tab 31 zA) ba)))
def w90:WT 90 t90:=λ_=>rfl
def t91:TF:=λah=>aG 3 3 (af (aJ M.P.tab 35 zA zB)
 (aJ M.P.tab 3 zA zC))
def w91:WT 91 t91:=λ_=>rfl
def t92:TF:=λah=>aG 2 2 (af (aR (dH (tB (pA AM (au M.P.tab 35 zA) (k1 zB))))
  (aA (cF (.bl false)))
  aC)
 (af (aJ M.P.tab 35 zA (ph (au M.P.tab 35 zA) (ni (bz cD (k1 zB))) q_))
 (aA (cF (.bl true)))))
def ZK:WT 92 t92:=λ_=>rfl
def t93:TF:=λah=>aG 2 2 (aR (dH (tB (av (ak [(26,92)] ah) zA (k1 zB))))
  (aK aQ)
  aC)
def w93:WT 93 t93:=λ_=>rfl
def t94:TF:=λah=>aG 2 3 (af (aI 2 (aw (ah 1) [] (k2 (au M.P.tab 35 zA) zB)))
 (af (aJ M.P.tab 35 zA (ph (au M.P.tab 35 zA) (ni (bz cD (k1 zC))) q_))
 (aA zC)))
def w94:WT 94 t94:=λ_=>rfl
def t95:TF:=λah=>aG 2 4 (af (aK (av (ak [(26,93)] ah) zA (k1 zB)))
 (af (aI 2 (pA tR (au M.P.tab 35 zA) (k1 zB)))
 (af (aR (bu (oE zC (dq j3 zI)))
  (aK aQ)
  aC)
 (af (aI 3 (ph (au M.P.tab 35 zA) q_ (ni zC)))
 (af (aJ M.P.tab 35 zA (ph (au M.P.tab 35 zA) (ni (oA zC zI)) q_))
 (aA zD))))))
def w95:WT 95 t95:=λ_=>rfl
end K46
namespace K46
open D
variable(n:Nat){m:List _root_.D.Ob}
section
variable{a:FE}{fl:FL}{s s' s1 s2:S}{t:T}{ts:FV}
def ib{α:Type}{l:List α}{j:Nat}(h:j<l.length):atT l (j:Int)=l[j]?:=by
 unfold atT;rw[if_pos (by omega),if_pos (by omega)];rfl
def rO{c m:Nat}(h:fl s=.ok (ts,s'))(hl:ts.length=m):fH c m fl s=.ok (.obj c ts,s'):=by
 unfold fH;rw[h];exact if_pos hl
def az(h:a s=.ok (t,s1))(h2:fl s1=.ok (ts,s2)):bH a fl s=.ok (t::ts,s2):=by
 unfold bH;rw[h];show Res.bind (fl s1) _=_;rw[h2];rfl
def fW{i:Nat}(h:a s=.ok (t,s')):aI i a s=.ok (.nx,jR s' i (.val t)):=by unfold aI;rw[h];rfl
end
def D4(a b:Bi):aM .Eq (.str a) (.str b)=some (.bl (decide (a=b))):=rfl
def rP(a b:Int):aM .Gt (.int a) (.int b)=some (.bl (decide (b<a))):=rfl
def pF(a b:Int):aM .Lt (.int a) (.int b)=some (.bl (decide (a<b))):=rfl
theorem c5{g:FG}{e:FE}{b:FK}{m:He}{f:T->T}:∀{ts:FV},(∀t∈ts,∃b1 b2,g t b=some b1/\e ⟨b1,m⟩=.ok (f t,⟨b2,m⟩))->dw g fm e b ts m=.ok (ts.map f,m)
 |[],_=>rfl
 |t::ts,h=>by
  obtain⟨b1,b2,h1,h2⟩:=h t (fY ..);unfold dw;rw[h1];show Res.bind (e ⟨b1,m⟩) _=_;rw[h2];show Res.bind (dw g fm e b ts m) _=_;rw[c5 λt ht=>h t (bW _ ht)];rfl
def qu{src:FL}{n:Nat}{js:Bi}{g:FG}{c:FT}{e:FE}{s s1:S}{ts us:FV}{m':He}(h:src s=.ok (ts,s1))(z:ts.length<=1000000)(q:dw g c e (jC n js (kJ js s1.r)) ts s1.m=.ok (us,m')):cC src n js g c e s=.ok (us,⟨kJ js s1.r,m'⟩):=by
 unfold cC;rw[h];show(if ts.length<=1000000 then _ else _)=_
 rw[if_pos z,q];rfl
def qv{fl:FL}{s s':S}{ts:FV}(h:fl s=.ok (ts,s')):fq fl s=.ok (.lst ts,s'):=by unfold fq;rw[h];rfl
def dW{g:FV->FX}{fl:FL}{s s':S}{ts:FV}{t:T}(h:fl s=.ok (ts,s'))(q:g ts=some t):bz g fl s=.ok (t,s'):=by unfold bz;rw[h];show Res.bind (aT (g ts)) _=_;rw[q];rfl
def aD{g:T->T->FX}{a b:FE}{s s1 s2:S}{t u v:T}(h:a s=.ok (t,s1))(h2:b s1=.ok (u,s2))(k:g t u=some v):bA g a b s=.ok (v,s2):=by
 unfold bA;rw[h];refine Eq.trans (bo _ _) ?_;dsimp only;rw[h2];refine Eq.trans (bo _ _) ?_;dsimp only;rw[k];rfl
def yC{g:FG}{b:FS}{t:T}{ts:FV}{s s1:S}{r:FK}{q:Res (Out×S)}(h:g t s.r=some r)(hb:b ⟨r,s.m⟩=.ok (.nx,s1))(k:bZ g b ts s1=q):bZ g b (t::ts) s=q:=by
 unfold bZ;rw[h];refine Eq.trans (bo _ _) ?_;rw[hb];exact k
def XT{src:FL}{g:FG}{b:FS}{s s1:S}{ts:FV}{q:Res (Out×S)}(h:src s=.ok (ts,s1))(k:bZ g b ts s1=q):f6 src g b s=q:=by unfold f6;rw[h];exact k
def As{i:Nat}{a:FE}{s s1:S}{KZ ts:FV}{t:T}(h0:s.r[i]?=some (some (.ol KZ)))(h:a s=.ok (t,s1))(h2:s1.r[i]?=some (some (.ol ts)))(z:ts.length<1000000):iO i a s=.ok (.nx,jR s1 i (.ol (ts++[t]))):=by
 unfold iO;rw[h0];refine Eq.trans (bo KZ _) ?_;rw[h];refine Eq.trans (bo _ _) ?_;dsimp only;rw[h2];refine Eq.trans (bo ts _) ?_;rw[lu z];rfl
def W.eq{α:Type}{x:Res α}{v:α}(h:W x λa=>a=v):x=.ok v:=by
 obtain⟨a,e,rfl⟩:=h;exact e
def fF{src:FL}{g:FG}{b:FS}{s:S}{QS:Out×S->Prop}(h:W (src s) λp=>W (bZ g b p.1 p.2) QS):W (f6 src g b s) QS:=W.bind h
def c6{np n:Nat}{B:FS}{ts:FV}{G:T×He->Prop}(h:ts.length=np)(k:W (B ⟨ts.map (λt=>sv t)++bX (n-ts.length) none,m⟩) λp=>p.1=.nx/\G (.non,p.2.m)):W (aG np n B ts m) G:=by
 unfold aG;rw[if_pos h];exact W.bind (k.mono λp ⟨e,k⟩=>⟨_,by rw[e],k⟩)
def jJ{g:T->FX}{a:FE}{s:S}{t:T}{b:Bool}(h:a s=.ok (t,s))(k:g t=some (.bl b)):D.tB (dq g a) s=.ok (b,s):=by
 unfold D.tB dq;rw[h];refine Eq.trans (congrArg (λz=>Res.bind z _) (bo _ _)) ?_;dsimp only;rw[k];rfl
def TV{c:FT}{s s':S}(h:c s=.ok (false,s')):dH c s=.ok (true,s'):=by unfold dH;rw[h];rfl
def pG{c:FT}{s s':S}(h:c s=.ok (true,s')):dH c s=.ok (false,s'):=by unfold dH;rw[h];rfl
def ZL{c d:FT}{s s1:S}{q:Res (Bool×S)}(h:c s=.ok (false,s1))(h2:d s1=q):vd c d s=q:=by unfold vd;rw[h];exact h2
def Au{c:Nat}{g:Fn}{fl:FL}{s s':S}{ts:FV}{m':He}(h:fl s=.ok (ts,s'))(k:g (.own s'.m.length::ts) (s'.m++[⟨c,[]⟩])=.ok (.non,m')):iN c g fl s=.ok (.own s'.m.length,⟨s'.r,m'⟩):=by
 unfold iN;rw[h];refine Eq.trans (bo _ _) ?_;dsimp only;rw[k]
section
variable{s:S}{a:FE}{t:T}{i:Nat}{A B E:FS}{c:FT}{G:T×He->Prop}{QS:Out×S->Prop}
def bS(e:a s=.ok (t,s))(h:WB B (jR s i (.val t)) G):WB (af (aI i a) B) s G:=Tz e h
def bN(e:c s=.ok (false,s))(h:WB B s G):WB (af (aR c A aC) B) s G:=XS e h
def bY(e:c s=.ok (true,s))(h:WB A s G):WB (af (aR c A B) E) s G:=ZD e h
def bI(e:c s=.ok (true,s))(e2:a s=.ok (t,s))(h:WB B (jR s i (.val t)) G):WB (af (aR c (aI i a) aC) B) s G:=b7 (f9 e (W.of (fW e2) ⟨rfl,h⟩))
def bR(e:a s=.ok (t,s))(h:G (t,s.m)):WB (aA a) s G:=yz e h
def sEq{np n:Nat}{b:FS}{ts:FV}(h:aW ts=true)(hl:ts.length=np)(ht:noOwn t=true)(k:WB b ⟨ts.map (λt=>sv t)++bX (n-ts.length) none,[]⟩ λp=>p.1=t):aU (aG np n b) ts m=.ok (t,m):=W.eq (uF h ((iW hl k).mono λp hp=>⟨by rw[hp];exact ht,by rw[hp]⟩))
def cE{g:Fn}{fl:FL}{ts:FV}(h:fl s=.ok (ts,s))(k:g ts s.m=.ok (t,s.m)):aw g [] fl s=.ok (t,s):=cZ h (by rw[dc];exact k)
def mE{g:Nat->Option Fn}{o:FE}{fl:FL}{k:Nat}{ob:Ob}{f:Fn}{ts:FV}{m':He}(h:o s=.ok (.own k,s))(hm:s.m[k]?=some ob)(hg:g ob.c=some f)(ha:fl s=.ok (ts,s))(hc:f (.own k::ts) s.m=.ok (t,m')):av g o fl s=.ok (t,⟨s.r,m'⟩):=uC h hm hg ha hc
def dE{m':He}(h:a s=.ok (t,⟨s.r,m'⟩))(k:QS (.nx,⟨s.r,m'⟩)):W (aK a s) QS:=⟨_,by unfold aK;rw[h];rfl,k⟩
def wS(e:a s=.ok (t,s))(h:W (B (jR s i (.val t))) QS):W (af (aI i a) B s) QS:=dJ (W.of (fW e) ⟨rfl,h⟩)
def wA{ts:FV}(h0:s.r[i]?=some (some (.ol ts)))(h:a s=.ok (t,s))(z:ts.length<1000000)(k:W (B (jR s i (.ol (ts++[t])))) QS):W (af (iO i a) B s) QS:=dJ (W.of (As h0 h h0 z) ⟨rfl,k⟩)
def wOw{fl:FL}{s1:S}{ts:FV}(h:fl s=.ok (ts,s1))(k:W (B (jR s1 i (.ol ts))) QS):W (af (gX i fl) B s) QS:=dJ ⟨_,by unfold gX;rw[h];rfl,rfl,k⟩
def fX{gg:FG}{ts:FV}{r:FK}(h:gg t s.r=some r)(k:W (B ⟨r,s.m⟩) λp=>p.1=.nx/\W (bZ gg B ts p.2) QS):W (bZ gg B (t::ts) s) QS:=by
 obtain⟨⟨o,s1⟩,e,rfl,p,e2,q⟩:=k;exact⟨p,yC h e e2,q⟩
def yD{b:Bool}(h:a s=.ok (.bl b,s)):D.tB a s=.ok (b,s):=by unfold D.tB;rw[h];rfl
def gz{b:Bool}(h:a s=.ok (.bl b,s)):D.bu a s=.ok (b,s):=by unfold D.bu;rw[h];rfl
def Vl{g:T->FX}{u:T}(h:a s=.ok (t,s))(k:g t=some u):dq g a s=.ok (u,s):=by
 unfold dq;rw[h];refine Eq.trans (bo _ _) ?_;dsimp only;rw[k];rfl
def yE{d:FT}{x y:Bool}(h:c s=.ok (x,s))(h2:d s=.ok (y,s)):gu c d s=.ok (x&&y,s):=by
 unfold gu;rw[h];cases x with
 |true=>exact h2
 |false=>rfl
def Ij{g:FV->FR}{fl:FL}{s s1:S}{ts us:FV}(h:fl s=.ok (ts,s1))(k:g ts=some us):vR g fl s=.ok (us,s1):=by
 unfold vR;rw[h];refine Eq.trans (bo _ _) ?_;dsimp only;rw[k];rfl
def TX{b:Bool}{s1:S}(h:a s=.ok (.bl b,s1)):nh a s=.ok (.bl (!b),s1):=by unfold nh;rw[h];rfl
def Vm{lo hi:FO}{u:T}{x y:Ee}(ha:a s=.ok (t,s))(hl:lo s=.ok (x,s))(hh:hi s=.ok (y,s))(h:AK x y t=some u):ph a lo hi s=.ok (u,s):=by
 unfold ph;rw[ha];refine Eq.trans (bo _ _) ?_;dsimp only;rw[hl];refine Eq.trans (bo _ _) ?_;dsimp only;rw[hh];refine Eq.trans (bo _ _) ?_;dsimp only;rw[h];rfl
def Oz{ts:FV}(h:a s=.ok (t,s))(k:U4 t=some ts):k7 a s=.ok (ts,s):=by
 unfold k7;rw[h];refine Eq.trans (bo _ _) ?_;dsimp only;rw[k];rfl
def Vn{src:FL}{n:Nat}{js:Bi}{g:FG}{e:FE}{ts us:FV}(h:src s=.ok (ts,s))(z:ts.length<=1000000)(hf:kJ js s.r=s.r)(q:dw g c e (jC n js s.r) ts s.m=.ok (us,s.m)):fq (cC src n js g c e) s=.ok (.lst us,s):=by
 have:=qv (qu (n:=n) (js:=js) (g:=g) (c:=c) (e:=e) (us:=us) (m':=s.m) h z (by rw[hf];exact q))
 rw[hf]at this;exact this
def pE(h:a s=.ok (t,s)){b:FE}{u v:T}{g:T->T->FX}(h2:b s=.ok (u,s))(k:g t u=some v):bA g a b s=.ok (v,s):=aD h h2 k
def TY{f:Bi->FV->FX}{o:FE}{fl:FL}{s s1 s2:S}{l:Bi}{ts:FV}{t:T}(h:o s=.ok (.str l,s1))(h2:fl s1=.ok (ts,s2))(h3:f l ts=some t):pA f o fl s=.ok (t,s2):=by
 unfold pA;rw[h];refine Eq.trans (bo _ _) ?_;refine Eq.trans (bo _ _) ?_;dsimp only;rw[h2];refine Eq.trans (bo _ _) ?_;dsimp only;rw[h3];rfl
end
section
variable{a:FE}{s s1:S}{k kb nb f j:Nat}{ob:Ob}{t:T}{m:He}{ks:List Ky}{ts:FV}
def iy(h:a s=.ok (.own k,s1))(hm:s1.m[k]?=some ob)(hj:iM M.P.tab ob.c f=some j)(hf:ob.fs[j]?=sv t):au M.P.tab f a s=.ok (t,s1):=by
 unfold au;rw[h];refine Eq.trans (bo _ _) ?_;show Res.bind (aT ((s1.m[k]?).bind _)) _=_;rw[hm];show Res.bind (aT ((iM M.P.tab ob.c f).bind _)) _=_;rw[hj];show Res.bind (aT (ob.fs[j]?)) _=_;rw[hf];rfl
def ly(h:m[kb]?=some ⟨nb,[.od ks ts]⟩):jg nb m (.own kb)=some (kb,ks,ts):=by
 have e:ue nb m (.own kb)=some (kb,.od ks ts):=by
  show(m[kb]?).bind _=_;rw[h];exact if_pos rfl
 unfold jg;rw[e];rfl
def jn(h:m[kb]?=some ⟨nb,[.ol ts]⟩):kL nb m (.own kb)=some (kb,ts):=by
 have e:ue nb m (.own kb)=some (kb,.ol ts):=by
  show(m[kb]?).bind _=_;rw[h];exact if_pos rfl
 unfold kL;rw[e];rfl
end
def OA{c d:FT}{s s1:S}(h:c s=.ok (false,s1)):gu c d s=.ok (false,s1):=by
 unfold gu;rw[h];rfl
def nZ{c:FT}{B:FS}{k:Nat}{s s1:S}{QS:Out×S->Prop}(hc:c s=.ok (true,s1))(h:W (B s1) λq=>q.1=.nx/\W (dN c B k q.2) QS):W (dN c B (k+1) s) QS:=by
 obtain⟨⟨o,s2⟩,e,rfl,h⟩:=h;obtain⟨a,e2,h⟩:=h;refine⟨a,?_,h⟩;show Res.bind (c s) _=_;rw[hc];show Res.bind (B s1) _=_;rw[e];exact e2
def D5{c:FT}{B:FS}{k:Nat}{s s1:S}{QS:Out×S->Prop}(hc:c s=.ok (false,s1))(h:QS (.nx,s1)):W (dN c B (k+1) s) QS:=by
 refine⟨_,?_,h⟩;show Res.bind (c s) _=_;rw[hc];rfl
def SC(rest:Bi)(k:Int):He:=[⟨26,[.val (.str rest),.val (.int k)]⟩]
abbrev St(r:FK)(rest:Bi)(k:Int):S:=⟨sv (.own 0)::r,SC rest k⟩
section
variable{r:FK}{rest uG l w:Bi}{k:Int}{a:FE}{ah:Nat->Fn}{fl:FL}{ts:FV}{t:T}{i:Nat}
def OB:au M.P.tab 35 zA (St r rest k)=.ok (.str rest,St r rest k):=rfl
def OC(h:a (St r rest k)=.ok (.str l,St r rest k)):aJ M.P.tab 35 zA a (St r rest k)=.ok (.nx,St r l k):=by
 unfold aJ;rw[h];rfl
def sm(ha:fl (St r rest k)=.ok (ts,St r rest k))(hc:ah i (.own 0::ts) (SC rest k)=.ok (t,SC uG k)):av (ak [(26,i)] ah) zA fl (St r rest k)=.ok (t,St r uG k):=by
 exact uC (ob:=⟨26,[.val (.str rest),.val (.int k)]⟩) (s1:=St r rest k) rfl rfl rfl ha hc
def Av(h:pre w rest=false):cN (n+1) 92 [.own 0,.str w] (SC rest k)=.ok (.bl false,SC rest k):=by
 rw[ZK];refine ee rfl (Ot (Pu (s':=St [sv (.str w)] rest k) ?_ rfl)) rfl;show dH _ (St [sv (.str w)] rest k)=_;simp only[ev,uD,OB,bo,rN,AM,h,Bool.not_false]
def n_:cN (n+1) 92 [.own 0,.str w] (SC (w++rest) k)=.ok (.bl true,SC rest k):=by
 rw[ZK];refine ee rfl (seq1 (s':=St [sv (.str w)] (w++rest) k) (vf (s':=St [sv (.str w)] (w++rest) k) ?_ rfl) (seq1 (OC (l:=rest) ?_) rfl)) rfl
 ·show dH _ (St [sv (.str w)] (w++rest) k)=_
  simp only[ev,uD,OB,bo,rN,AM,pre_app,JQ]
 ·simp only[ev,uD,OB,bo,rN,cD,Cu,AK,nY]
def yF:cN (n+2) 93 [.own 0,.str w] (SC (w++rest) k)=.ok (.non,SC rest k):=by
 rw[w93];refine wG rfl (vf (s':=St [sv (.str w)] rest k) ?_ rfl) rfl;show dH (D.tB (av _ _ _)) (St [sv (.str w)] (w++rest) k)=_;have e:av (ak [(26,92)] (cN (n+1))) zA (k1 zB) (St [sv (.str w)] (w++rest) k)=.ok (.bl true,St [sv (.str w)] rest k):=sm rfl (n_ n);simp only[ev,e,bo,rN,JQ]
end
section
variable{a b signs:Bi}{m:He}
def Ik(c:Nat)(l:Bi):aM .In (.str [c]) (.str l)=some (.bl (decide (c∈l))):=rfl
def La{P R:Bi}{c:Nat}:jf (.str (P++c::R)) (.int P.length)=some (.str [c]):=by
 show(atT (P++c::R) (P.length:Int)).map _=_;rw[ib (by simp)]
 simp
theorem D6(hb:∀c,b.head?=some c->c∉signs):∀(a P:Bi)(f:Nat),(∀c∈a,c∈signs)->a.length<f->W (dN (gu (D.bu (bA (aM .Lt) zC (bz cD (k1 zA)))) (D.bu (bA (aM .In) (oI zA zC) zB))) (tD fD 2 zI) f ⟨[sv (.str (P++(a++b))),sv (.str signs),sv (.int P.length)],m⟩) λq=>q=(.nx,⟨[sv (.str (P++(a++b))),sv (.str signs),sv (.int (P++a).length)],m⟩)
 |_,_,0,_,h=>absurd h (Nat.not_lt_zero _)
 |[],P,f+1,_,_=>by
  rw[lL,dc];cases b with
  |nil=>exact D5 (OA (gz (aD rfl rfl (by rw[pF,decide_eq_false (by simp)])))) rfl
  |cons d r=>exact D5 ((yE (x:=true) (y:=false) (gz (aD rfl rfl (by rw[pF,decide_eq_true (by simp;omega)]))) (gz (aD (aD rfl rfl La) rfl (by rw[Ik,decide_eq_false (hb d rfl)]))))) rfl
 |c::a,P,f+1,ha,h=>by
  have ih:=D6 hb a (P++[c]) f (λd hd=>ha d (bW _ hd)) (Nat.lt_of_succ_lt_succ h);rw[gQ,gQ,dg (bs:=[c])]at ih;exact nZ (yE (x:=true) (y:=true) (gz (aD rfl rfl (by rw[pF,decide_eq_true (by simp;omega)]))) (gz (aD (aD rfl rfl La) rfl (by rw[Ik,decide_eq_true (ha c (fY ..))])))) (W.of rfl ⟨rfl,ih⟩)
def OD(ha:∀c∈a,c∈signs)(hb:∀c,b.head?=some c->c∉signs)(hl:a.length<1000):cN (n+1) 1 [.str (a++b),.str signs] m=.ok (.str a,m):=by
 rw[w1];refine sEq rfl rfl rfl (bS (t:=.int 0) rfl (b7 ((D6 hb a [] many ha (by show a.length<1000000;omega)).mono λq hq=>⟨by rw[hq],?_⟩)))
 rw[hq];refine bR (t:=.str a) ?_ rfl;simp only[ev,uD,bo,rN,AK,lL,DZ]
def yG{k:Int}(ha:∀c∈a,c∈signs)(hb:∀c,b.head?=some c->c∉signs)(hl:a.length<1000):cN (n+2) 94 [.own 0,.str signs] (SC (a++b) k)=.ok (.str a,SC b k):=by
 rw[w94];refine ee (s':=St [sv (.str signs),sv (.str a)] b k) rfl (seq1 (s':=St [sv (.str signs),sv (.str a)] (a++b) k) ?_ (seq1 (OC (l:=b) ?_) rfl)) rfl
 ·show aI 2 (aw _ _ _) (St [sv (.str signs),none] (a++b) k)=_
  have e:aw (cN (n+1) 1) [] (k2 (au M.P.tab 35 zA) zB) (St [sv (.str signs),none] (a++b) k)=.ok (.str a,St [sv (.str signs),none] (a++b) k):=cZ (ts:=[.str (a++b),.str signs]) (s':=St [sv (.str signs),none] (a++b) k) rfl (OD n ha hb hl);simp only[ev,uD,e,bo]
 ·simp only[ev,uD,OB,bo,rN,cD,Cu,AK,nY]
end
def oh{c:Nat}{l b:Bi}{k:Int}(h:c∉l):cN (n+3) 95 [.own 0,.str [c]] (SC (c::(l++c::b)) k)=.ok (.str l,SC b k):=by
 rw[w95];refine ee (s':=St [sv (.str [c]),sv (.int l.length),sv (.str l)] b k) rfl ?_ rfl;refine seq1 (s':=St [sv (.str [c]),none,none] (l++c::b) k) ?_ (seq1 (s':=St [sv (.str [c]),sv (.int l.length),none] (l++c::b) k) ?_ (seq1 (s':=St [sv (.str [c]),sv (.int l.length),none] (l++c::b) k) (vf (s':=St [sv (.str [c]),sv (.int l.length),none] (l++c::b) k) ?_ rfl) (seq1 (s':=St [sv (.str [c]),sv (.int l.length),sv (.str l)] (l++c::b) k) ?_ (seq1 (OC (l:=b) ?_) rfl))))
 ·have e:av (ak [(26,93)] (cN (n+2))) zA (k1 zB) (St [sv (.str [c]),none,none] ([c]++(l++c::b)) k)=.ok (.non,St [sv (.str [c]),none,none] (l++c::b) k):=sm rfl (yF n)
  show aK _ (St [sv (.str [c]),none,none] ([c]++(l++c::b)) k)=_;simp only[ev,e,bo]
 ·simp only[ev,uD,OB,bo,rN,Ar c l b h]
 ·have e:aM .Eq (.int l.length) (.int (-1))=some (.bl (decide ((l.length:Int)=-1))):=rfl
  simp only[ev,uD,bo,rN,j3,e];rw[decide_eq_false (by omega)]
 ·simp only[ev,uD,OB,bo,rN,AK,DZ]
 ·have e:dP .Add (.int l.length) (.int 1)=some (.int ((l++[c]).length:Nat)):=by
   rw[dg];rfl
  have e2:cA (l++c::b) (some ((l++[c]).length:Int)) none=b:=by
   have:=nY (l++[c]) b
   rw[gQ]at this;exact this
  simp only[ev,uD,OB,bo,rN,e,AK,e2]
section
variable{r:FK}{rest uG l w:Bi}{k:Int}{ah:Nat->Fn}{fl:FL}{ts:FV}{t:T}{i:Nat}{A B:FS}{R:Res (Out×S)}{s s' s1 s2:S}{a:FE}
def pT:D.tB (av (ak [(26,92)] (cN (n+1))) zA (k1 (cS w))) (St r (w++rest) k)=.ok (true,St r rest k):=by
 have e:av (ak [(26,92)] (cN (n+1))) zA (k1 (cS w)) (St r (w++rest) k)=.ok (.bl true,St r rest k):=sm rfl (n_ n);simp only[ev,e,bo,rN]
def pN(h:pre w rest=false):D.tB (av (ak [(26,92)] (cN (n+1))) zA (k1 (cS w))) (St r rest k)=.ok (false,St r rest k):=by
 have e:av (ak [(26,92)] (cN (n+1))) zA (k1 (cS w)) (St r rest k)=.ok (.bl false,St r rest k):=sm rfl (Av n h);simp only[ev,e,bo,rN]
def mP:aK (av (ak [(26,93)] (cN (n+2))) zA (k1 (cS w))) (St r (w++rest) k)=.ok (.nx,St r rest k):=by
 have e:av (ak [(26,93)] (cN (n+2))) zA (k1 (cS w)) (St r (w++rest) k)=.ok (.non,St r rest k):=sm rfl (yF n);simp only[ev,e,bo]
def skip(h:pre w rest=false)(q:B (St r rest k)=R):af (aR (D.tB (av (ak [(26,92)] (cN (n+1))) zA (k1 (cS w)))) A aC) B (St r rest k)=R:=seq1 (vf (pN n h) rfl) q
def hit(q:A (St r rest k)=.ok (.rt t,s')):af (aR (D.tB (av (ak [(26,92)] (cN (n+1))) zA (k1 (cS w)))) A aC) B (St r (w++rest) k)=.ok (.rt t,s'):=Ot (Pu (pT n) q)
def cR(ha:fl (St r rest k)=.ok (ts,St r rest k))(hc:ah i (.own 0::ts) (SC rest k)=.ok (t,SC uG k)):aw (ah i) [] (bH zA fl) (St r rest k)=.ok (t,St r uG k):=by
 refine cZ (ts:=.own 0::ts) (s':=St r rest k) ?_ (by rw[dc];exact hc)
 show Res.bind (fl (St r rest k)) _=_;rw[ha];rfl
end
def D7:Bi:=[48,49,50,51,52,53,54,55,56,57]
def Aw{d b:Bi}{v lo hi k:Int}(hd:∀c∈d,c∈D7)(h0:d≠[])(hz:pre [48] d=false)(hl:d.length<=3)(Wk:C1 [.str d]=some (.int v))(h1:lo<=v)(h2:v<=hi)(hb:∀c,b.head?=some c->c∉D7) :
  cN (n+3) 31 [.own 0,.int lo,.int hi] (SC (d++b) k)=.ok (.int v,SC b k):=by
 rw[Ş];refine ee (s':=St [sv (.int lo),sv (.int hi),sv (.str d),sv (.int v)] b k) rfl ?_ rfl;have e:av (ak [(26,94)] (cN (n+2))) zA (k1 (cS D7)) (St [sv (.int lo),sv (.int hi),none,none] (d++b) k)=.ok (.str d,St [sv (.int lo),sv (.int hi),none,none] b k):=sm rfl (yG n hd hb (by omega))
 refine seq1 (fW e) (seq1 (vf (s':=St [sv (.int lo),sv (.int hi),sv (.str d),none] b k) ?_ rfl) (seq1 (s':=St [sv (.int lo),sv (.int hi),sv (.str d),sv (.int v)] b k) ?_ (seq1 (vf (s':=St [sv (.int lo),sv (.int hi),sv (.str d),sv (.int v)] b k) ?_ rfl) rfl)))
 ·show vd _ _ (St [sv (.int lo),sv (.int hi),sv (.str d),none] b k)=_
  have g1:decide (d=[])=false:=decide_eq_false h0;have g2:decide ((3:Int)<(d.length:Nat))=false:=decide_eq_false (by omega)
  simp only[vd,ev,uD,bo,rN,D4,g1,AM,hz,cD,Cu,rP,g2,vz,if_false]
 ·simp only[ev,uD,bo,rN,Wk]
 ·have g1:decide (v<lo)=false:=decide_eq_false (by omega)
  have g2:decide (hi<v)=false:=decide_eq_false (by omega)
  simp only[vd,ev,uD,bo,rN,pF,rP,g1,g2,vz,if_false]
def qw:T->T:=λ_=>.bl true
theorem all_true:∀(l:FV),boolsOf (l.map qw)=some (l.map λ_=>true)
 |[]=>rfl
 |_::l=>by
  show(boolsOf (l.map qw)).map _=_;rw[all_true l];rfl
def oj{l signs:Bi}(h:∀c∈l,c∈signs)(hl:l.length<=1000):cN (n+1) 0 [.str l,.str signs] m=.ok (.bl true,m):=by
 rw[w0];refine yx (m':=[]) rfl (ee (s':=⟨[sv (.str l),sv (.str signs)],[]⟩) rfl (gI (dW (ts:=[.lst ((l.map λc=>T.str [c]).map qw)]) (az (qv (qu (ts:=l.map λc=>T.str [c]) (s1:=⟨[sv (.str l),sv (.str signs)],[]⟩) rfl (by rw[b_];omega) (c5 λt ht=>?_))) rfl) ?_)) rfl) rfl
 ·obtain⟨c,hc,rfl⟩:=jc.mp ht
  refine⟨[none,sv (.str [c]),sv (.str signs)],[none,sv (.str [c]),sv (.str signs)],rfl,?_⟩;simp only[ev,uD,bo,rN,Ik,decide_eq_true (h c hc),qw]
 ·simp only[z8,GJ,all_true]
  simp
noncomputable def rQ:Bi:=D3
def D8{l b:Bi}{k:Int}(h:∀c∈l,c∈rQ/\c≠34)(hl:l.length<=40):cN (n+4) 33 [.own 0] (SC (34::(l++34::b)) k)=.ok (.str l,SC b k):=by
 rw[Ţ];have hq:34∉l:=λz=>(h 34 z).2 rfl;refine ee (s':=St [sv (.str l)] b k) rfl ?_ rfl;have e:av (ak [(26,95)] (cN (n+3))) zA (k1 (cS [34])) (St [none] (34::(l++34::b)) k)=.ok (.str l,St [none] b k):=sm rfl (oh n hq);refine seq1 (fW e) (seq1 (vf (s':=St [sv (.str l)] b k) ?_ rfl) rfl);show vd _ _ (St [sv (.str l)] b k)=_;have e2:aw (cN (n+3) 0) [] (k2 zB (cS rQ)) (St [sv (.str l)] b k)=.ok (.bl true,St [sv (.str l)] b k):=cZ (ts:=[.str l,.str rQ]) (s':=St [sv (.str l)] b k) rfl (oj (n+2) (λc hc=>(h c hc).1) (by omega))
 unfold rQ at e2;have g2:decide ((40:Int)<(l.length:Nat))=false:=decide_eq_false (by omega)
 unfold vd dH;rw[show D.bu (bA (aM .Gt) (bz cD (k1 zB)) (cI 40)) (St [sv (.str l)] b k)=.ok (false,St [sv (.str l)] b k) by simp only[ev,uD,bo,rN,cD,Cu,rP,g2]]
 show Res.bind (D.tB (aw _ _ _) (St [sv (.str l)] b k)) _=_;unfold D.tB;rw[e2];rfl
structure Nm(d:Bi)(v:Int):Prop where
 hd:∀c∈d,c∈D7
 h0:d≠[]
 hz:pre [48] d=false
 hl:d.length<=3
 hi:C1 [.str d]=some (.int v)
structure Pt(w:Bi)(t:T):Prop where
 no:47∉w
 eq:∀n m,cN (n+7) 3 [.str w] m=.ok (t,m)
def lY{w b:Bi}{t:T}{k:Int}(P:Pt w t):cN (n+8) 34 [.own 0] (SC (47::(w++47::b)) k)=.ok (t,SC b k):=by
 rw[Ť];have e:av (ak [(26,95)] (cN (n+7))) zA (k1 (cS [47])) (St [none] (47::(w++47::b)) k)=.ok (.str w,St [none] b k):=sm rfl (oh (n+4) P.no);exact ee (s':=St [sv (.str w)] b k) rfl (seq1 (fW e) (gI (cZ (ts:=[.str w]) (s':=St [sv (.str w)] b k) rfl (P.eq n _)))) rfl
inductive RP where
 |like (w:Bi) (t:T)
def RP.ok:RP->Prop
 |.like w t=>Pt w t
noncomputable def RP.txt:RP->Bi->Bi
 |.like w _,b=>47::(w++47::b)
noncomputable def RP.val:RP->T
 |.like _ t=>.obj 5 [t]
def D9{x:RP}{b:Bi}{k:Int}(h:x.ok):cN (n+9) 28 [.own 0] (SC (x.txt b) k)=.ok (x.val,SC b k):=by
 rw[Ř];cases x with
 |like w t=>
  exact ee (s':=St [] b k) rfl (skip (n+7) (gy (by decide)) (gI (rO (ts:=[t]) (az (cR (ts:=[]) rfl (lY n h)) rfl) rfl))) rfl
inductive PC where
 |ft (x y:RP)|rp (x:RP)
def PC.ok:PC->Prop
 |.ft x y=>x.ok/\y.ok
 |.rp x=>x.ok
noncomputable def PC.txt:PC->Bi->Bi
 |.ft x y,b=>102::114::111::109::32::x.txt (32::116::111::32::y.txt b)
 |.rp x,b=>x.txt b
noncomputable def PC.val:PC->T
 |.ft x y=>.obj 7 [x.val,y.val]
 |.rp x=>x.val
def rR{x:RP}{b w:Bi}{c:Nat}(h2:c≠47):pre (c::w) (x.txt b)=false:=by
 cases x with
 |like w t=>exact gy h2
def D_{x:PC}{b:Bi}{k:Int}(h:x.ok):cN (n+10) 27 [.own 0] (SC (x.txt b) k)=.ok (x.val,SC b k):=by
 rw[Ŗ];cases x with
 |ft x y=>
  obtain⟨h1,h2⟩:=h;refine ee (s':=St [none,sv x.val] b k) rfl (skip (n+8) (gy (by decide)) (skip (n+8) (gy (by decide)) (hit (w:=[102,114,111,109,32]) (rest:=x.txt (32::116::111::32::y.txt b)) (n+8) ?_))) rfl
  exact seq1 (s':=St [none,sv x.val] (32::116::111::32::y.txt b) k) (fW (cR (ts:=[]) rfl (D9 n h1))) (seq1 (mP (w:=[32,116,111,32]) (rest:=y.txt b) (n+7)) (gI (rO (ts:=[x.val,y.val]) (az (t:=x.val) rfl (az (cR (ts:=[]) rfl (D9 n h2)) rfl)) rfl)))
 |rp x=>
  exact ee (s':=St [none,none] b k) rfl (skip (n+8) (rR (by decide)) (skip (n+8) (rR (by decide)) (skip (n+8) (rR (by decide)) (gI (cR (ts:=[]) rfl (D9 n h)))))) rfl
def wI{x:PC}{b w:Bi}{c:Nat}(h:c≠47/\c≠102):pre (c::w) (x.txt b)=false:=by
 obtain⟨h2,h3⟩:=h;cases x with
 |ft x y=>exact gy h3
 |rp x=>exact rR h2
def Il{x:PC}{b:Bi}{k:Int}(h:x.ok):cN (n+11) 26 [.own 0] (SC (x.txt b) k)=.ok (x.val,SC b k):=by
 rw[Ŕ];exact ee (s':=St [] b k) rfl (skip (n+9) (wI (by decide)) (skip (n+9) (wI (by decide)) (gI (cR (ts:=[]) rfl (D_ n h))))) rfl
structure ZM(l:Bi):Prop where
 h:∀c∈l,c∈rQ/\c≠34
 hl:l.length<=40
abbrev aS:Bi:=zh
inductive DD where
 |say (l:Bi)|pile (c:Option (Bi×Int))|bring
def DD.ok:DD->Prop
 |.say l=>ZM l
 |.pile (some (d,v))=>Nm d v/\1<=v/\v<=9
 |_=>True
noncomputable def DD.txt:DD->Bi
 |.say l=>115::97::121::32::34::(l++[34])
 |.pile none=>112::105::108::101::32::aS
 |.pile (some (d,_))=>112::105::108::101::32::(aS++32::d)
 |.bring=>98::114::105::110::103::32::aS
noncomputable def DD.val:DD->T
 |.say l=>.obj 14 [.str l]
 |.pile none=>.obj 17 [.str aS,.non]
 |.pile (some (_,v))=>.obj 17 [.str aS,.int v]
 |.bring=>.obj 18 [.str aS]
section
variable{k:Int}
def OE{l b:Bi}(W:ZM l):cN (n+4) 33 [.own 0] (SC (34::(l++34::b)) k)=.ok (.str l,SC b k):=D8 n W.h W.hl
def p2{a c d:Nat}{w r:Bi}(h:c≠d):pre (a::c::w) (a::d::r)=false:=by rw[D0];exact gy h
def sk{c d:Nat}{w' q':Bi}(n:Nat){r:FK}{A B:FS}{R:Res (Out×S)}(q:B (St r (d::q') k)=R)(h:c≠d:=by decide):af (aR (D.tB (av (ak [(26,92)] (cN (n+8+1))) zA (k1 (cS (c::w'))))) A aC) B (St r (d::q') k)=R:=skip (n+8) (gy h) q
def rT{b:Bi}(hb:∀c,b.head?=some c->c∉Ov):cN (n+3) 32 [.own 0] (SC (aS++b) k)=.ok (.str aS,SC b k):=by
 rw[Š];exact ee (s':=St [sv (.str aS)] b k) rfl (seq1 (fW (sm rfl (yG n (a:=aS) (by decide) hb (by decide)))) rfl) rfl
def yH{x:Option (Bi×Int)}(h:DD.ok (.pile x)):cN (n+5) 30 [.own 0] (SC (match x with|none=>aS|some (d,_)=>aS++32::d) k)=.ok ((DD.pile x).val,SC [] k):=by
 rw[Ŝ];cases x with
 |none=>
  have e:=rT (k:=k) (n+1) (b:=[]) λc h=>by cases h
  exact ee (s':=St [sv (.str aS)] [] k) rfl (seq1 (fW (cR (ts:=[]) rfl e)) (Ot (Pu (s':=St [sv (.str aS)] [] k) (TV (pN (w:=[32]) (rest:=[]) (n+3) rfl)) rfl))) rfl
 |some q=>
  obtain⟨d,v⟩:=q;obtain⟨N,h1,h2⟩:=h;have e:=rT (k:=k) (n+1) (b:=32::d) λc h=>by cases h;decide
  have e2:=Aw (k:=k) (b:=[]) (n+1) (lo:=1) (hi:=9) N.hd N.h0 N.hz N.hl N.hi h1 h2 λc h=>by cases h
  rw[dc]at e2;exact ee (s':=St [sv (.str aS)] [] k) rfl (seq1 (fW (cR (ts:=[]) rfl e)) (seq1 (s':=St [sv (.str aS)] d k) (vf (s':=St [sv (.str aS)] d k) (pG (pT (w:=[32]) (rest:=d) (n+3))) rfl) (gI (rO (ts:=[.str aS,.int v]) (az (t:=.str aS) rfl (az (cR (ts:=[.int 1,.int 9]) rfl e2) rfl)) rfl)))) rfl
def Im{x:DD}(h:x.ok):cN (n+10) 29 [.own 0] (SC x.txt k)=.ok (x.val,SC [] k):=by
 rw[Ś];refine ee (s':=St [] [] k) rfl ?_ rfl;show af _ _ (St [] x.txt k)=_;cases x with
 |say l=>exact sk n (sk n (sk n (sk n (hit (w:=[115,97,121,32]) (rest:=34::(l++[34])) (n+8) (gI (rO (ts:=[.str l]) (az (cR (ts:=[]) rfl (OE (n+5) (b:=[]) h)) rfl) rfl))))))
 |bring=>
  have e:=rT (k:=k) (n+6) (b:=[]) λc h=>by cases h
  exact sk n (sk n (sk n (sk n (sk n (sk n (sk n (sk n (sk n (hit (w:=[98,114,105,110,103,32]) (rest:=aS) (n+8) (gI (rO (ts:=[.str aS]) (az (cR (ts:=[]) rfl e) rfl) rfl)))))))))))
 |pile c=>
  cases c with
  |none=>exact sk n (skip (n+8) (p2 (by decide)) (sk n (sk n (sk n (sk n (sk n (sk n (hit (w:=[112,105,108,101,32]) (rest:=aS) (n+8) (gI (cR (ts:=[]) rfl (yH (n+4) (x:=none) h)))))))))))
  |some q=>
   obtain⟨d,v⟩:=q;exact sk n (skip (n+8) (p2 (by decide)) (sk n (sk n (sk n (sk n (sk n (sk n (hit (w:=[112,105,108,101,32]) (rest:=aS++32::d) (n+8) (gI (cR (ts:=[]) rfl (yH (n+4) (x:=some (d,v)) h)))))))))))
end
def Ax:Ap:=[[114,111,119,32],[108,97,115,116],[47],[115,111,111,110,32],[102,114,111,109,32],[110,111,116,32],[101,110,100]]
def Ea(rest:Bi):Bool:=Ax.any λw=>pre w rest
def yI{w r:Bi}(h:w∈Ax):Ea (w++r)=true:=Bk.mpr ⟨w,h,pre_app w r⟩
def Eb(x:PC)(b:Bi):Ea (x.txt b)=true:=by
 cases x with
 |ft x y=>exact yI (w:=[102,114,111,109,32]) (by decide)
 |rp x=>cases x with|like w t=>exact yI (w:=[47]) (by decide)
def ZN(rest:Bi):T->T
 |.str w=>.bl (pre w rest)
 |_=>.non
theorem qy(f:Bi->Bool):∀l:Ap,boolsOf (l.map λw=>T.bl (f w))=some (l.map f)
 |[]=>rfl
 |w::l=>by
  show(boolsOf (l.map λw=>T.bl (f w))).map _=_;rw[qy f l];rfl
def any_eq{rest:Bi}{k:Int}:D.tB (bz vZ (k1 (fq (cC (k7 (cF (.tup [(.str [114,111,119,32]),(.str [108,97,115,116]),(.str [47]),(.str [115,111,111,110,32]),(.str [102,114,111,109,32]),(.str [110,111,116,32]),(.str [101,110,100])]))) 2 [0] (setG 1) fm (pA AM (au M.P.tab 35 zC) (k1 zB)))))) (St [none] rest k)=.ok (Ea rest,St [none] rest k):=by
 have e:bz vZ (k1 (fq (cC (k7 (cF (.tup [(.str [114,111,119,32]),(.str [108,97,115,116]),(.str [47]),(.str [115,111,111,110,32]),(.str [102,114,111,109,32]),(.str [110,111,116,32]),(.str [101,110,100])]))) 2 [0] (setG 1) fm (pA AM (au M.P.tab 35 zC) (k1 zB))))) (St [none] rest k)=.ok (.bl (Ea rest),St [none] rest k):=by
  refine dW (ts:=[.lst ((Ax.map T.str).map (ZN rest))]) (az (qv (qu (ts:=Ax.map T.str) (s1:=St [none] rest k) rfl (by decide) (c5 λt ht=>?_))) rfl) ?_
  ·obtain⟨w,_,rfl⟩:=jc.mp ht
   exact⟨[none,sv (.str w),sv (.own 0)],[none,sv (.str w),sv (.own 0)],rfl,rfl⟩
  ·have:(Ax.map T.str).map (ZN rest)=Ax.map λw=>T.bl (pre w rest):=by rw[gR];rfl
   rw[this];simp only[vZ,MC,qy];unfold Ea;rw[JV,Ju];rfl
 unfold D.tB;rw[e];rfl
inductive LN where
 |full (c:PC) (x:DD)
def LN.ok:LN->Prop
 |.full c x=>c.ok/\x.ok
noncomputable def LN.txt:LN->Bi
 |.full c x=>c.txt (58::32::x.txt)
def LN.cond:LN->T
 |.full c _=>c.val
def LN.kP:LN->T
 |.full _ x=>x.val
noncomputable def LN.val(x:LN):T:=.obj 1 [x.cond,x.kP]
def XU(x:PC)(b w:Bi):pre (109::w) (x.txt b)=false:=wI (by decide)
def rV{x:LN}{k:Int}(h:x.ok):cN (n+12) 25 [.own 0] (SC x.txt k)=.ok (x.val,SC [] k):=by
 rw[Œ];cases x with
 |full c x=>
  refine ee (s':=St [sv c.val] [] k) rfl (skip (n+10) (XU c _ _) (seq1 (s':=St [none] (c.txt (58::32::x.txt)) k) (vf (s':=St [none] (c.txt (58::32::x.txt)) k) ?_ rfl) (seq1 (s':=St [sv c.val] (58::32::x.txt) k) (fW (cR (ts:=[]) rfl (Il n h.1))) (seq1 (s':=St [sv c.val] (x.txt) k) (mP (w:=[58,32]) (rest:=x.txt) (n+9)) (gI (rO (ts:=[c.val,x.val]) (az (t:=c.val) rfl (az (cR (ts:=[]) rfl (Im (n+1) h.2)) rfl)) rfl)))))) rfl;exact pG ((any_eq (rest:=c.txt (58::32::x.txt))).trans (by rw[Eb]))
def Io{row:Bi}{k:Int}:cN (n+1) 91 [.own 0,.str row,.int k] [⟨26,[]⟩]=.ok (.non,SC row k):=by
 rw[w91];rfl
def oq(x:LN):Prop:=∀n m,cN (n+7) 35 [x.cond,x.kP] m=.ok (.bl true,m)
def wJ{x:LN}{k:Int}(h:x.ok)(hs:oq x)(hw:noOwn x.val=true):cN (n+13) 24 [.str (x.txt),.int k] m=.ok (x.val,m):=by
 rw[Ő];refine yx (m':=SC [] k) rfl ?_ hw;refine ee (s':=⟨[sv (.str (x.txt)),sv (.int k),sv (.own 0),sv x.val],SC [] k⟩) rfl ?_ rfl;refine seq1 (s':=⟨[sv (.str (x.txt)),sv (.int k),sv (.own 0),none],SC (x.txt) k⟩) ?_ (seq1 (s':=⟨[sv (.str (x.txt)),sv (.int k),sv (.own 0),sv x.val],SC [] k⟩) ?_ (seq1 (s':=⟨[sv (.str (x.txt)),sv (.int k),sv (.own 0),sv x.val],SC [] k⟩) (vf (s':=⟨[sv (.str (x.txt)),sv (.int k),sv (.own 0),sv x.val],SC [] k⟩) ?_ rfl) rfl))
 ·refine fW (t:=.own 0) (s':=⟨[sv (.str (x.txt)),sv (.int k),none,none],SC (x.txt) k⟩) ?_
  exact Au (ts:=[.str (x.txt),.int k]) (s':=⟨[sv (.str (x.txt)),sv (.int k),none,none],[]⟩) rfl (Io (n+11))
 ·exact fW (cZ (ts:=[.own 0]) (s':=⟨[sv (.str (x.txt)),sv (.int k),sv (.own 0),none],SC (x.txt) k⟩) rfl (rV n h))
 ·have e:aw (cN (n+12) 35) [] (k2 (au M.P.tab 1 zD) (au M.P.tab 2 zD)) ⟨[sv (.str (x.txt)),sv (.int k),sv (.own 0),sv x.val],SC [] k⟩=.ok (.bl true,⟨[sv (.str (x.txt)),sv (.int k),sv (.own 0),sv x.val],SC [] k⟩):=cZ (ts:=[x.cond,x.kP]) (s':=⟨[sv (.str (x.txt)),sv (.int k),sv (.own 0),sv x.val],SC [] k⟩) rfl (hs (n+5) _)
  refine ZL (s1:=⟨[sv (.str (x.txt)),sv (.int k),sv (.own 0),sv x.val],SC [] k⟩) rfl (pG ?_);unfold D.tB;rw[e];rfl
structure Lk(x:LN):Prop where
 ok:x.ok
 ms:oq x
 no:noOwn x.val=true
abbrev il(xs:List LN):FV:=xs.map λx=>.str (x.txt)
abbrev bC(xs:List LN):FV:=xs.map LN.val
theorem uH(n:Nat){R:Option C}:∀(xs:List LN)(j:Nat)(done:FV)(u v:Option C),(∀x∈xs,Lk x)->j+xs.length<=25->done.length<=j->∃u' v',bZ (gG [2,3]) (af (aR (D.bu (bA (aM .Gt) zC (cI 24))) cW aC) (iO 1 (aw (cN (n+13) 24) [] (k2 zD zC)))) (fR (j:Nat) (il xs)) ⟨[R,some (.ol done),u,v],[]⟩=.ok (.nx,⟨[R,some (.ol (done++bC xs)),u',v'],[]⟩)
 |[],j,done,u,v,_,_,_=>⟨u,v,by rw[show done++bC []=done from dc _];rfl⟩
 |x::xs,j,done,u,v,h,hj,hd=>by
  have hx:=h x (fY ..);rw[eT]at hj;obtain⟨u',v',e⟩:=uH n xs (j+1) (done++[x.val]) (sv (.int j)) (sv (.str (x.txt))) (λy hy=>h y (bW _ hy)) (by omega) (by rw[dg];show done.length+1<=_;omega)
  refine⟨u',v',yC (r:=[R,some (.ol done),sv (.int j),sv (.str (x.txt))]) rfl (seq1 (s':=⟨[R,some (.ol done),sv (.int j),sv (.str (x.txt))],[]⟩) (vf (s':=⟨[R,some (.ol done),sv (.int j),sv (.str (x.txt))],[]⟩) ?_ rfl) (As (KZ:=done) (ts:=done) rfl (cZ (ts:=[.str (x.txt),.int j]) (s':=⟨[R,some (.ol done),sv (.int j),sv (.str (x.txt))],[]⟩) rfl (wJ n hx.ok hx.ms hx.no)) rfl (by omega))) ?_⟩
  ·have g:decide ((24:Int)<(j:Nat))=false:=decide_eq_false (by omega)
   simp only[ev,uD,bo,rN,rP,g]
  ·have e2:done++bC (x::xs)=done++[x.val]++bC xs:=by simp
   rw[e2];exact e
theorem dB:∀(a:List LN),(∀x∈a,Lk x)->aW (bC a)=true
 |[],_=>rfl
 |x::a,h=>by
  show(noOwn x.val&&aW (bC a))=true;rw[(h x (fY ..)).no,dB a λy hy=>h y (bW _ hy)];rfl
theorem lC:∀(a:List LN),aW (il a)=true
 |[]=>rfl
 |x::a=>by
  show(true&&aW (il a))=true;rw[lC a];rfl
def uI{xs:List LN}(h:∀x∈xs,Lk x)(hl:xs.length<=24):cN (n+14) 38 [.lst (il xs)] m=.ok (.lst (bC xs),m):=by
 rw[Ŭ];obtain⟨u,v,e⟩:=uH n (R:=sv (.lst (il xs))) xs 1 [] none none h (by omega) (jb _)
 refine yx (m':=[]) ?_ (ee (s':=⟨[sv (.lst (il xs)),sv (.lst (bC xs)),u,v],[]⟩) rfl (seq1 (s':=⟨[sv (.lst (il xs)),some (.ol []),none,none],[]⟩) rfl (seq1 (XT (ts:=fR 1 (il xs)) (s1:=⟨[sv (.lst (il xs)),some (.ol []),none,none],[]⟩) rfl e) rfl)) rfl) ?_
 ·show(aW (il xs)&&true)=true
  rw[lC];rfl
 ·exact dB xs h
def Ec(x:LN):gM M.P.sub [10] x.kP=some (.bl false):=by
 obtain⟨c,d⟩:=x;cases d with
 |pile c=>cases c<;>rfl
 |_=>rfl
def XW(x:LN):gM M.P.sub [19] x.kP=some (.bl false):=by
 obtain⟨c,d⟩:=x;cases d with
 |pile c=>cases c<;>rfl
 |_=>rfl
theorem uJ:∀{l:FV}{i:Int}{t:T},t∈fR i l->∃j x,x∈l/\t=.tup [.int j,x]
 |[],_,_,h=>by cases h
 |x::l,i,t,h=>by
  rcases gh.mp (show t∈T.tup [.int i,x]::fR (i+1) l from h)with z|z
  ·exact⟨i,x,fY ..,z⟩
  ·obtain⟨j,y,h1,h2⟩:=uJ z
   exact⟨j,y,bW _ h1,h2⟩
def Ed{B:FS}{R D u v:Option C}{xs:List LN}(hB:∀(x:LN)(u:Option C),W (B ⟨[R,D,u,sv x.val],[]⟩) λp=>p.1=.nx/\p.2=⟨[R,D,u,sv x.val],[]⟩):W (bZ (gG [2,3]) B (fR 1 (bC xs)) ⟨[R,D,u,v],[]⟩) λp=>p.1=.nx/\∃u v,p.2=⟨[R,D,u,v],[]⟩:=Ou (I:=λs=>∃u v,s=⟨[R,D,u,v],[]⟩) (λt ht s hI=>by
 obtain⟨u,v,rfl⟩:=hI;obtain⟨j,x,hx,rfl⟩:=uJ ht;obtain⟨q,_,rfl⟩:=jc.mp hx;exact⟨_,rfl,(hB q _).mono λp hp=>⟨hp.1,_,_,hp.2⟩⟩) ⟨u,v,rfl⟩
def uK{xs:List LN}(hv:∀x∈xs,Lk x):cN (n+1) 39 [.lst (bC xs)] m=.ok (.iA [] [],m):=by
 rw[Ů];refine W.eq (uF ?_ (iW rfl (b7 (W.of (a:=(Out.nx,(⟨[sv (.lst (bC xs)),some (.od [] []),none,none],[]⟩:S))) rfl ⟨rfl,b7 (fF (W.of (a:=(fR 1 (bC xs),(⟨[sv (.lst (bC xs)),some (.od [] []),none,none],[]⟩:S))) rfl ((Ed λx u=>bw (jJ (t:=x.kP) rfl (Ec x)) ⟨_,rfl,rfl,rfl⟩).mono λp hp=>⟨hp.1,?_⟩)))⟩))))
 ·show(aW (bC xs)&&true)=true
  rw[dB xs hv];rfl
 ·obtain⟨_,u,v,e⟩:=hp
  rw[e];exact yz (t:=.iA [] []) (s':=⟨[sv (.lst (bC xs)),sv (.iA [] []),u,v],[]⟩) rfl ⟨rfl,rfl⟩
def refuse_eq{xs:List LN}(hv:∀x∈xs,Lk x):cN (n+1) 40 [.lst (bC xs),.iA [] []] m=.ok (.non,m):=by
 rw[Ű];refine W.eq (uF ?_ (c6 rfl (fF (W.of (a:=(fR 1 (bC xs),(⟨[sv (.lst (bC xs)),sv (.iA [] []),none,none],[]⟩:S))) rfl ((Ed λx u=>bw (s':=⟨[sv (.lst (bC xs)),sv (.iA [] []),u,sv x.val],[]⟩) ?_ ⟨_,rfl,rfl,rfl⟩).mono λp hp=>⟨hp.1,rfl,rfl⟩)))))
 ·show(aW (bC xs)&&(true&&true))=true
  rw[dB xs hv];rfl
 ·unfold gu
  rw[jJ (s:=⟨[sv (.lst (bC xs)),sv (.iA [] []),u,sv x.val],[]⟩) (t:=x.kP) rfl (XW x)];rfl
theorem ic{c:Nat}:∀{p q:Bi},c∉p->bb c (p++c::q)=p::bb c q
 |[],q,_=>by show bb c (c::q)=_;rw[bb,if_pos rfl]
 |d::p,q,h=>by
  have hd:d≠c:=λe=>h (by rw[e];exact fY ..)
  show bb c (d::(p++c::q))=_;rw[bb,if_neg hd,ic (λz=>h (bW _ z))]
theorem lD{c:Nat}:∀{ls:Ap},ls≠[]->(∀l∈ls,c∉l)->bb c (cV [c] ls++[c])=ls++[[]]
 |[],h,_=>absurd rfl h
 |[a],_,h=>by
  show bb c (a++c::[])=_;rw[ic (h a (fY ..))];rfl
 |a::b::r,_,h=>by
  show bb c (a++[c]++cV [c] (b::r)++[c])=_;rw[gQ,gQ];show bb c (a++c::(cV [c] (b::r)++[c]))=_;rw[ic (h a (fY ..)),lD (by simp) λl hl=>h l (bW _ hl)]
  rfl
def yJ{α:Type}(xs:List α)(x:α):atT (xs++[x]) (-1)=some x:=by
 unfold atT;rw[if_neg (by decide),if_pos (by rw[dg,oN];omega)]
 have:(-1+((xs++[x]).length:Int)).toNat=xs.length:=by rw[dg,oN];omega
 rw[this];simp
def uL{α:Type}(xs:List α)(x:α):cA (xs++[x]) none (some (-1))=xs:=by
 unfold cA gK;dsimp only;rw[if_pos (by decide)]
 have:(-1+((xs++[x]).length:Int)).toNat=xs.length:=by rw[dg,oN];omega
 rw[this];simp
def aaa:j3 (.int 1)=some (.int (-1)):=rfl
theorem lE:∀(l:Ap),aW (l.map T.str)=true
 |[]=>rfl
 |x::a=>by
  show(true&&aW (a.map T.str))=true;rw[lE a];rfl
def Ip{ls:Ap}(h:∀l∈ls,10∉l)(h0:ls≠[])(hz:(cV [10] ls++[10]).length<=100000):cN (n+1) 36 [.str (cV [10] ls++[10])] m=.ok (.tup [.lst (ls.map T.str),.bl true],m):=by
 rw[Ũ];have e:splitM (cV [10] ls++[10]) [.str [10]]=some (.lst ((ls++[[]]).map T.str)):=by
  show gd _ _=_;rw[lu hz,lD h0 h]
 have e2:jf (.lst ((ls++[[]]).map T.str)) (.int (-1))=some (.str []):=by
  show atT _ (-1)=_;rw[jv];exact yJ _ _
 have e3:cA ((ls++[[]]).map T.str) none (some (-1))=ls.map T.str:=by
  rw[jv];exact uL _ _
 refine sEq rfl rfl ?_ (bS (TY rfl rfl e) (bY (gz (aD (aD (t:=.lst ((ls++[[]]).map T.str)) rfl (u:=.int (-1)) rfl e2) rfl (by rw[D4,decide_eq_true rfl]))) (bR (dW (ts:=[.lst (ls.map T.str),.bl true]) (az (by show Res.ok (T.lst (cA ((ls++[[]]).map T.str) none (some (-1))),_)=_;rw[e3];rfl) rfl) rfl) rfl)))
 show(aW (ls.map T.str)&&(true&&true))=true;rw[lE];rfl
def Iq{xs:List LN}{text:Bi}{b:Bool}(hv:∀x∈xs,Lk x)(hl:xs.length<=24)(hc:∀m,cN (n+14) 36 [.str text] m=.ok (.tup [.lst (il xs),.bl b],m)):cN (n+15) 37 [.str text] m=.ok (.obj 0 [.lst (bC xs)],m):=by
 rw[Ū];refine sEq rfl rfl ?_ (bS (cE (ts:=[.lst (il xs)]) (az (pE (cE (ts:=[.str text]) rfl (hc _)) rfl rfl) rfl) (uI n hv hl)) (bS (cE (ts:=[.lst (bC xs)]) rfl (uK (n+13) hv)) (b7 (dE (cE (ts:=[.lst (bC xs),.iA [] []]) rfl (refuse_eq (n+13) hv)) ⟨rfl,bR rfl rfl⟩))));show(aW (bC xs)&&true)=true;rw[dB xs hv];rfl
def XX:Bi:=[94,36,46,91,93,42,43,63,47]
def gO(c:Nat):Bool:=decide (c∈rQ)&&!decide (c∈XX)
def uM{a b:FE}{s s1:S}{x y:Bool}(h:a s=.ok (.bl x,s1))(h2:x=true->b s1=.ok (.bl y,s1)):ng a b s=.ok (.bl (x&&y),s1):=by
 unfold ng;rw[h];refine Eq.trans (bo _ _) ?_;cases x with
 |true=>exact h2 rfl
 |false=>rfl
def Ef{c:Nat}:cN (n+1) 2 [.str [c]] m=.ok (.bl (gO c),m):=by
 rw[w2];exact sEq rfl rfl rfl (bR (uM (aD rfl rfl (Ik c rQ)) λ_=>aD rfl rfl rfl) rfl)
def uN(a b:Int):aM .Eq (.int a) (.int b)=some (.bl (decide (a=b))):=rfl
def XY(a b:Bi):aM .NotEq (.str a) (.str b)=some (.bl (!decide (a=b))):=rfl
abbrev yK(c:Nat):T:=.tup [.str [c],.bl false,.str [49]]
def pa(c:Nat):T:=.tup [.bl false,.lst [yK c],.bl false]
section
variable{c:Nat}{m:He}
def Eg(h:gO c=true):c∈rQ/\c∉XX:=by
 unfold gO at h;rw[dh]at h;refine⟨of_decide_eq_true h.1,λz=>?_⟩;rw[decide_eq_true z]at h;cases h.2
def kQ(h:gO c=true){d:Nat}(hd:d∈XX):c≠d:=λz=>(Eg h).2 (z▸hd)
def ZO{d:Nat}(h:c≠d):decide ([c]=[d])=false:=decide_eq_false λz=>h (by injection z)
def wK(hk:gO c=true):cN (n+4) 7 [.str [c],.str [49]] m=.ok (yK c,m):=by
 rw[w7];exact sEq rfl rfl rfl (bN (gz (aD (t:=.str [c]) (u:=.str [46]) rfl rfl (by rw[D4,ZO (kQ hk (by decide))]))) (bN (yD (by show Res.ok (T.bl (pre [91] [c]),_)=_;rw[gy (Ne.symm (kQ hk (by decide)))])) (bN (pG (yD (by have e:=Ef (n+2) (c:=c) (m:=[]);rw[hk]at e;exact cE (ts:=[.str [c]]) rfl e))) (bR rfl rfl))))
def Ir(hk:gO c=true):cN (n+1) 5 [.str [c],.int 0] m=.ok (.int 1,m):=by
 rw[w5];exact sEq rfl rfl rfl (bY (gz (aD (t:=.str [c]) (u:=.str [91]) rfl rfl (by rw[XY,ZO (kQ hk (by decide))];rfl))) (bR rfl rfl))
def many1:cN (n+1) 6 [.str [c],.int 1] m=.ok (.str [49],m):=by
 rw[w6];exact sEq rfl rfl rfl (bN (OA (gz (aD (t:=.int 1) (u:=.int 1) rfl rfl rfl))) (bR rfl rfl))
def OF(h:gO c=true):cN (n+5) 4 [.str [c]] m=.ok (.lst [yK c],m):=by
 rw[w4];obtain⟨e,he⟩:∃e,many=e+2:=⟨many-2,by unfold many;omega⟩
 refine sEq rfl rfl rfl (b7 (W.of (a:=(Out.nx,(⟨[sv (.str [c]),some (.ol []),none,none,none],[]⟩:S))) rfl ⟨rfl,bS (t:=.int 0) rfl (b7 ?_)⟩));unfold gY;rw[he];exact nZ (s1:=⟨[sv (.str [c]),some (.ol []),sv (.int 0),none,none],[]⟩) rfl (wS (cE (ts:=[.str [c],.int 0]) rfl (Ir (n+3) h)) (wS (cE (ts:=[.str [c],.int 1]) rfl (many1 (n+3))) (wA (ts:=[]) (t:=yK c) rfl (cE (ts:=[.str [c],.str [49]]) rfl (wK n h)) (by decide) (W.of (fW (t:=.int 1) rfl) ⟨rfl,D5 (s1:=⟨[sv (.str [c]),some (.ol [yK c]),sv (.int 1),sv (.int 1),sv (.str [49])],[]⟩) rfl ⟨rfl,yz rfl rfl⟩⟩))))
def uO(h:gO c=true):cN (n+7) 3 [.str [c]] m=.ok (pa c,m):=by
 rw[w3];have e1:pre [94] [c]=false:=gy (Ne.symm (kQ h (by decide)))
 have e2:U3 [36] [c]=false:=by
  show(true&&([c] == [36]))=false;rw[vv];exact beq_false_of_ne λz=>kQ h (d:=36) (by decide) (by injection z)
 exact sEq rfl rfl rfl (bN rfl (bN (pG (yD (cE (ts:=[.str [c],.str rQ]) rfl (oj (n+5) (λd hd=>by rw[iu.mp hd];exact(Eg h).1) (by show 1<=1000;decide))))) (bS (t:=.bl false) (TY (l:=[c]) rfl rfl (congrArg (λz=>some (T.bl z)) e1)) (bS (t:=.str [c]) rfl (bS (t:=.bl false) (TY (l:=[c]) rfl rfl (congrArg (λz=>some (T.bl z)) e2)) (bS (cE (ts:=[.str [c]]) rfl (OF (n+1) h)) (bN rfl (bR rfl rfl))))))))
def TZ(h:gO c=true):Pt [c] (pa c):=⟨λz=>kQ h (d:=47) (by decide) (iu.mp z).symm,λn _=>uO n h⟩
def Eh(hk:gO c=true):cN (n+3) 10 [.str [c],.bl false] m=.ok (.str [c],m):=by
 rw[Wf];have e:=Ef n (c:=c) (m:=[]);rw[hk]at e;exact sEq rfl rfl rfl (bN (gz (aD (t:=.str [c]) (u:=.str []) rfl rfl (by rw[D4,decide_eq_false (List.cons_ne_nil c [])]))) (bN rfl (bY (yD (cE (t:=.bl true) (ts:=[.str [c],.bl false]) rfl (by
  rw[w8];exact sEq rfl rfl rfl (bR (uM (x:=true) (y:=true) rfl λ_=>uM (x:=true) (y:=true) rfl λ_=>cE (ts:=[.str [c]]) rfl e) rfl)))) (bR rfl rfl))))
def Ei(h:gO c=true):cN (n+4) 9 [pa c] m=.ok (.str [c],m):=by
 rw[w9];refine sEq rfl rfl rfl (b7 (W.of (a:=(Out.nx,(⟨[sv (pa c),some (.ol [.str []]),none,none,none],[]⟩:S))) rfl ⟨rfl,b7 (fF (W.of (a:=([yK c],(⟨[sv (pa c),some (.ol [.str []]),none,none,none],[]⟩:S))) rfl (fX (r:=[sv (pa c),some (.ol [.str []]),sv (.str [c]),sv (.bl false),sv (.str [49])]) rfl (wA (ts:=[.str []]) rfl (cE (ts:=[.str [c],.bl false]) rfl (Eh n h)) (by decide) (W.of (a:=(Out.nx,(⟨[sv (pa c),some (.ol [.str [],.str [c],.str []]),sv (.str [c]),sv (.bl false),sv (.str [49])],[]⟩:S))) rfl ⟨rfl,_,rfl,rfl,?_⟩)))))⟩))
 exact b7 (W.of (a:=(Out.nx,(⟨[sv (pa c),some (.ol [.str [],.str [c],.str [],.str []]),sv (.str [c]),sv (.bl false),sv (.str [49])],[]⟩:S))) rfl ⟨rfl,yz (t:=.str [c]) (s':=⟨[sv (pa c),sv (.lst [.str [],.str [c],.str [],.str []]),sv (.str [c]),sv (.bl false),sv (.str [49])],[]⟩) rfl rfl⟩)
end
abbrev s2(a b:T):S:=⟨[sv a,sv b],[]⟩
def Ej{cv dv:T}(h1:gM M.P.sub [9] cv=some (.bl false))(h2:gM M.P.sub [15] dv=some (.bl false))(h3:gM M.P.sub [21] dv=some (.bl false))(hc:noOwn cv=true)(hd:noOwn dv=true):cN (n+7) 35 [cv,dv] m=.ok (.bl true,m):=by
 rw[Ŧ];refine yx (m':=[]) ?_ (ee (s':=s2 cv dv) rfl (seq1 (s':=s2 cv dv) (vf (s':=s2 cv dv) (jJ (t:=cv) rfl h1) rfl) (seq1 (s':=s2 cv dv) (vf (s':=s2 cv dv) (jJ (t:=dv) rfl h2) rfl) (gI ?_))) rfl) rfl
 ·show(noOwn cv&&(noOwn dv&&true))=true
  rw[hc,hd];rfl
 ·have e:dq (gM M.P.sub [21]) zB (s2 cv dv)=.ok (.bl false,s2 cv dv):=by
   simp only[ev,uD,bo,rN,h3]
  unfold nh;exact Eq.trans (congrArg (λz=>Res.bind z _) e) rfl
def Ek(x:PC):gM M.P.sub [9] x.val=some (.bl false):=by
 cases x with
 |rp x=>cases x<;>rfl
 |_=>rfl
def rW{x:LN}(hc:noOwn x.cond=true)(hd:noOwn x.kP=true):oq x:=λn m=>by
 obtain⟨c,x⟩:=x;have hE:=Ek c;cases x with
 |pile q=>cases q<;>exact Ej n hE rfl rfl hc hd
 |_=>exact Ej n hE rfl rfl hc hd
def El{x:LN}(h:x.ok)(hc:noOwn x.cond=true)(hd:noOwn x.kP=true):Lk x:=⟨h,rW hc hd,by
 show(noOwn x.cond&&(noOwn x.kP&&true))=true;rw[hc,hd];rfl⟩
def gf(l:Fh):aW (l.map T.int)=true:=by
 induction l with
 |nil=>rfl
 |cons a l ih=>exact ih
def ZP{g:T->FR}{a:FE}{s s1:S}{t:T}{v:FV}(h:a s=.ok (t,s1))(k:g t=some v):o1 g a s=.ok (v,s1):=by
 unfold o1;rw[h];refine Eq.trans (bo _ _) ?_;show Res.bind (aT (g t)) _=_;rw[k];rfl
def ZQ{g:T->T->FR}{a b:FE}{s s1 s2:S}{t u:T}{v:FV}(h:a s=.ok (t,s1))(h2:b s1=.ok (u,s2))(k:g t u=some v):o2 g a b s=.ok (v,s2):=by
 unfold o2;rw[h];refine Eq.trans (bo _ _) ?_;show Res.bind (b s1) _=_;rw[h2];refine Eq.trans (bo _ _) ?_;show Res.bind (aT (g t u)) _=_;rw[k];rfl
def eL(c:Nat):Nat->Bi->Fh
 |_,[]=>[-1]
 |q,x::r=>(if x=c then(q:Int)+1 else -1)::eL c (q+1) r
theorem Em(c:Nat):∀(r:Bi)(q:Nat),(eL c q r).length=r.length+1
 |[],_=>rfl
 |_::r,q=>congrArg (· + 1) (Em c r (q+1))
def dn(j:Nat):FV:=(cP j).map λk=>T.int ((j:Int)-1-(k:Nat))
def Iu(j:Nat):dn (j+1)=.int j::dn j:=by
 unfold dn;rw[wZ,dZ,gR];refine congr (congrArg List.cons (congrArg T.int ?_)) (vq λk _=>congrArg T.int ?_)
 ·show((j+1:Nat):Int)-1-(0:Int)=_
  omega
 ·show((j+1:Nat):Int)-1-((k+1:Nat):Int)=_
  omega
def ZR{A R:Fh}{v:Int}:GH (.lst ((A++v::R).map T.int)) (.int A.length)=some (.int v):=by
 show atT ((A++v::R).map T.int) (A.length:Int)=_;rw[ib (by simp),fZ,e_ (bV _),lH];rfl
def OG{A R:Fh}{v:Int}:jf (.lst ((A++v::R).map T.int)) (.int A.length)=some (.int v):=ZR
section
variable{c:Nat}{row:Bi}{m:He}
abbrev Pw(row:Bi):T:=.lst (i0 0 (row.length+1))
abbrev EW(c:Nat)(row:Bi)(es:Fh)(v7 v8:Option C):S:=⟨[sv (yK c),sv (.str row),sv (Pw row),sv (.str [c]),sv (.bl false),sv (.bl false),some (.ol (es.map T.int)),v7,v8],[]⟩
theorem rX:∀(j:Nat){v7 v8:Option C},j<=row.length->W (bZ (setG 7) TM (dn j) (EW c row (bX j (-1)++eL c j (row.drop j)) v7 v8)) λp=>p.1=.nx/\∃v7 v8,p.2=EW c row (eL c 0 row) v7 v8
 |0,v7,v8,_=>⟨_,rfl,rfl,v7,v8,rfl⟩
 |p+1,v7,v8,h=>by
  have hpl:p<row.length:=h;obtain⟨x,hx⟩:∃x,row[p]?=some x:=⟨_,fj hpl⟩;obtain⟨R,hR⟩:∃R,R=eL c (p+1) (row.drop (p+1)):=⟨_,rfl⟩;obtain⟨A,hA⟩:∃A:Fh,A=bX p (-1):=⟨_,rfl⟩;have hl:A.length=p:=by rw[hA,vm]
  have e1:bX (p+1) (-1:Int)++eL c (p+1) (row.drop (p+1))=A++-1::R:=by
   rw[JE,gQ,hA,hR];rfl
  have e0:bX p (-1:Int)++eL c p (row.drop p)=A++(if x=c then(p:Int)+1 else -1)::R:=by
   rw[zk hpl,hA,hR,eL,(c_.mp hx).2]
  rw[e1,Iu];have cx:bu (bA (aM .NotEq) (bA (aM .In) (oI zB (vF 7)) zD) (vF 4)) (EW c row (A++-1::R) (sv (.int p)) v8)=.ok (decide (x=c),EW c row (A++-1::R) (sv (.int p)) v8):=by
   refine gz (aD (t:=.bl (decide (x∈[c]))) (aD (t:=.str [x]) (aD (t:=.str row) (u:=.int p) rfl rfl ?_) rfl rfl) rfl ?_)
   ·show(atT row (p:Int)).map _=_
    rw[ib (by omega),hx];rfl
   ·show some (T.bl (!decide (decide (x∈[c])=false)))=_
    by_cases z:x=c
    ·rw[decide_eq_true z,decide_eq_true (iu.mpr z)];rfl
    ·rw[decide_eq_false z,decide_eq_false λy=>z (iu.mp y)];rfl
  by_cases z:x=c
  ·rw[decide_eq_true z]at cx
   have ih:=rX p (v7:=sv (.int p)) (v8:=sv (.int ((p:Int)+1))) (Jo h);rw[e0,if_pos z]at ih;have e8:oI zC (oA (vF 7) zI) (EW c row (A++-1::R) (sv (.int p)) v8)=.ok (.int ((p:Int)+1),EW c row (A++-1::R) (sv (.int p)) v8):=by
    refine aD (t:=Pw row) (u:=.int (((p+1:Nat)):Int)) rfl rfl ?_;show atT (i0 0 (row.length+1)) (((p+1:Nat)):Int)=_;unfold i0;rw[ib (by rw[b_,jU];omega),fZ,Fv (by omega)]
    show some (T.int (0+((p+1:Nat):Int)))=_;rw[zm];rfl
   have e6:lU 6 (vF 7) (EW c row (A++-1::R) (sv (.int p)) (sv (.int ((p:Int)+1))))=.ok (.int (-1),EW c row (A++-1::R) (sv (.int p)) (sv (.int ((p:Int)+1)))):=by
    unfold lU;show Res.bind (aT (GH (.lst ((A++-1::R).map T.int)) (.int p))) _=_;rw[<- hl,ZR];rfl
   have ep:Ĝ 6 (vF 7) (vF 8) (EW c row (A++-1::R) (sv (.int p)) (sv (.int ((p:Int)+1))))=.ok (.nx,EW c row (A++((p:Int)+1)::R) (sv (.int p)) (sv (.int ((p:Int)+1)))):=by
    show cU 6 (vF 7) (vF 8) _=_;unfold cU;show Res.bind (aT (gd (0<=(p:Int)/\(p:Int)<(((A++-1::R).map T.int).length:Nat)) (((A++-1::R).map T.int).set (p:Int).toNat (.int ((p:Int)+1))))) _=_;rw[lu ⟨by omega,by rw[b_,dg,eT];omega⟩,Bx,<- List.map_set,Bs _ _ (by omega),hl,lH]
    rfl
   exact fX (r:=(EW c row (A++-1::R) (sv (.int p)) v8).r) rfl (f9 cx (wS e8 (dJ (bw (OA rfl) ⟨_,rfl,rfl,f9 (gz (aD (t:=.int ((p:Int)+1)) (u:=.int (-1)) rfl e6 (by rw[rP,decide_eq_true (by omega)]))) (W.of ep ⟨rfl,ih⟩)⟩))))
  ·rw[decide_eq_false z]at cx
   have ih:=rX p (v7:=sv (.int p)) (v8:=v8) (Jo h);rw[e0,if_neg z]at ih;exact fX (r:=(EW c row (A++-1::R) (sv (.int p)) v8).r) rfl (bw cx ⟨_,rfl,rfl,ih⟩)
def T_(hr:row.length<=1000):cN (n+2) 17 [yK c,.str row,Pw row] m=.ok (.lst ((eL c 0 row).map T.int),m):=by
 rw[Ł];have no:aW (i0 0 (row.length+1))=true:=by
  have:=gf ((cP (row.length+1)).map λk=>(0+((k:Nat):Int)))
  rw[gR]at this;exact this
 have er:(bX (i0 0 (row.length+1)).length [T.int (-1)]).flatten=(bX row.length (-1:Int)++eL c row.length (row.drop row.length)).map T.int:=by
  rw[Ba];show _=(bX row.length (-1:Int)++[-1]).map T.int;rw[<- JE,List.map_replicate];have hl:(i0 0 (row.length+1)).length=row.length+1:=by unfold i0;rw[b_,jU]
  rw[hl]
  generalize row.length+1=k
  induction k with
  |zero=>rfl
  |succ k ih=>rw[sG,vo,ih];rfl
 have hl:(i0 0 (row.length+1)).length=row.length+1:=by unfold i0;rw[b_,jU]
 refine sEq (by show(true&&(true&&(aW (i0 0 (row.length+1))&&true)))=true;rw[no];rfl) rfl (gf _) (bS rfl (bS rfl (bS (t:=.bl false) (cE (ts:=[yK c]) rfl (by rw[Ķ];exact sEq rfl rfl rfl (bR rfl rfl))) (b7 (W.of (a:=(Out.nx,EW c row (bX row.length (-1)++eL c row.length (row.drop row.length)) none none)) ?_ ⟨rfl,b7 (fF (W.of (a:=(dn row.length,EW c row (bX row.length (-1)++eL c row.length (row.drop row.length)) none none)) ?_ ((rX row.length (bV _)).mono λq hq=>⟨hq.1,?_⟩)))⟩)))))
 ·unfold gX Vc
  rw[yD (b:=false) (cE (ts:=[yK c]) rfl (by rw[Ĵ];exact sEq rfl rfl rfl (bR rfl rfl)))]
  refine Eq.trans (congrArg (λz=>Res.bind z _) (bo _ _)) ?_;dsimp only;rw[if_neg fL,ZQ (t:=.lst [.int (-1)]) (u:=.int ((i0 0 (row.length+1)).length:Nat)) (v:=(bX row.length (-1:Int)++eL c row.length (row.drop row.length)).map T.int) rfl rfl (by rw[<- er];exact lu ⟨by omega,by omega,by rw[Bx];show 1*_<=_;omega⟩)]
  rfl
 ·unfold vR
  show Res.bind (aT (Ah [.int ((row.length:Int)-1),.int (-1),.int (-1)])) _=_;rw[show Ah [.int ((row.length:Int)-1),.int (-1),.int (-1)]=some (dn row.length) by
   have e:((row.length:Int)-1+1).toNat=row.length:=by omega
   show gd _ _=_;rw[lu ⟨rfl,rfl,by omega,by omega⟩,e];rfl]
  rfl
 ·obtain⟨_,v7,v8,e⟩:=hq
  rw[e];exact yz rfl rfl
def Ay(hr:row.length<=1000):cN (n+3) 15 [pa c,.str row] m=.ok (.lst ((eL c 0 row).map T.int),m):=by
 rw[Ľ];refine sEq rfl rfl (gf _) (bS (t:=Pw row) (cE (ts:=[.str row,.bl false]) rfl ?_) (b7 (fF (W.of (ZP (v:=[yK c]) (t:=.lst [yK c]) rfl rfl) (fX (r:=[sv (pa c),sv (.str row),sv (Pw row),sv (yK c)]) rfl (W.of (fW (cE (ts:=[yK c,.str row,Pw row]) rfl (T_ n hr))) ⟨rfl,_,rfl,rfl,bR rfl rfl⟩))))));rw[Ŀ];have no:aW (i0 0 (row.length+1))=true:=by
  have:=gf ((cP (row.length+1)).map λk=>(0+((k:Nat):Int)))
  rw[gR]at this;exact this
 refine sEq rfl rfl no (bN rfl (bR (qv (ZP (t:=.int ((row.length:Int)+1)) rfl ?_)) rfl));show gd _ _=_;rw[lu ⟨by omega,by omega⟩,show((row.length:Int)+1).toNat=row.length+1 by omega]
def XZ{A B:FS}{s:S}{G:T×He->Prop}(h:W (A s) λp=>(∃t,p.1=.rt t/\G (t,p.2.m))\/(p.1=.nx/\WB B p.2 G)):WB (af A B) s G:=by
 obtain⟨⟨o,s'⟩,e,h⟩:=h;rcases h with⟨t,h1,h2⟩|⟨h1,h2⟩
 ·cases h1;exact K_ ⟨_,e,t,rfl,h2⟩
 ·cases h1;exact b7 ⟨_,e,rfl,h2⟩
theorem En{t u:T}:∀(r:Bi){A:Fh}{q:Nat}{v:Option C},A.length=q->W (bZ (setG 4) TL ((vt q (r.length+1)).map λq=>T.int (q:Nat)) ⟨[sv t,sv u,sv (.int 0),sv (.lst ((A++eL c q r).map T.int)),v],m⟩) λp=>p.2.m=m/\((∃a b,p.1=.rt (.tup [.int a,.int b])/\c∈r)\/(p.1=.nx/\c∉r))
 |[],A,q,v,h=>by
  subst h;exact fX rfl (bw (gz (aD (t:=.int (-1)) (aD (t:=.lst ((A++[-1]).map T.int)) (u:=.int A.length) rfl rfl OG) rfl rfl)) ⟨_,rfl,rfl,_,rfl,rfl,.inr ⟨rfl,λz=>by cases z⟩⟩)
 |x::r,A,q,v,h=>by
  subst h;rw[eL,eT,JC,dZ];by_cases z:x=c
  ·rw[if_pos z,bZ]
   have e0:∀{v:Option C},oI zD (vF 4) ⟨[sv t,sv u,sv (.int 0),sv (.lst ((A++(((A.length:Nat):Int)+1)::eL c (A.length+1) r).map T.int)),sv (.int A.length)],m⟩=.ok (.int (((A.length:Nat):Int)+1),⟨[sv t,sv u,sv (.int 0),sv (.lst ((A++(((A.length:Nat):Int)+1)::eL c (A.length+1) r).map T.int)),sv (.int A.length)],m⟩):=aD (u:=.int A.length) rfl rfl OG;refine⟨_,Eq.trans (bo _ _) (Eq.trans (congrArg (λx=>Res.bind x _) (Pu (gz (aD (e0 (v:=none)) rfl (by show some (T.bl (!decide (((A.length:Nat):Int)+1=-1)))=_;rw[decide_eq_false (by omega)];rfl))) (gI (dW (ts:=[.int A.length,.int (((A.length:Nat):Int)+1)]) (az rfl (az (e0 (v:=none)) rfl)) rfl)))) rfl),rfl,.inl ⟨_,_,rfl,by rw[z];exact fY ..⟩⟩
  ·rw[if_neg z]
   refine fX rfl (bw (gz (aD (t:=.int (-1)) (aD (u:=.int A.length) rfl rfl OG) rfl rfl)) ⟨_,rfl,rfl,?_⟩);have ih:=En (t:=t) (u:=u) r (A:=A++[-1]) (q:=A.length+1) (v:=sv (.int A.length)) (by rw[dg];rfl)
   rw[gQ]at ih;refine W.mono ih λp hp=>⟨hp.1,?_⟩;rcases hp.2 with⟨a,b,h1,h2⟩|⟨h1,h2⟩
   ·exact .inl ⟨a,b,h1,bW _ h2⟩
   ·exact .inr ⟨h1,λy=>(gh.mp y).elim (λy=>z y.symm) h2⟩
def OH(hr:row.length<=1000):cN (n+5) 14 [pa c,.str row] m=.ok (.bl (decide (c∈row)),m):=by
 rw[Ļ];have hs:W (cN (n+4) 13 [pa c,.str row,.int 0] []) λp=>p.2=[]/\aM .IsNot p.1 .non=some (.bl (decide (c∈row))):=by
  rw[Ĺ];have hl:=Em c row 0;refine uF (G:=λp=>p.2=[]/\aM .IsNot p.1 .non=some (.bl (decide (c∈row)))) rfl (iW rfl (bS (cE (ts:=[pa c,.str row]) rfl (Ay n hr)) (XZ (fF (W.of (Ij (us:=(vt 0 (row.length+1)).map λq=>T.int (q:Nat)) (ts:=[.int 0,.int ((row.length+1:Nat):Int)]) (az rfl (az (dW (ts:=[.lst ((eL c 0 row).map T.int)]) rfl (by show some (T.int (((eL c 0 row).map T.int).length:Nat))=_;rw[b_,hl])) rfl)) ?_) ((En row (A:=[]) (q:=0) (v:=none) rfl).mono λp hp=>?_))))))
  ·show gd _ _=_
   rw[lu ⟨by omega,by omega,by omega,by omega⟩,show(((row.length+1:Nat):Int)-0).toNat=row.length+1 by omega]
   unfold i0;rw[JF];exact congrArg some (vq λq _=>by rw[zm])
  ·rcases hp.2 with⟨a,b,h1,h2⟩|⟨h1,h2⟩
   ·exact .inl ⟨_,h1,rfl,rfl,by rw[decide_eq_true h2];rfl⟩
   ·exact .inr ⟨h1,bR (t:=.non) rfl ⟨rfl,rfl,by rw[decide_eq_false h2];rfl⟩⟩
 obtain⟨⟨t,m1⟩,e,h1,h2⟩:=hs;have h1:m1=[]:=h1;subst h1;exact sEq rfl rfl rfl (bR (aD (t:=t) (cZ (ts:=[pa c,.str row]) (s':=⟨[sv (pa c),sv (.str row)],[]⟩) rfl e) rfl h2) rfl)
end
def set_same{α:Type}{l:List α}{k:Nat}{x:α}(h:l[k]?=some x):l.set k x=l:=zj λj=>by
 by_cases hj:k=j
 ·subst hj;rw[cj (c_.mp h).1,h]
 ·rw[cT hj]
section
variable{a:FE}{s s1:S}{k kb nb f j:Nat}{ob:Ob}{t:T}{m:He}{ks:List Ky}{ts:FV}
theorem get_mem:∀{ks:List Ky}{ts:FV}{x:Ky},ks.length=ts.length->x∈ks->∃t,dG ks ts x=some t
 |[],_,_,_,h=>by cases h
 |q::ks,[],_,h,_=>by cases h
 |q::ks,t::ts,x,h,hx=>by
  rw[dG];by_cases e:q=x
  ·rw[if_pos e];exact⟨t,rfl⟩
  ·rw[if_neg e]
   rcases gh.mp hx with z|z
   ·exact absurd z.symm e
   ·exact get_mem (lI.inj h) z
theorem mw:∀{ks:List Ky}{ts:FV}{x y:Ky}{u:T},ks.length=ts.length->x∉ks->dG (ks++[x]) (ts++[u]) y=if x=y then some u else dG ks ts y
 |[],[],x,y,u,_,_=>by
  rw[lL,lL,dG]
 |[],_::_,_,_,_,h,_=>by cases h
 |q::ks,[],_,_,_,h,_=>by cases h
 |q::ks,t::ts,x,y,u,h,hx=>by
  rw[Bp,Bp,dG,dG];by_cases e:q=y
  ·rw[if_pos e,if_pos e,if_neg λz=>hx (by rw[z,e];exact fY ..)]
  ·rw[if_neg e,if_neg e,mw (lI.inj h) λz=>hx (bW _ z)]
end
section
variable{a o b:FE}{t u:T}{s:S}{nb kb:Nat}{ks:List Ky}{ts:FV}{ky:Ky}
def Ua(hv:a s=.ok (u,s))(ho:o s=.ok (.own kb,s))(hb:b s=.ok (t,s))(hk:iL t=some ky)(hm:s.m[kb]?=some ⟨nb,[.od ks ts]⟩)(hn:ky∉ks)(hs:ks.length<1000000):dI nb o b a s=.ok (.nx,⟨s.r,s.m.set kb ⟨nb,[.od (ks++[ky]) (ts++[u])]⟩⟩):=by
 unfold dI;rw[hv];refine Eq.trans (bo _ _) ?_;show Res.bind (o s) _=_;rw[ho];refine Eq.trans (bo _ _) ?_;show Res.bind (b s) _=_;rw[hb];refine Eq.trans (bo _ _) ?_;show Res.bind (aT (jg nb s.m (.own kb))) _=_;rw[ly hm];refine Eq.trans (bo _ _) ?_;show Res.bind (aT (iL t)) _=_;rw[hk];refine Eq.trans (bo _ _) ?_;show Res.bind (aT (gd (ks.length<1000000) ())) _=_;rw[lu hs];show Res.ok (Out.nx,setB nb _ kb (let y:=bQ ks ts ky u;.od y.1 y.2))=_;unfold bQ;rw[if_neg hn];rfl
def OI{neg:Bool}(hv:a s=.ok (t,s))(ho:o s=.ok (.own kb,s))(hk:iL t=some ky)(hm:s.m[kb]?=some ⟨nb,[.od ks ts]⟩):bu (rH nb neg a o) s=.ok (if neg then !decide (ky∈ks)else decide (ky∈ks),s):=by
 have e:rH nb neg a o s=.ok (.bl (if neg then !decide (ky∈ks)else decide (ky∈ks)),s):=by
  unfold rH;rw[hv];refine Eq.trans (bo _ _) ?_;show Res.bind (o s) _=_;rw[ho];refine Eq.trans (bo _ _) ?_;show Res.bind (aT (jg nb s.m (.own kb))) _=_;rw[ly hm];refine Eq.trans (bo _ _) ?_;show Res.bind (aT (iL t)) _=_;rw[hk];rfl
 unfold bu;rw[e];rfl
def Az(ho:o s=.ok (.own kb,s))(hb:b s=.ok (t,s))(hk:iL t=some ky)(hm:s.m[kb]?=some ⟨nb,[.od ks ts]⟩)(hg:dG ks ts ky=some u):dz nb o b s=.ok (u,s):=by
 unfold dz;rw[ho];refine Eq.trans (bo _ _) ?_;show Res.bind (b s) _=_;rw[hb];refine Eq.trans (bo _ _) ?_;show Res.bind (aT (jg nb s.m (.own kb))) _=_;rw[ly hm];refine Eq.trans (bo _ _) ?_;show Res.bind (aT (iL t)) _=_;rw[hk];show Res.bind (aT (dG ks ts ky)) _=_;rw[hg];rfl
end
structure Px(row:Bi)(ks:List Ky)(ts:FV):Prop where
 len:ks.length=ts.length
 at_:∀a t,dG ks ts (.s [a])=some t->t=.bl (decide (a∈row))
def Px.nil{row:Bi}:Px row [] []:=⟨rfl,λ_ _ h=>by cases h⟩
def OJ{k kb:Nat}{row:Bi}{num:Int}{ks:List Ky}{ts:FV}{a:Nat}(hm:m[k]?=some ⟨22,[.val (.str row),.val (.int num),.val (.own kb)]⟩)(hb:m[kb]?=some ⟨M.bc,[.od ks ts]⟩)(kG:kb≠k)(K:Px row ks ts)(hs:ks.length<1000000)
  (hr:row.length<=1000) (h:gO a=true):∃wL oH,cN (n+6) 62 [.own k,pa a] m=.ok (.bl (decide (a∈row)),m.set kb ⟨M.bc,[.od wL oH]⟩)/\Px row wL oH/\wL.length<=ks.length+1:=by
 rw[w62];have hkb:kb<m.length:=(c_.mp hb).1;have ew:=Ei (n+1) (m:=m) h;have ef:=OH n (c:=a) (m:=m) hr;obtain⟨X,hX⟩:∃X,X=[a]:=⟨_,rfl⟩;rw[<- hX]at ew;obtain⟨d,hd⟩:∃d,d=decide (a∈row):=⟨_,rfl⟩;rw[<- hd]at ef ⊢;by_cases sy:Ky.s X∈ks
 ·obtain⟨t,ht⟩:=get_mem K.len sy
  have et:t=.bl d:=by rw[hX]at ht;rw[hd];exact K.at_ a t ht
  subst et;refine⟨ks,ts,?_,K,by omega⟩
  rw[set_same hb];exact ee rfl (seq1 (fW (cE (ts:=[pa a]) rfl ew)) (seq1 (vf ((OI (neg:=true) (ky:=.s X) rfl (iy (j:=2) rfl hm rfl rfl) rfl hb).trans (by rw[if_pos rfl,decide_eq_true sy];rfl)) rfl) (gI (Az (ky:=.s X) (iy (j:=2) rfl hm rfl rfl) rfl rfl hb ht)))) rfl
 ·refine⟨ks++[.s X],ts++[.bl d],?_,⟨by simp[K.len],λb t hg=>?_⟩,by simp⟩
  ·have e1:∀r,au M.P.tab 14 zA ⟨sv (.own k)::r,m⟩=.ok (.str row,⟨sv (.own k)::r,m⟩):=λr=>iy (j:=0) (k:=k) rfl hm rfl rfl
   exact ee rfl (seq1 (fW (cE (ts:=[pa a]) rfl ew)) (seq1 (Pu ((OI (neg:=true) (ky:=.s X) rfl (iy (j:=2) rfl hm rfl rfl) rfl hb).trans (by rw[if_pos rfl,decide_eq_false sy];rfl)) (Ua (ky:=.s X) (cE (ts:=[pa a,.str row]) (az rfl (az (e1 _) rfl)) ef) (iy (j:=2) rfl hm rfl rfl) rfl rfl hb sy hs)) (gI (Az (ky:=.s X) (iy (j:=2) rfl (ob:=⟨22,[.val (.str row),.val (.int num),.val (.own kb)]⟩) (by rw[cT kG];exact hm) rfl rfl) rfl rfl (cj hkb) (by rw[mw K.len sy,if_pos rfl]))))) rfl
  ·rw[mw K.len sy]at hg
   split at hg
   ·rename_i e
    cases hg;have e:=(Ky.s.inj e).symm.trans hX;have e:=List.head_eq_of_cons_eq e;rw[hd,e]
   ·exact K.at_ b t hg
structure WV where
 lines:FV
 bm:T
 tl:Nat
 tr:T
 ps:Int
 mt:Nat
 tk:Int
 hand:T
 hr:Int
 sh:Nat
 su:Nat
 no:Nat
 lg:Nat
 wt:Bool
def WV.ob(v:WV):Ob:=⟨24,[.val (.lst v.lines),.val v.bm,.val (.own v.tl),.val v.tr,.val (.int v.ps),.val (.own v.mt),.val (.int v.tk),.val v.hand,.val (.int v.hr),.val (.own v.sh),.val (.own v.su),.val (.own v.no),.val (.own v.lg),.val (.bl v.wt)]⟩
structure WS(m:He)(w:Nat)(v:WV)(log:FV):Prop where
 o:m[w]?=some v.ob
 l:m[v.lg]?=some ⟨M.bc,[.ol log]⟩
 ne:v.lg≠w
 o_:log.length<900000
structure Fr(X:Nat->Prop)(m m':He):Prop where
 le:m.length<=m'.length
 at_:∀k,k<m.length->¬ X k->m'[k]?=m[k]?
def Fr.refl{X:Nat->Prop}:Fr X m m:=⟨bV _,λ_ _ _=>rfl⟩
theorem Fr.trans{X:Nat->Prop}{m m1 m2:He}(a:Fr X m m1)(b:Fr X m1 m2):Fr X m m2:=⟨fK a.le b.le,λk h x=>(b.at_ k (gP h a.le) x).trans (a.at_ k h x)⟩
theorem Fr.set{X:Nat->Prop}{k:Nat}{ob:Ob}(h:X k):Fr X m (m.set k ob):=⟨by rw[fh];exact bV _,λj _ x=>cT λ(z:k=j)=>x (z▸h)⟩
def WX(w:Nat)(v:WV)(k:Nat):Prop:=k=w\/k=v.lg
section
variable{m:He}{w f j:Nat}{v v':WV}{log:FV}{r:FK}{a:FE}{t:T}{s:S}
def WS.app(S':WS m w v log)(h:(log++[t]).length<900000):WS (m.set v.lg ⟨M.bc,[.ol (log++[t])]⟩) w v (log++[t]):=
 ⟨by rw[cT S'.ne];exact S'.o,cj (c_.mp S'.l).1,S'.ne,h⟩
def WS.fld(S':WS m w v log)(h:v'.lg=v.lg):WS (m.set w v'.ob) w v' log:=
 ⟨cj (c_.mp S'.o).1,by rw[h,cT (Ne.symm S'.ne)];exact S'.l,by rw[h];exact S'.ne,S'.o_⟩
def w_fld(S':WS m w v log)(hj:iM M.P.tab 24 f=some j)(hf:v.ob.fs[j]?=sv t):au M.P.tab f zA ⟨sv (.own w)::r,m⟩=.ok (t,⟨sv (.own w)::r,m⟩):=iy (k:=w) rfl S'.o hj hf
def uP(S':WS m w v log)(ha:a ⟨sv (.own w)::r,m⟩=.ok (t,⟨sv (.own w)::r,m⟩)):eZ M.bc (au M.P.tab 29 zA) a ⟨sv (.own w)::r,m⟩=.ok (.nx,⟨sv (.own w)::r,m.set v.lg ⟨M.bc,[.ol (log++[t])]⟩⟩):=by
 unfold eZ;rw[w_fld S' (j:=12) (t:=.own v.lg) rfl rfl];refine Eq.trans (bo _ _) ?_;show Res.bind (aT (kL M.bc m (.own v.lg))) _=_;rw[jn S'.l];refine Eq.trans (bo _ _) ?_;show Res.bind (a ⟨sv (.own w)::r,m⟩) _=_;rw[ha];refine Eq.trans (bo _ _) ?_;show Res.bind (aT (kL M.bc m (.own v.lg))) _=_;rw[jn S'.l];refine Eq.trans (bo _ _) ?_;show Res.bind (aT (gd (log.length<1000000) ())) _=_;rw[lu (by have:=S'.o_;omega)]
 rfl
def Eo(S':WS m w v log)(ha:a ⟨sv (.own w)::r,m⟩=.ok (t,⟨sv (.own w)::r,m⟩))(hp:cX M.P.tab f (.val t) v.ob=some v'.ob):aJ M.P.tab f zA a ⟨sv (.own w)::r,m⟩=.ok (.nx,⟨sv (.own w)::r,m.set w v'.ob⟩):=by
 unfold aJ;rw[ha];refine Eq.trans (bo _ _) ?_;show Res.bind (aT ((m[w]?).bind _)) _=_;rw[S'.o];show Res.bind (aT (cX M.P.tab f (.val t) v.ob)) _=_;rw[hp];rfl
def OL{ah:Nat->Fn}{i:Nat}{fl:FL}{ts:FV}{Q:T×He->Prop}(S':WS m w v log)(ha:fl ⟨sv (.own w)::r,m⟩=.ok (ts,⟨sv (.own w)::r,m⟩))(hc:W (ah i (.own w::ts) m) Q):W (aK (av (ak [(24,i)] ah) zA fl) ⟨sv (.own w)::r,m⟩) λp=>p.1=.nx/\p.2.r=sv (.own w)::r/\∃u,Q (u,p.2.m):=by
 obtain⟨⟨u,m'⟩,e,q⟩:=hc;have e1:av (ak [(24,i)] ah) zA fl ⟨sv (.own w)::r,m⟩=.ok (u,⟨sv (.own w)::r,m'⟩):=uC (k:=w) (ob:=v.ob) (s1:=⟨sv (.own w)::r,m⟩) (s2:=⟨sv (.own w)::r,m⟩) rfl S'.o rfl ha e;refine⟨(.nx,⟨sv (.own w)::r,m'⟩),?_,rfl,rfl,u,q⟩;unfold aK;rw[e1];rfl
def Ub(S':WS m w v log)(hj:iM M.P.tab 24 f=some j)(hf:v.ob.fs[j]?=sv (.int i))(hv:(⟨24,v.ob.fs.set j (.val (.int (i+1)))⟩:Ob)=v'.ob):nR M.P.tab f fD zA zI ⟨sv (.own w)::r,m⟩=.ok (.nx,⟨sv (.own w)::r,m.set w v'.ob⟩):=by
 have e:gc M.P.tab f m (.own w)=some (w,v.ob,j,.val (.int i)):=by
  show(m[w]?).bind _=_;rw[S'.o];show(iM M.P.tab 24 f).bind _=_;rw[hj];show(v.ob.fs[j]?).map _=_;rw[hf];rfl
 unfold nR;show Res.bind (aT (gc M.P.tab f m (.own w))) _=_;rw[e];refine Eq.trans (bo _ _) ?_;show Res.bind (aT (gc M.P.tab f m (.own w))) _=_;rw[e];refine Eq.trans (bo _ _) ?_;show Res.bind (aT (gd (v.ob.c=v.ob.c) ())) _=_;rw[lu rfl];show Res.ok (Out.nx,(⟨sv (.own w)::r,m.set w ⟨v.ob.c,v.ob.fs.set j (.val (.int (i+1)))⟩⟩:S))=_;rw[show v.ob.c=24 from rfl,hv]
def Iv{B:FS}{Q:Out×S->Prop}(S':WS m w v log)(hl:log.length+1<900000)(ha:a ⟨sv (.own w)::r,m⟩=.ok (t,⟨sv (.own w)::r,m⟩))(k:∀m',WS m' w v (log++[t])->Fr (WX w v) m m'->W (B ⟨sv (.own w)::r,m'⟩) Q):W (af (eZ M.bc (au M.P.tab 29 zA) a) B ⟨sv (.own w)::r,m⟩) Q:=dJ (W.of (uP S' ha) ⟨rfl,k _ (S'.app (by simpa using hl)) (Fr.set (.inr rfl))⟩)
def AA{B:FS}{Q:Out×S->Prop}(S':WS m w v log)(v':WV)(hg:v'.lg=v.lg)(ha:a ⟨sv (.own w)::r,m⟩=.ok (t,⟨sv (.own w)::r,m⟩))(hp:cX M.P.tab f (.val t) v.ob=some v'.ob)(k:∀m',WS m' w v' log->Fr (WX w v) m m'->W (B ⟨sv (.own w)::r,m'⟩) Q):W (af (aJ M.P.tab f zA a) B ⟨sv (.own w)::r,m⟩) Q:=dJ (W.of (Eo S' ha hp) ⟨rfl,k _ (S'.fld hg) (Fr.set (.inl rfl))⟩)
def OM{i:Int}{B:FS}{Q:Out×S->Prop}(S':WS m w v log)(v':WV)(hg:v'.lg=v.lg)(hj:iM M.P.tab 24 f=some j)(hf:v.ob.fs[j]?=sv (.int i))(hv:(⟨24,v.ob.fs.set j (.val (.int (i+1)))⟩:Ob)=v'.ob)(k:∀m',WS m' w v' log->Fr (WX w v) m m'->W (B ⟨sv (.own w)::r,m'⟩) Q):W (af (nR M.P.tab f fD zA zI) B ⟨sv (.own w)::r,m⟩) Q:=dJ (W.of (Ub S' hj hf hv) ⟨rfl,k _ (S'.fld hg) (Fr.set (.inl rfl))⟩)
def ji{ah:Nat->Fn}{i:Nat}{fl:FL}{ts:FV}{R:T×He->Prop}{Q:Out×S->Prop}(S':WS m w v log)(ha:fl ⟨sv (.own w)::r,m⟩=.ok (ts,⟨sv (.own w)::r,m⟩))(hc:W (ah i (.own w::ts) m) R)(k:∀u m',R (u,m')->Q (.nx,⟨sv (.own w)::r,m'⟩)):W (aK (av (ak [(24,i)] ah) zA fl) ⟨sv (.own w)::r,m⟩) Q:=by
 refine(OL (r:=r) S' ha hc).mono λp hp=>?_;obtain⟨h1,h2,u,h4⟩:=hp;obtain⟨o,pr,pm⟩:=p;cases h1;cases h2;exact k u pm h4
def WR(w:Nat)(v0 v:WV)(log:FV)(m0:He)(p:T×He):Prop:=p.1=.non/\WS p.2 w v log/\Fr (WX w v0) m0 p.2
abbrev dC(i:Int):T:=.tup [.str [119,97,110,116],.int (i+1)]
def Iw(S':WS m w v log)(hl:log.length+1<900000):W (cN (n+1) 68 [.own w] m) (WR w v {v with wt:=true} (log++[dC v.tk]) m):=by
 rw[ZG];have S1:=S'.app (t:=dC v.tk) (by simpa using hl)
 have S2:=S1.fld (v':={v with wt:=true}) rfl
 refine c6 rfl (dJ (W.of (uP S' (t:=dC v.tk) (r:=[]) ?_) ⟨rfl,W.of (Eo S1 (t:=.bl true) (v':={v with wt:=true}) rfl rfl) ⟨rfl,rfl,S2,(Fr.set (.inr rfl)).trans (Fr.set (.inl rfl))⟩⟩))
 exact dW (az (t:=.str [119,97,110,116]) rfl (az (aD (w_fld S' (j:=6) (t:=.int v.tk) rfl rfl) rfl rfl) rfl)) rfl
def rY(S':WS m w v log)(hl:log.length+1<900000):W (cN (n+1) 76 [.own w,t] m) (WR w v v (log++[.tup [.str zg,t]]) m):=by
 rw[w76];have S1:=S'.app (t:=.tup [.str zg,t]) (by simpa using hl)
 refine c6 rfl (W.of (uP S' (t:=.tup [.str zg,t]) (r:=[sv t]) ?_) ⟨rfl,rfl,S1,Fr.set (.inr rfl)⟩);exact dW (az (t:=.str zg) rfl (az (t:=t) rfl rfl)) rfl
def Iz(S':WS m w v log)(hl:log.length+1<900000):W (cN (n+1) 75 [.own w] m) (WR w v v (log++[.tup [.str [110,111,110,101],.int (v.tk+1)]]) m):=by
 rw[w75];have S1:=S'.app (t:=.tup [.str [110,111,110,101],.int (v.tk+1)]) (by simpa using hl)
 refine c6 rfl (W.of (uP S' (t:=.tup [.str [110,111,110,101],.int (v.tk+1)]) (r:=[]) ?_) ⟨rfl,rfl,S1,Fr.set (.inr rfl)⟩);exact dW (az (t:=.str [110,111,110,101]) rfl (az (aD (w_fld S' (j:=6) (t:=.int v.tk) rfl rfl) rfl rfl) rfl)) rfl
end
section
variable{m:He}{w f j:Nat}{v v':WV}{log:FV}{r:FK}{a:FE}{t:T}{s:S}
abbrev yL:T:=.tup [.str [111,118,101,114]]
abbrev yM(t:T):T:=.tup [.str zg,t]
def IC(S':WS m w v log)(hl:log.length+2<900000):W (cN (n+2) 77 [.own w] m) (WR w v {v with hand:=.non,hr:=0,ps:=0,wt:=true} (log++[yL]++[dC v.tk]) m):=by
 rw[w77];refine c6 rfl (Iv (r:=[]) (t:=yL) S' (by omega) rfl λm1 S1 F1=>AA S1 {v with hand:=.non} rfl rfl rfl λm2 S2 F2=>AA S2 {v with hand:=.non,hr:=0} rfl rfl rfl λm3 S3 F3=>AA S3 {v with hand:=.non,hr:=0,ps:=0} rfl rfl rfl λm4 S4 F4=>ji S4 rfl (Iw n S4 (by simp;omega)) λ_ m5 h=>⟨rfl,rfl,h.2.1,(((F1.trans F2).trans F3).trans F4).trans h.2.2⟩)
def ID(S':WS m w v log)(hl:log.length+3<900000):W (cN (n+3) 78 [.own w] m) (WR w v {v with hand:=.non,hr:=0,ps:=0,wt:=true} (log++[yM v.hand]++[yL]++[dC v.tk]) m):=by
 rw[w78];exact c6 rfl (dJ (ji (r:=[]) (ts:=[v.hand]) S' (az (w_fld S' (j:=7) rfl rfl) rfl) (rY (n+1) S' (by omega)) λ_ m1 h=>⟨rfl,ji h.2.1 rfl (IC n h.2.1 (by simp;omega)) λ_ m2 h2=>⟨rfl,rfl,h2.2.1,h.2.2.trans h2.2.2⟩⟩))
end
abbrev Py:Bi:=zu
abbrev IE(a b:Nat):PC:=.ft (.like [a] (pa a)) (.like [b] (pa b))
abbrev X0(c:Nat):PC:=.rp (.like [c] (pa c))
abbrev ou(mo:Option (Bi×Int))(a b:Nat):LN:=.full (IE a b) (.pile mo)
abbrev wM(a b:Nat):LN:=.full (IE a b) (.say Py)
abbrev rZ(c:Nat):LN:=.full (X0 c) .bring
def prog(rv:Bool)(mo:Option (Bi×Int))(a b c:Nat):List LN:=if rv then[rZ c,rZ c,wM a b,ou mo a b]else[ou mo a b,wM a b,rZ c,rZ c]
section
variable{a b c:Nat}{mo:Option (Bi×Int)}
def r6:noOwn (IE a b).val=true:=rfl
def Ep:noOwn (X0 c).val=true:=rfl
def lkP(ha:gO a=true)(hb:gO b=true)(hm:DD.ok (.pile mo)):Lk (ou mo a b):=El ⟨⟨TZ ha,TZ hb⟩,hm⟩ r6 (by cases mo<;>rfl)
def lkS(ha:gO a=true)(hb:gO b=true):Lk (wM a b):=El ⟨⟨TZ ha,TZ hb⟩,⟨by decide,by decide⟩⟩ r6 rfl
def lkB(hc:gO c=true):Lk (rZ c):=El ⟨TZ hc,trivial⟩ Ep rfl
def yN{rv:Bool}(ha:gO a=true)(hb:gO b=true)(hc:gO c=true)(hm:DD.ok (.pile mo)):∀x∈prog rv mo a b c,Lk x:=λx hx=>by
 have h1:=lkP ha hb hm;have h2:=lkS ha hb;have h3:=lkB hc;unfold prog at hx;cases rv<;>simp only[if_true,vz,if_false,gh,jV,or_false]at hx<;>rcases hx with rfl|rfl|rfl|rfl<;>assumption
def Er{rv:Bool}:(prog rv mo a b c).length=4:=by cases rv<;>rfl
end
section
variable{a b c:Nat}{mo:Option (Bi×Int)}{rv:Bool}
def uQ{a:Nat}(h:gO a=true):10≠a:=λz=>by rw[<- z]at h;exact absurd h (by decide)
def noP(ha:gO a=true)(hb:gO b=true)(hm:DD.ok (.pile mo)):10∉(ou mo a b).txt:=by
 have h1:=uQ ha;have h2:=uQ hb;cases mo with
 |none=>intro z;simp[LN.txt,PC.txt,RP.txt,DD.txt,aS,h1,h2]at z
 |some q=>
  obtain⟨d,v⟩:=q;have h3:10∉d:=λz=>absurd (hm.1.hd 10 z) (by decide)
  intro z;simp[LN.txt,PC.txt,RP.txt,DD.txt,aS,h1,h2,h3]at z
def noS(ha:gO a=true)(hb:gO b=true):10∉(wM a b).txt:=by
 have h1:=uQ ha;have h2:=uQ hb;intro z;simp[LN.txt,PC.txt,RP.txt,DD.txt,Py,h1,h2]at z
def noB(hc:gO c=true):10∉(rZ c).txt:=by
 have h1:=uQ hc;intro z;simp[LN.txt,PC.txt,RP.txt,DD.txt,aS,h1]at z
abbrev AB(rv:Bool)(mo:Option (Bi×Int))(a b c:Nat):Bi:=cV [10] ((prog rv mo a b c).map LN.txt)++[10]
def AD(ha:gO a=true)(hb:gO b=true)(hc:gO c=true)(hm:DD.ok (.pile mo))(hz:(AB rv mo a b c).length<=100000):cN (n+15) 37 [.str (AB rv mo a b c)] m=.ok (.obj 0 [.lst (bC (prog rv mo a b c))],m):=by
 have h1:=noP (a:=a) (b:=b) ha hb hm;have h2:=noS (a:=a) (b:=b) ha hb;have h3:=noB hc;refine Iq n (b:=true) (yN ha hb hc hm) (by rw[Er];omega) λm=>?_
 have e:=Ip (n+13) (ls:=(prog rv mo a b c).map LN.txt) (m:=m) (λl hl=>?_) (by cases rv<;>exact λz=>by cases z) hz
 ·rw[gR]at e
  exact e
 ·obtain⟨x,hx,rfl⟩:=jc.mp hl
  unfold prog at hx;cases rv<;>simp only[if_true,vz,if_false,gh,jV,or_false]at hx<;>rcases hx with rfl|rfl|rfl|rfl<;>assumption
end
section
variable{a o b d:FE}{t u:T}{s:S}{nb kb:Nat}{ks:List Ky}{ts:FV}{ky y:Ky}
def X3{a:FE}{s s1:S}{b:Bool}(h:a s=.ok (.bl b,s1)):D.tB a s=.ok (b,s1):=by unfold D.tB;rw[h];rfl
def IF(ho:o s=.ok (.own kb,s))(hb:b s=.ok (t,s))(hd:d s=.ok (u,s))(hk:iL t=some ky)(hm:s.m[kb]?=some ⟨nb,[.od ks ts]⟩):rJ nb o b d s=.ok ((dG ks ts ky).getD u,s):=by
 unfold rJ;rw[ho];refine Eq.trans (bo _ _) ?_;show Res.bind (aT (jg nb s.m (.own kb))) _=_;rw[ly hm];refine Eq.trans (bo _ _) ?_;show Res.bind (b s) _=_;rw[hb];refine Eq.trans (bo _ _) ?_;show Res.bind (d s) _=_;rw[hd];refine Eq.trans (bo _ _) ?_;show Res.bind (aT (jg nb s.m (.own kb))) _=_;rw[ly hm];refine Eq.trans (bo _ _) ?_;show Res.bind (aT (iL t)) _=_;rw[hk];rfl
def Es{s':S}(hv:a s=.ok (u,s'))(ho:o s'=.ok (.own kb,s'))(hb:b s'=.ok (t,s'))(hk:iL t=some ky)(hm:s'.m[kb]?=some ⟨nb,[.od ks ts]⟩)(hs:ks.length<1000000):dI nb o b a s=.ok (.nx,⟨s'.r,s'.m.set kb ⟨nb,[.od (bQ ks ts ky u).1 (bQ ks ts ky u).2]⟩⟩):=by
 unfold dI;rw[hv];refine Eq.trans (bo _ _) ?_;show Res.bind (o s') _=_;rw[ho];refine Eq.trans (bo _ _) ?_;show Res.bind (b s') _=_;rw[hb];refine Eq.trans (bo _ _) ?_;show Res.bind (aT (jg nb s'.m (.own kb))) _=_;rw[ly hm];refine Eq.trans (bo _ _) ?_;show Res.bind (aT (iL t)) _=_;rw[hk];refine Eq.trans (bo _ _) ?_;show Res.bind (aT (gd (ks.length<1000000) ())) _=_;rw[lu hs];rfl
theorem get_map:∀{ks:List Ky}{ts:FV},ks.length=ts.length->ky∈ks->dG ks ((ks.zip ts).map λp=>if p.1=ky then u else p.2) y=if ky=y then some u else dG ks ts y
 |[],_,_,h=>by cases h
 |q::ks,[],h,_=>by cases h
 |q::ks,t::ts,h,hx=>by
  rw[jW,dZ,dG,dG];by_cases e:q=y
  ·rw[if_pos e,if_pos e]
   by_cases e2:q=ky
   ·rw[if_pos e2,if_pos (e2.symm.trans e)]
   ·rw[if_neg e2,if_neg λz=>e2 (e.trans z.symm)]
  ·rw[if_neg e,if_neg e]
   by_cases hm:ky∈ks
   ·exact get_map (lI.inj h) hm
   ·have e2:q=ky:=by
     rcases gh.mp hx with z|z
     ·exact z.symm
     ·exact absurd z hm
    subst e2;rw[if_neg e]
    have:∀{ks:List Ky}{ts:FV},ks.length=ts.length->q∉ks->((ks.zip ts).map λp=>if p.1=q then u else p.2)=ts:=by
     intro ks
     induction ks with
     |nil=>intro ts h _;cases ts with
      |nil=>rfl
      |cons=>cases h
     |cons p ks ih=>intro ts h hq;cases ts with
      |nil=>cases h
      |cons t ts=>
       rw[jW,dZ,if_neg (λ(z:p=q)=>hq (by rw[<- z];exact fY ..)),ih (lI.inj h) λz=>hq (bW _ z)]
    rw[this (lI.inj h) hm]
def IG(h:ks.length=ts.length):dG (bQ ks ts ky u).1 (bQ ks ts ky u).2 y=if ky=y then some u else dG ks ts y:=by
 unfold bQ;by_cases e:ky∈ks
 ·rw[if_pos e];exact get_map h e
 ·rw[if_neg e];exact mw h e
def yO(h:ks.length=ts.length):(bQ ks ts ky u).1.length=(bQ ks ts ky u).2.length/\(bQ ks ts ky u).1.length<=ks.length+1:=by
 unfold bQ;by_cases e:ky∈ks
 ·rw[if_pos e]
  refine⟨?_,oK _⟩;show ks.length=Bg _;rw[b_,oO,<- h,wY]
 ·rw[if_neg e]
  simp[h]
end
structure II(g:Int->Bool)(ks:List Ky)(ts:FV):Prop where
 len:ks.length=ts.length
 at_:∀p,(dG ks ts (.i p)).getD (.bl false)=.bl (g p)
def vg(g:Int->Bool)(p:Int)(b:Bool):Int->Bool:=λq=>if p=q then b else g q
def II.put{g:Int->Bool}{ks:List Ky}{ts:FV}(U:II g ks ts)(p:Int)(b:Bool):II (vg g p b) (bQ ks ts (.i p) (.bl b)).1 (bQ ks ts (.i p) (.bl b)).2:=by
 refine⟨(yO U.len).1,λq=>?_⟩;rw[IG U.len];unfold vg;by_cases e:p=q
 ·rw[if_pos e,if_pos (by rw[e])];rfl
 ·rw[if_neg e,if_neg λz=>e (by cases z;rfl)]
  exact U.at_ q
inductive LK where
 |pl|sa|br
structure PG where
 rv:Bool
 mo:Option (Bi×Int)
 a:Nat
 b:Nat
 c:Nat
structure PG.ok(P:PG):Prop where
 a:gO P.a=true
 b:gO P.b=true
 c:gO P.c=true
 m:DD.ok (.pile P.mo)
def PG.ln(P:PG):LK->LN
 |.pl=>ou P.mo P.a P.b
 |.sa=>wM P.a P.b
 |.br=>rZ P.c
def PG.ks(P:PG):List LK:=if P.rv then[.br,.br,.sa,.pl]else[.pl,.sa,.br,.br]
theorem PG.prog(P:PG):prog P.rv P.mo P.a P.b P.c=P.ks.map P.ln:=by
 unfold K46.prog PG.ks;cases P.rv<;>rfl
def jo(x:Bi)(i:Int)(b:Nat):Ob:=⟨22,[.val (.str x),.val (.int i),.val (.own b)]⟩
structure RO(row:Bi)(rk c:Nat)(m:He):Prop where
 o:∃i,m[rk]?=some (jo row i (rk+1))
 b:∃ks ts,m[rk+1]?=some ⟨M.bc,[.od ks ts]⟩/\Px row ks ts/\ks.length<=c
def Fr.mono{X Y:Nat->Prop}{m m':He}(h:Fr X m m')(k:∀j,X j->Y j):Fr Y m m':=⟨h.le,λj a b=>h.at_ j a λz=>b (k j z)⟩
def Fr.get{X:Nat->Prop}{m m':He}(h:Fr X m m'){k:Nat}{ob:Ob}(e:m[k]?=some ob)(x:¬ X k):m'[k]?=some ob:=(h.at_ k (c_.mp e).1 x).trans e
section
variable{row:Bi}{rk c a b:Nat}{m:He}
def RO.fr{m':He}{X:Nat->Prop}(R:RO row rk c m)(F:Fr X m m')(h:¬ X rk)(h2:¬ X (rk+1)):RO row rk c m':=by
 obtain⟨i,o⟩:=R.o;obtain⟨ks,ts,b,K⟩:=R.b;exact⟨⟨i,F.get o h⟩,ks,ts,F.get b h2,K⟩
def oz(R:RO row rk c m)(hr:row.length<=1000)(hc:c<900000)(ha:gO a=true):W (cN (n+7) 18 [.obj 5 [pa a],.own rk] m) λp=>p.1=.bl (decide (a∈row))/\RO row rk (c+1) p.2/\Fr (λk=>k=rk+1) m p.2:=by
 rw[Ń];obtain⟨i,ho⟩:=R.o;obtain⟨ks,ts,hb,K,hl⟩:=R.b;obtain⟨wL,oH,e,K',sL⟩:=OJ n ho hb (by omega) K (by omega) hr ha
 refine iW rfl (bN rfl (bY rfl (yz (mE (k:=rk) rfl ho rfl rfl e) ⟨rfl,⟨⟨i,?_⟩,wL,oH,?_,K',by omega⟩,Fr.set rfl⟩)))
 ·show(m.set (rk+1) _)[rk]?=_
  rw[cT (by omega)];exact ho
 ·exact cj (c_.mp hb).1
def IJ{t:T}{i:Int}:cN (n+1) 19 [.obj 5 [t],.int i] m=.ok (.bl false,m):=by
 rw[Ņ];exact ee (s':=⟨[sv (.obj 5 [t]),sv (.int i)],m⟩) rfl rfl rfl
def Fc(row:Bi)(a b:Nat)(up:Bool):Bool:=if up then !decide (b∈row)else decide (a∈row)
def wN{tk ub:Nat}{x:T}{g:Int->Bool}{ks:List Ky}{ts:FV}{p:Int}(R:RO row rk c m)(hr:row.length<=1000)(hc:c<800000)(ha:gO a=true)(hb:gO b=true)(UO:tk≠rk+1)(ZS:ub≠rk+1)(X4:ub≠rk)
  (ht:m[tk]?=some ⟨23,[.val x,.val (.own ub)]⟩) (hu:m[ub]?=some ⟨M.bc,[.od ks ts]⟩) (U:II g ks ts) (hs:ks.length<900000) :
  W (cN (n+8) 66 [.own tk,.int p,(IE a b).val,.own rk] m) λq=>q.1=.bl (g p ||decide (a∈row))/\RO row rk (c+1) q.2/\Fr (λk=>k=rk+1\/k=ub) m q.2/\∃wL oH,q.2[ub]?=some ⟨M.bc,[.od wL oH]⟩/\II (vg g p (Fc row a b (g p))) wL oH/\wL.length<=ks.length+1:=by
 rw[w66];have Dd:=U.at_ p;have sy:∀m',Fr (λk=>k=rk+1) m m'->m'[tk]?=some ⟨23,[.val x,.val (.own ub)]⟩/\m'[ub]?=some ⟨M.bc,[.od ks ts]⟩:=λm' h=>⟨h.get ht UO,h.get hu ZS⟩;have put:∀m'(b:Bool),Fr (λk=>k=rk+1) m m'->RO row rk (c+1) m'->RO row rk (c+1) (m'.set ub ⟨M.bc,[.od (bQ ks ts (.i p) (.bl b)).1 (bQ ks ts (.i p) (.bl b)).2]⟩)/\Fr (λk=>k=rk+1\/k=ub) m (m'.set ub ⟨M.bc,[.od (bQ ks ts (.i p) (.bl b)).1 (bQ ks ts (.i p) (.bl b)).2]⟩)/\∃wL oH,(m'.set ub ⟨M.bc,[.od (bQ ks ts (.i p) (.bl b)).1 (bQ ks ts (.i p) (.bl b)).2]⟩)[ub]?=some ⟨M.bc,[.od wL oH]⟩/\II (vg g p b) wL oH/\wL.length<=ks.length+1:=λm' b h R'=>
  ⟨R'.fr (Fr.set (X:=λk=>k=ub) rfl) (Ne.symm X4) (Ne.symm ZS),(h.mono λ_=>.inl).trans (Fr.set (.inr rfl)),_,_,cj (c_.mp (sy m' h).2).1,U.put p b,(yO U.len).2⟩
 cases hg:g p with
 |true=>
  rw[hg]at Dd;obtain⟨⟨v,m1⟩,ev,hv,R1,F1⟩:=oz n R hr (by omega) hb
  have hv:v=.bl (decide (b∈row)):=hv;subst hv;refine iW rfl (bY (yD ((IF (ky:=.i p) (iy (j:=1) (k:=tk) rfl ht rfl rfl) rfl rfl rfl hu).trans (by rw[Dd]))) (b7 (W.of (Es (ky:=.i p) (s':=⟨_,m1⟩) (TX (cZ (ts:=[.obj 5 [pa b],.own rk]) rfl ev)) (iy (j:=1) (k:=tk) rfl (sy m1 F1).1 rfl rfl) rfl rfl (sy m1 F1).2 (by omega)) ⟨rfl,bR rfl ?_⟩)))
  obtain⟨a1,a2,a3⟩:=put m1 (!decide (b∈row)) F1 R1;exact⟨rfl,a1,a2,a3⟩
 |false=>
  rw[hg]at Dd;obtain⟨⟨v,m1⟩,ev,hv,R1,F1⟩:=oz n R hr (by omega) ha
  have hv:v=.bl (decide (a∈row)):=hv;subst hv;refine iW rfl (bN (yD ((IF (ky:=.i p) (iy (j:=1) (k:=tk) rfl ht rfl rfl) rfl rfl rfl hu).trans (by rw[Dd]))) ?_)
  cases h1:decide (a∈row)with
  |false=>
   rw[h1]at ev;refine ZD (s':=⟨_,m1⟩) (TV (X3 (cZ (ts:=[.obj 5 [pa a],.own rk]) rfl ev))) (bR rfl ⟨rfl,R1,F1.mono λ_=>.inl,ks,ts,(sy m1 F1).2,?_,oK _⟩);unfold Fc;rw[h1]
   have:vg g p (if false=true then !decide (b∈row)else false)=g:=by
    funext q
    unfold vg;by_cases e:p=q
    ·rw[if_pos e,<- e,hg];rfl
    ·rw[if_neg e]
   rw[this];exact U
  |true=>
   rw[h1]at ev;obtain⟨i,o2⟩:=R1.o;refine XS (s':=⟨_,m1⟩) (pG (X3 (cZ (ts:=[.obj 5 [pa a],.own rk]) rfl ev))) (b7 (W.of (Es (ky:=.i p) (s':=⟨_,m1⟩) (TX (cE (ts:=[.obj 5 [pa b],.int i]) (az rfl (az (iy (j:=1) (k:=rk) rfl o2 rfl rfl) rfl)) (IJ (n+6)))) (iy (j:=1) (k:=tk) rfl (sy m1 F1).1 rfl rfl) rfl rfl (sy m1 F1).2 (by omega)) ⟨rfl,bR rfl ?_⟩))
   obtain⟨a1,a2,a3⟩:=put m1 true F1 R1;refine⟨rfl,a1,a2,?_⟩;unfold Fc;rw[h1];exact a3
end
def PG.vh(P:PG)(row:Bi)(up:Bool):LK->Bool
 |.br=>decide (P.c∈row)
 |_=>up ||decide (P.a∈row)
def PG.Pz(P:PG)(row:Bi)(up:Bool):LK->Bool
 |.br=>up
 |_=>Fc row P.a P.b up
structure TS(row:Bi)(rk tk ub:Nat)(x:T)(g:Int->Bool)(c d:Nat)(m:He):Prop where
 R:RO row rk c m
 t:m[tk]?=some ⟨23,[.val x,.val (.own ub)]⟩
 u:∃ks ts,m[ub]?=some ⟨M.bc,[.od ks ts]⟩/\II g ks ts/\ks.length<=d
def UX(rk ub k:Nat):Prop:=k=rk+1\/k=ub
section
variable{P:PG}{row:Bi}{rk c d tk ub:Nat}{m:He}{x:T}{g:Int->Bool}{p:Int}
def ON(h:g p=b):vg g p b=g:=by
 funext q
 unfold vg;by_cases e:p=q
 ·rw[if_pos e,<- e,h]
 ·rw[if_neg e]
structure Vo(rk tk ub:Nat):Prop where
 h1:tk≠rk+1
 h2:ub≠rk+1
 h3:ub≠rk
 h4:tk≠ub
def uR(o:P.ok)(S':TS row rk tk ub x g c d m)(hr:row.length<=1000)(hc:c<800000)(hd:d<800000)(A:Vo rk tk ub){bh:T} :
  W (cN (n+9) 65 [.own tk,.int p,(IE P.a P.b).val,.own rk,bh] m) λq=>q.1=.bl (g p ||decide (P.a∈row))/\TS row rk tk ub x (vg g p (Fc row P.a P.b (g p))) (c+1) (d+1) q.2/\Fr (UX rk ub) m q.2:=by
 rw[ZF];obtain⟨ks,ts,hu,U,hl⟩:=S'.u;obtain⟨⟨v,m'⟩,ev,hv,R',F',wL,oH,hu',U',sL⟩:=wN n (p:=p) S'.R hr hc o.a o.b A.h1 A.h2 A.h3 S'.t hu U (by omega)
 have hv:v=.bl (g p ||decide (P.a∈row)):=hv;subst hv;exact iW rfl (bN rfl (bY rfl (yz (mE rfl S'.t rfl rfl ev) ⟨rfl,⟨R',F'.get S'.t λz=>z.elim A.h1 A.h4,wL,oH,hu',U',by omega⟩,F'⟩)))
def OO(o:P.ok)(y:LK)(S':TS row rk tk ub x g c d m)(hr:row.length<=1000)(hc:c<800000)(hd:d<800000)(A:Vo rk tk ub){bh:T} :
  W (cN (n+9) 65 [.own tk,.int p,(P.ln y).cond,.own rk,bh] m) λq=>q.1=.bl (P.vh row (g p) y)/\TS row rk tk ub x (vg g p (P.Pz row (g p) y)) (c+1) (d+1) q.2/\Fr (UX rk ub) m q.2:=by
 cases y with
 |br=>
  rw[ZF];refine iW rfl (bN rfl (bN rfl (bN rfl (bN rfl (Tw (Tv (W.of rfl ((oz (n+1) S'.R hr (by omega) o.c).mono λq hq=>?_))))))))
  obtain⟨ks,ts,hu,U,hl⟩:=S'.u;refine⟨hq.1,⟨hq.2.1,hq.2.2.get S'.t A.h1,ks,ts,hq.2.2.get hu A.h2,?_,by omega⟩,hq.2.2.mono λ_=>.inl⟩
  show II (vg g p (g p)) ks ts;rw[ON rfl];exact U
 |pl=>exact uR n o S' hr hc hd A
 |sa=>exact uR n o S' hr hc hd A
def PG.uS(P:PG)(row:Bi):List LK->Int->(Int->Bool)->Int->Bool
 |[],_,g=>g
 |y::ys,p,g=>P.uS row ys (p+1) (vg g p (P.Pz row (g p) y))
def PG.jK(P:PG)(row:Bi):List LK->Int->(Int->Bool)->FC
 |[],_,_=>[]
 |y::ys,p,g=>P.vh row (g p) y::P.jK row ys (p+1) (vg g p (P.Pz row (g p) y))
theorem uT(n:Nat)(o:P.ok)(hr:row.length<=1000)(A:Vo rk tk ub){bh:T}:∀(ys:List LK)(i:Int)(bs:FC)(g:Int->Bool)(c d:Nat)(m:He)(u v:Option C),TS row rk tk ub x g c d m->c+ys.length<800000->d+ys.length<800000->bs.length+ys.length<1000 ->
  W (bZ (gG [4,5]) (iO 3 (av (ak [(23,65)] (cN (n+9))) zA (bH (vF 4) (k3 (vF 5) zB zC)))) (fR i (ys.map λy=>(P.ln y).cond)) ⟨[sv (.own tk),sv (.own rk),sv bh,some (.ol (bs.map T.bl)),u,v],m⟩) λp=>p.1=.nx/\∃u v m',p.2=⟨[sv (.own tk),sv (.own rk),sv bh,some (.ol ((bs++P.jK row ys i g).map T.bl)),u,v],m'⟩/\TS row rk tk ub x (P.uS row ys i g) (c+ys.length) (d+ys.length) m'/\Fr (UX rk ub) m m'
 |[],i,bs,g,c,d,m,u,v,S',_,_,_=>⟨_,rfl,rfl,u,v,m,by rw[PG.jK,dc],S',Fr.refl⟩
 |y::ys,i,bs,g,c,d,m,u,v,S',hc,hd,hb=>by
  rw[eT]at hc hd hb;obtain⟨⟨t,m1⟩,e,h1,h2,h3⟩:=OO n o y (p:=i) (bh:=bh) S' hr (by omega) (by omega) A
  have h1:t=.bl (P.vh row (g i) y):=h1;subst h1;have q:=uT n o hr A (bh:=bh) ys (i+1) (bs++[P.vh row (g i) y]) (vg g i (P.Pz row (g i) y)) (c+1) (d+1) m1 (sv (.int i)) (sv (P.ln y).cond) h2 (by omega) (by omega) (by simp;omega)
  rw[jv]at q;refine fX rfl (W.of (As (KZ:=bs.map T.bl) (ts:=bs.map T.bl) rfl (mE rfl S'.t rfl rfl e) rfl (by rw[b_];omega)) ⟨rfl,q.mono λp hp=>⟨hp.1,?_⟩⟩)
  obtain⟨_,u',v',m',q2,q3,q4⟩:=hp;exact⟨u',v',m',by rw[q2,PG.jK,gQ];rfl,by rw[eT,show c+(ys.length+1)=c+1+ys.length by omega,show d+(ys.length+1)=d+1+ys.length by omega];exact q3,h3.trans q4⟩
def PG.two(P:PG)(up:Bool)(g:Int->Bool):Prop:=if P.rv then g 2=up/\g 3=up else g 0=up/\g 1=up
abbrev PG.jq(P:PG):FV:=P.ks.map λy=>(P.ln y).cond
abbrev PG.jQ(P:PG)(row:Bi)(up:Bool):FC:=P.ks.map (P.vh row up)
def IK{up:Bool}(h:P.two up g):P.jK row P.ks 0 g=P.jQ row up/\P.two (Fc row P.a P.b up) (P.uS row P.ks 0 g):=by
 unfold PG.two at h;unfold PG.jQ PG.ks PG.two;cases e:P.rv
 ·rw[e,if_neg fL]at h
  obtain⟨rfl,h1⟩:=h;rw[if_neg fL,if_neg fL];simp[PG.jK,PG.uS,PG.vh,PG.Pz,vg,h1]
 ·rw[e,if_pos rfl]at h
  obtain⟨rfl,h1⟩:=h;rw[if_pos rfl,if_pos rfl];simp[PG.jK,PG.uS,PG.vh,PG.Pz,vg,h1]
def Uc(o:P.ok){up:Bool}(hr:row.length<=1000)(A:Vo rk tk ub)(S':TS row rk tk ub (.lst P.jq) g 0 d m)(hg:P.two up g)(hd:d+4<800000){bh:T} :
  W (cN (n+10) 64 [.own tk,.own rk,bh] m) λp=>p.1=.lst ((P.jQ row up).map T.bl)/\(∃g',P.two (Fc row P.a P.b up) g'/\TS row rk tk ub (.lst P.jq) g' 4 (d+4) p.2)/\Fr (UX rk ub) m p.2:=by
 rw[w64];have hl:P.ks.length=4:=by unfold PG.ks;cases P.rv<;>rfl
 have q:=uT n o hr A (bh:=bh) P.ks 0 [] g 0 d m none none S' (by omega) (by omega) (by rw[hl];decide)
 rw[hl]at q;obtain⟨h1,h2⟩:=IK (row:=row) hg;refine iW rfl (b7 (W.of rfl ⟨rfl,b7 (fF (W.of (a:=(fR 0 P.jq,(⟨[sv (.own tk),sv (.own rk),sv bh,some (.ol []),none,none],m⟩:S))) ?_ (q.mono λp hp=>⟨hp.1,?_⟩)))⟩))
 ·unfold jl
  rw[iy (k:=tk) (s1:=⟨[sv (.own tk),sv (.own rk),sv bh,some (.ol []),none,none],m⟩) (j:=0) rfl S'.t rfl rfl];rfl
 ·obtain⟨_,u,v,m',e,k1,k2⟩:=hp
  rw[e,h1];exact yz rfl ⟨rfl,⟨_,h2,k1⟩,k2⟩
end
def Ud:T->FV
 |.tup (.str nm::ys)=>if nm=zg then ys.take 1 else[]
 |_=>[]
def ZT(e:T):Prop:=∃nm ys,e=.tup (.str nm::ys)/\(nm=zg->∃x,ys=[x])
def eqS(a b:Bi):aM .Eq (.str a) (.str b)=some (.bl (decide (a=b))):=rfl
theorem uU:∀(log:FV)(m:He),(∀e∈log,ZT e)->dw (setG 1) (bu (oE (oI zB zO) (cS zg))) (oI zB zI) [none,none] log m=.ok (log.flatMap Ud,m)
 |[],_,_=>rfl
 |e::log,m,h=>by
  obtain⟨nm,ys,rfl,hg⟩:=h e (fY ..);have ih:=uU log m λe he=>h e (bW _ he);have c:bu (oE (oI zB zO) (cS zg)) ⟨[none,sv (.tup (.str nm::ys))],m⟩=.ok (decide (nm=zg),⟨[none,sv (.tup (.str nm::ys))],m⟩):=by
   have e0:jf (.tup (.str nm::ys)) (.int 0)=some (.str nm):=by
    show atT (T.str nm::ys) (((0:Nat)):Int)=_;rw[ib (by simp)];rfl
   have e2:oE (oI zB zO) (cS zg) ⟨[none,sv (.tup (.str nm::ys))],m⟩=.ok (.bl (decide (nm=zg)),⟨[none,sv (.tup (.str nm::ys))],m⟩):=aD (aD (t:=.tup (.str nm::ys)) (u:=.int 0) rfl rfl e0) rfl (eqS _ _);unfold bu;rw[e2];rfl
  rw[dw];refine Eq.trans (bo _ _) ?_;show Res.bind (bu _ ⟨[none,sv (.tup (.str nm::ys))],m⟩) _=_;rw[c];refine Eq.trans (bo _ _) ?_;rw[List.flatMap_cons];by_cases hn:nm=zg
  ·obtain⟨x,rfl⟩:=hg hn
   have e1:oI zB zI ⟨[none,sv (.tup [.str nm,x])],m⟩=.ok (x,⟨[none,sv (.tup [.str nm,x])],m⟩):=by
    refine aD (t:=.tup [.str nm,x]) (u:=.int 1) rfl rfl ?_;show atT [T.str nm,x] (((1:Nat)):Int)=_;rw[ib (by simp)];rfl
   dsimp only;rw[decide_eq_true hn,if_pos rfl,e1];refine Eq.trans (bo _ _) ?_;dsimp only;rw[ih];show Res.ok (x::log.flatMap Ud,m)=Res.ok ((if nm=zg then[x].take 1 else[])++log.flatMap Ud,m)
   rw[if_pos hn];rfl
  ·dsimp only
   rw[decide_eq_false hn,if_neg fL,ih];show _=Res.ok ((if nm=zg then ys.take 1 else[])++log.flatMap Ud,m)
   rw[if_neg hn];rfl
structure GV(log:FV)(rows:Ap):Prop where
 ok:∀e∈log,ZT e
 gv:log.flatMap Ud=rows.map T.str
section
variable{log ys:FV}{rows:Ap}{x nm:Bi}{i j:Int}
def OP(h:nm≠zg)(G:GV log rows):GV (log++[.tup (.str nm::ys)]) rows:=⟨λe he=>by
 rcases sF.mp he with he|he
 ·exact G.ok e he
 ·rw[iu.mp he];exact⟨nm,ys,rfl,λz=>absurd z h⟩,by
 rw[JG,G.gv];show _++((if nm=zg then ys.take 1 else[])++[])=_
 rw[if_neg h,dc,dc]⟩
def X5(G:GV log rows):GV (log++[yM (.str x)]) (rows++[x]):=⟨λe he=>by
 rcases sF.mp he with he|he
 ·exact G.ok e he
 ·rw[iu.mp he];exact⟨_,_,rfl,λ_=>⟨_,rfl⟩⟩,by
 rw[JG,G.gv,jv];rfl⟩
end
def hT(x:Bi):T:=.tup [.str x,.int 1]
def OQ(heap:Ap)(ks:List Ky)(ts:FV):Prop:=(ks=[]/\ts=[]/\heap=[])\/(ks=[.s aS]/\ts=[.lst (heap.map hT)])
def OQ.get{heap:Ap}{ks:List Ky}{ts:FV}(h:OQ heap ks ts):(dG ks ts (.s aS)).getD (.lst [])=.lst (heap.map hT):=by
 rcases h with⟨rfl,rfl,rfl⟩|⟨rfl,rfl⟩
 ·rfl
 ·rw[dG,if_pos rfl];rfl
def OQ.put{heap:Ap}{ks:List Ky}{ts:FV}(h:OQ heap ks ts)(u:T):bQ ks ts (.s aS) u=([.s aS],[u]):=by
 rcases h with⟨rfl,rfl,rfl⟩|⟨rfl,rfl⟩
 ·rfl
 ·unfold bQ
  rw[if_pos (iu.mpr rfl)];show([Ky.s aS],[if Ky.s aS=Ky.s aS then u else _])=_
  rw[if_pos rfl]
def OQ.len{heap:Ap}{ks:List Ky}{ts:FV}(h:OQ heap ks ts):ks.length<=1:=by
 rcases h with⟨rfl,rfl,rfl⟩|⟨rfl,rfl⟩
 ·exact jb _
 ·exact bV _
structure WH(m:He)(w:Nat)(v:WV)(gv heap:Ap)(lc:Nat):Prop where
 S:∃log,WS m w v log/\GV log gv/\log.length<=lc
 sh:∃ks ts,m[v.sh]?=some ⟨M.bc,[.od ks ts]⟩/\OQ heap ks ts
 n1:v.sh≠w
 n2:v.sh≠v.lg
def WZ(w:Nat)(v:WV)(k:Nat):Prop:=k=w\/k=v.lg\/k=v.sh
def WX.wz{w:Nat}{v:WV}:∀k,WX w v k->WZ w v k:=λ_ z=>z.elim .inl λz=>.inr (.inl z)
def gJ(mo:Option (Bi×Int))(heap:Ap)(x:Bi):Ap:=match mo with
 |none=>heap++[x]
 |some (_,v)=>(heap++[x]).drop (((heap++[x]).length:Int)-v).toNat
def Et{α:Type}{l:List α}{v:Int}(h:1<=v):cA l (some (-v)) none=l.drop ((l.length:Int)-v).toNat:=by
 have e:gK l.length 0 (some (-v))=((l.length:Int)-v).toNat:=by
  show(if -v<0 then(-v+(l.length:Int)).toNat else _)=_
  rw[if_pos (by omega),show -v+(l.length:Int)=(l.length:Int)-v by omega]
 unfold cA;rw[e];exact xf (by rw[vn];exact bV _)
def uV{a b:FV}(h:a.length+b.length<=1000000):dP .Add (.lst a) (.lst b)=some (.lst (a++b)):=lu h
def PG.X6(P:PG)(heap:Ap):LK->Ap
 |.pl=>[]
 |.sa=>[Py]
 |.br=>heap
def PG.X7(P:PG)(heap:Ap)(x:Bi):LK->Ap
 |.pl=>gJ P.mo heap x
 |.sa=>heap
 |.br=>[]
section
variable{P:PG}{m:He}{w lc:Nat}{v v':WV}{log:FV}{gv heap:Ap}{x:Bi}{t u:T}
def wQ(S':WS m w v log)(hl:log.length+1<900000):W (cN (n+2) 80 [.own w,.obj 14 [t]] m) (WR w v v (log++[yM t]) m):=by
 rw[ZJ];exact c6 rfl (f9 rfl (ji (r:=[sv (.obj 14 [t])]) (ts:=[t]) S' rfl (rY n S' hl) λ_ m1 h=>⟨rfl,rfl,h.2⟩))
def X8{c:FT}{a b:FE}{s s1:S}{q:Res (T×S)}(h:c s=.ok (false,s1))(k:b s1=q):xH c a b s=q:=by unfold xH;rw[h];exact k
def WH.grow{m':He}{IL:FV}{Fd:Ap}{AN:Nat}(H:WH m w v gv heap lc)(S':WS m' w v IL)(G:GV IL Fd)(hl:IL.length<=AN)(F:Fr (WX w v) m m'):WH m' w v Fd heap AN:=by
 obtain⟨ks,ts,h,h2⟩:=H.sh;exact⟨⟨IL,S',G,hl⟩,⟨ks,ts,F.get h λz=>z.elim H.n1 H.n2,h2⟩,H.n1,H.n2⟩
def WH.put(H:WH m w v gv heap lc)(heap':Ap):WH (m.set v.sh ⟨M.bc,[.od [.s aS] [.lst (heap'.map hT)]]⟩) w v gv heap' lc:=by
 obtain⟨log,S',G,hl⟩:=H.S;obtain⟨ks,ts,h,h2⟩:=H.sh;exact⟨⟨log,⟨by rw[cT H.n1];exact S'.o,by rw[cT H.n2];exact S'.l,S'.ne,S'.o_⟩,G,hl⟩,⟨_,_,cj (c_.mp h).1,.inr ⟨rfl,rfl⟩⟩,H.n1,H.n2⟩
theorem uW(n:Nat){d:T}:∀(l:Ap){m:He}{gv:Ap}{lc:Nat}{y:Option C},WH m w v gv heap lc->lc+l.length<800000 ->
  W (bZ (setG 2) (aK (av (ak [(24,76)] (cN (n+1))) zA (k1 (oI zC zO)))) (l.map hT) ⟨sv (.own w)::[sv d,y],m⟩) λp=>p.1=.nx/\∃y m',p.2=⟨sv (.own w)::[sv d,y],m'⟩/\WH m' w v (gv++l) heap (lc+l.length)/\Fr (WX w v) m m'
 |[],m,gv,lc,y,H,hl=>⟨_,rfl,rfl,y,m,rfl,by rw[dc];exact H,Fr.refl⟩
 |x::l,m,gv,lc,y,H,hl=>by
  rw[eT]at hl;obtain⟨log,S',G,hg⟩:=H.S;refine fX (r:=sv (.own w)::[sv d,sv (hT x)]) rfl (ji (r:=[sv d,sv (hT x)]) (ts:=[.str x]) S' (az (aD (t:=hT x) (u:=.int 0) rfl rfl rfl) rfl) (rY n S' (by omega)) λ_ m1 h=>⟨rfl,?_⟩)
  have H1:WH m1 w v (gv++[x]) heap (lc+1):=H.grow h.2.1 (X5 G) (by rw[dg];show _+1<=_;omega) h.2.2
  refine(uW n l (y:=sv (hT x)) H1 (by omega)).mono λp hp=>⟨hp.1,?_⟩
  obtain⟨_,y',m',e,h1,h2⟩:=hp;refine⟨y',m',e,?_,h.2.2.trans h2⟩;rw[Bt,eT,show lc+(l.length+1)=lc+1+l.length by omega];exact h1
def Eu(H:WH m w v gv heap lc)(hl:lc+heap.length<800000):W (cN (n+2) 82 [.own w,DD.bring.val] m) λp=>p.1=.non/\WH p.2 w v (gv++heap) [] (lc+heap.length)/\Fr (WZ w v) m p.2:=by
 rw[w82];obtain⟨log,S',G,hg⟩:=H.S;obtain⟨ks,ts,h,h2⟩:=H.sh;refine c6 rfl (dJ (fF (W.of (Oz (t:=.lst (heap.map hT)) ((IF (u:=.lst []) (ky:=.s aS) (w_fld (r:=[sv DD.bring.val,none]) S' (j:=9) rfl rfl) rfl rfl rfl h).trans (by rw[h2.get];rfl)) rfl) ((uW n heap (d:=DD.bring.val) (y:=none) H hl).mono λp hp=>⟨hp.1,?_⟩))))
 obtain⟨_,y',m',e,H1,F1⟩:=hp;rw[e];obtain⟨X_,S1,G1,hg1⟩:=H1.S;obtain⟨ZU,KS,h1,h3⟩:=H1.sh;have el:=h3.len;have e2:=Es (a:=bz dj ba) (o:=au M.P.tab 26 zA) (b:=au M.P.tab 13 zB) (s:=⟨sv (.own w)::[sv DD.bring.val,y'],m'⟩) (s':=⟨sv (.own w)::[sv DD.bring.val,y'],m'⟩) (u:=.lst []) (t:=.str aS) (ky:=.s aS) rfl (w_fld S1 (j:=9) rfl rfl) rfl rfl h1 (by omega)
 rw[h3.put]at e2;exact W.of e2 ⟨rfl,rfl,H1.put [],(F1.mono WX.wz).trans (Fr.set (.inr (.inr rfl)))⟩
def IM(o:P.ok)(H:WH m w v gv heap lc)(hh:v.hand=.str x)(hr:v.hr=1)(hl:heap.length<800000):W (cN (n+1) 81 [.own w,(DD.pile P.mo).val] m) λp=>p.1=.non/\WH p.2 w v gv (gJ P.mo heap x) lc/\Fr (WZ w v) m p.2:=by
 rw[w81];obtain⟨log,S',G,hg⟩:=H.S;obtain⟨ks,ts,h,h2⟩:=H.sh;have el:=h2.len;have om:=o.m;have eS:∀d:T,(∃y,d=.obj 17 [.str aS,y])->oA (rJ M.bc (au M.P.tab 26 zA) (au M.P.tab 13 zB) (bz dj ba)) (bz dj (k1 (bz gq (k2 (au M.P.tab 24 zA) (au M.P.tab 25 zA))))) ⟨sv (.own w)::[sv d,none],m⟩=.ok (.lst ((heap++[x]).map hT),⟨sv (.own w)::[sv d,none],m⟩):=by
  rintro d ⟨y,rfl⟩
  rw[jv];refine aD (t:=.lst (heap.map hT)) (u:=.lst [hT x]) ((IF (u:=.lst []) (ky:=.s aS) (w_fld S' (j:=9) rfl rfl) rfl rfl rfl h).trans (by rw[h2.get])) (dW (ts:=[hT x]) (az (dW (ts:=[.str x,.int 1]) (az (by rw[<- hh];exact w_fld S' (j:=7) rfl rfl) (az (by rw[<- hr];exact w_fld S' (j:=8) rfl rfl) rfl)) rfl) rfl) rfl) (uV (by rw[b_];show _+1<=_;omega))
 have fin:∀(d:T)(heap':Ap)(a:FE),(∃y,d=.obj 17 [.str aS,y])->a ⟨sv (.own w)::[sv d,sv (.lst ((heap++[x]).map hT))],m⟩=.ok (.lst (heap'.map hT),⟨sv (.own w)::[sv d,sv (.lst ((heap++[x]).map hT))],m⟩)->W (dI M.bc (au M.P.tab 26 zA) (au M.P.tab 13 zB) a ⟨sv (.own w)::[sv d,sv (.lst ((heap++[x]).map hT))],m⟩) λp=>p.1=.nx/\(.non:T)=.non/\WH p.2.m w v gv heap' lc/\Fr (WZ w v) m p.2.m:=by
  rintro d heap' a ⟨y,rfl⟩ ha
  have e2:=Es (o:=au M.P.tab 26 zA) (b:=au M.P.tab 13 zB) (t:=.str aS) (ky:=.s aS) ha (w_fld S' (j:=9) rfl rfl) rfl rfl h (by omega)
  rw[h2.put]at e2;exact W.of e2 ⟨rfl,rfl,H.put heap',Fr.set (.inr (.inr rfl))⟩
 cases hm:P.mo with
 |none=>exact c6 rfl (wS (eS _ ⟨_,rfl⟩) (fin _ (heap++[x]) _ ⟨_,rfl⟩ rfl))
 |some q=>
  obtain⟨d,k⟩:=q;rw[hm]at om;have hk:1<=k:=om.2.1;refine c6 rfl (wS (eS _ ⟨_,rfl⟩) (fin _ (gJ (some (d,k)) heap x) _ ⟨_,rfl⟩ ?_));have e:AK (some (-k)) none (.lst ((heap++[x]).map hT))=some (.lst ((gJ (some (d,k)) heap x).map hT)):=by
   show some (T.lst (cA _ (some (-k)) none))=_;rw[Et hk,b_,<- Bl];rfl
  exact X8 (gz (b:=false) (aD (t:=.int k) (u:=.non) rfl rfl rfl)) (Vm (t:=.lst ((heap++[x]).map hT)) (x:=some (-k)) (y:=none) rfl rfl rfl e)
def Ue(o:P.ok)(k:LK)(H:WH m w v gv heap lc)(hh:v.hand=.str x)(hr:v.hr=1)(hl:lc+heap.length<800000):W (cN (n+4) 79 [.own w,(P.ln k).kP,u] m) λp=>p.1=.non/\WH p.2 w v (gv++P.X6 heap k) (P.X7 heap x k) (lc+heap.length+1)/\Fr (WZ w v) m p.2:=by
 obtain⟨log,S',G,hg⟩:=H.S;have up:∀{m' Fd heap' AN},WH m' w v Fd heap' AN->AN<=lc+heap.length+1->WH m' w v Fd heap' (lc+heap.length+1):=λH' hz=>by
  obtain⟨l,a,b,c⟩:=H'.S;exact⟨⟨l,a,b,by omega⟩,H'.sh,H'.n1,H'.n2⟩
 rw[w79];cases k with
 |pl=>
  have e:=IM (n+2) o H hh hr (by omega)
  have:gv++P.X6 heap .pl=gv:=dc _
  rw[this];show W (ZI _ [.own w,(DD.pile P.mo).val,u] m) _;cases hm:P.mo with
  |none=>
   rw[hm]at e;exact c6 rfl (bw rfl (bw rfl (bw rfl (bw rfl (bw rfl (f9 rfl (ji (r:=[sv (DD.pile none).val,sv u]) (ts:=[(DD.pile none).val]) S' rfl e λ_ m1 h=>⟨rfl,rfl,by show WH m1 w v gv (gJ P.mo heap x) _;rw[hm];exact up h.2.1 (by omega),h.2.2⟩)))))))
  |some q=>
   rw[hm]at e;exact c6 rfl (bw rfl (bw rfl (bw rfl (bw rfl (bw rfl (f9 rfl (ji (r:=[sv (DD.pile (some q)).val,sv u]) (ts:=[(DD.pile (some q)).val]) S' rfl e λ_ m1 h=>⟨rfl,rfl,by show WH m1 w v gv (gJ P.mo heap x) _;rw[hm];exact up h.2.1 (by omega),h.2.2⟩)))))))
 |sa=>exact c6 rfl (bw rfl (bw rfl (bw rfl (bw rfl (bw rfl (bw rfl (bw rfl (bw rfl (f9 rfl (ji (r:=[sv (DD.say Py).val,sv u]) (ts:=[(DD.say Py).val]) S' rfl (wQ (n+1) S' (by omega)) λ_ m1 h=>⟨rfl,rfl,up (H.grow h.2.1 (X5 G) (by rw[dg];show _+1<=lc+1;omega) h.2.2) (by omega),h.2.2.mono WX.wz⟩))))))))))
 |br=>
  have e:W (cN (n+3) 80 [.own w,DD.bring.val] m) λp=>p.1=.non/\WH p.2 w v (gv++heap) [] (lc+heap.length)/\Fr (WZ w v) m p.2:=by
   rw[ZJ];exact c6 rfl (bw rfl (f9 rfl (ji (r:=[sv DD.bring.val]) (ts:=[DD.bring.val]) S' rfl (Eu n H hl) λ_ m1 h=>⟨rfl,rfl,h.2⟩)))
  exact c6 rfl (bw rfl (bw rfl (bw rfl (bw rfl (bw rfl (bw rfl (bw rfl (bw rfl (f9 rfl (ji (r:=[sv DD.bring.val,sv u]) (ts:=[DD.bring.val]) S' rfl e λ_ m1 h=>⟨rfl,rfl,up h.2.1 (by omega),h.2.2⟩))))))))))
end
abbrev Ug(i:Int)(b:Bool):T:=.tup [.str [109,101,101,116],.int i,.bl b]
abbrev RH:=Ap×Ap
def PG.st(P:PG)(x:Bi)(q:RH)(kb:LK×Bool):RH:=if kb.2 then(q.1++P.X6 q.2 kb.1,P.X7 q.2 x kb.1)else q
def WQ(w:Nat)(v:WV)(k:Nat):Prop:=k=v.mt\/WZ w v k
section
variable{P:PG}{m m1 m':He}{w lc AN f:Nat}{v v':WV}{log ts:FV}{gv Fd heap:Ap}{x:Bi}{t u:T}{ks:List Ky}{r:FK}{a:FE}
def Ew(k:LK):gM M.P.sub [9] (P.ln k).cond=some (.bl false):=by cases k<;>rfl
def WH.up(H:WH m w v gv heap lc)(h:lc<=AN):WH m w v gv heap AN:=by
 obtain⟨l,a,b,c⟩:=H.S;exact⟨⟨l,a,b,fK c h⟩,H.sh,H.n1,H.n2⟩
def WH.fr{X:Nat->Prop}(H:WH m w v gv heap lc)(F:Fr X m m')(h:∀k,WZ w v k->¬ X k):WH m' w v gv heap lc:=by
 obtain⟨log,S',G,hl⟩:=H.S;obtain⟨ks,ts,a,b⟩:=H.sh;exact⟨⟨log,⟨F.get S'.o (h _ (.inl rfl)),F.get S'.l (h _ (.inr (.inl rfl))),S'.ne,S'.o_⟩,G,hl⟩,⟨ks,ts,F.get a (h _ (.inr (.inr rfl))),b⟩,H.n1,H.n2⟩
def WH.of(H:WH m w v gv heap lc)(S1:WS m1 w v' log)(G:GV log Fd)(hl:log.length<=AN)(F:Fr (WX w v) m m1)(hs:v'.sh=v.sh)(hg:v'.lg=v.lg):WH m1 w v' Fd heap AN:=by
 obtain⟨ks,ts,h,h2⟩:=H.sh;exact⟨⟨log,S1,G,hl⟩,⟨ks,ts,by rw[hs];exact F.get h λz=>z.elim H.n1 H.n2,h2⟩,by rw[hs];exact H.n1,by rw[hs,hg];exact H.n2⟩
def Ex{mo:Option (Bi×Int)}:(gJ mo heap x).length<=heap.length+1:=by
 cases mo with
 |none=>exact zc (by rw[gJ,dg];rfl)
 |some q=>
  rw[gJ,vn,dg];show heap.length+1-_<=_;omega
def r8{q:RH}{kb:LK×Bool}:(P.st x q kb).2.length<=q.2.length+1:=by
 unfold PG.st;split
 ·cases kb.1
  ·exact Ex
  ·exact oK _
  ·exact jb _
 ·exact oK _
def IP(o:P.ok)(k:LK){num:Int}{tr:FV}{b:Bool}(H:WH m w v gv heap lc)(hh:v.hand=.str x)(hr:v.hr=1)(hm:m[v.mt]?=some ⟨M.bc,[.od ks ts]⟩)(nz:¬ WZ w v v.mt)(hk:Ky.i num∉ks)(hs:ks.length<1000000)(ht:v.tr=.lst tr)(hi:GH (.lst tr) (.int (num-1))=some (.bl b))(hl:lc+heap.length+5<800000) :
  W (cN (n+5) 72 [.own w,(P.ln k).val,.int num] m) λp=>p.1=.non/\WH p.2 w v (P.st x (gv,heap) (k,b)).1 (P.st x (gv,heap) (k,b)).2 (lc+heap.length+2)/\p.2[v.mt]?=some ⟨M.bc,[.od (ks++[.i num]) (ts++[.bl true])]⟩/\Fr (WQ w v) m p.2:=by
 rw[w72];obtain⟨m0,h0⟩:∃m0,m0=m.set v.mt ⟨M.bc,[.od (ks++[.i num]) (ts++[.bl true])]⟩:=⟨_,rfl⟩;have F:Fr (λj=>j=v.mt) m m0:=by rw[h0];exact Fr.set rfl
 have H1:WH m0 w v gv heap lc:=H.fr F λj hj z=>nz (by have z:j=v.mt:=z;rw[<- z];exact hj)
 have R3:m0[v.mt]?=some ⟨M.bc,[.od (ks++[.i num]) (ts++[.bl true])]⟩:=by rw[h0];exact cj (c_.mp hm).1
 have F':Fr (WQ w v) m m0:=F.mono λ_=>.inl;have keep:∀{m1},Fr (WZ w v) m0 m1->m1[v.mt]?=some ⟨M.bc,[.od (ks++[.i num]) (ts++[.bl true])]⟩:=λG=>G.get R3 nz;obtain⟨log,S',G,hg⟩:=H.S;obtain⟨X_,S1,G1,hg1⟩:=H1.S;refine c6 rfl (dJ (bw (jJ (t:=(P.ln k).cond) rfl (Ew k)) ⟨_,rfl,rfl,dJ (bw ((OI (neg:=false) (ky:=.i num) rfl (w_fld S' (j:=5) rfl rfl) rfl hm).trans (by rw[if_neg fL,decide_eq_false hk])) ⟨_,rfl,rfl,dJ (W.of (Ua (ky:=.i num) rfl (w_fld S' (j:=5) rfl rfl) rfl rfl hm hk hs) ⟨rfl,?_⟩)⟩)⟩))
 show W (af _ _ ⟨sv (.own w)::[sv (P.ln k).val,sv (.int num),none],m.set v.mt ⟨M.bc,[.od (ks++[.i num]) (ts++[.bl true])]⟩⟩) _;rw[<- h0];refine wS (aD (t:=.lst tr) (u:=.int (num-1)) (by rw[<- ht];exact w_fld S1 (j:=3) rfl rfl) rfl hi) ?_
 show W (af _ _ ⟨sv (.own w)::[sv (P.ln k).val,sv (.int num),sv (.bl b)],m0⟩) _;refine Iv (t:=Ug num b) S1 (by omega) rfl λm1 S2 F1=>?_
 have H2:WH m1 w v gv heap (lc+1):=H1.grow S2 (OP (by decide) G1) (by rw[dg];show _+1<=_;omega) F1
 have F2:Fr (WZ w v) m0 m1:=F1.mono WX.wz;cases b with
 |false=>exact bw rfl ⟨_,rfl,rfl,rfl,H2.up (by omega),keep F2,F'.trans (F2.mono λ_=>.inr)⟩
 |true=>exact f9 rfl (ji (ts:=[(P.ln k).kP,.int num]) S2 rfl (Ue n o k H2 hh hr (by omega)) λ_ m2 h=>⟨rfl,rfl,h.2.1.up (by omega),keep (F2.trans h.2.2),F'.trans ((F2.trans h.2.2).mono λ_=>.inr)⟩)
def ZV{l:FV}{p:Nat}(h:p<l.length):GH (.lst l) (.int (p:Int))=some l[p]:=by
 show atT l (p:Int)=_;rw[ib h,fj h]
abbrev PG.iX(P:PG):FV:=P.ks.map λk=>(P.ln k).val
def Uh(o:P.ok){bs:FC}{p:Nat}(H:WH m w v gv heap lc)(hh:v.hand=.str x)(hr:v.hr=1)(hm:m[v.mt]?=some ⟨M.bc,[.od ks ts]⟩)(nz:¬ WZ w v v.mt)(hv:v.lines=P.iX)(ht:v.tr=.lst (bs.map T.bl))(hb:bs.length=P.ks.length)(hp:p<P.ks.length)(yP:v.ps=(p:Nat))(hk:Ky.i ((p:Nat)+1)∉ks)(hs:ks.length<1000000)(hl:lc+heap.length+5<800000) :
  W (cN (n+6) 71 [.own w] m) λq=>q.1=.non/\WH q.2 w {v with ps:=(p:Nat)+1} (P.st x (gv,heap) (P.ks[p],bs[p]'(by omega))).1 (P.st x (gv,heap) (P.ks[p],bs[p]'(by omega))).2 (lc+heap.length+2)/\q.2[v.mt]?=some ⟨M.bc,[.od (ks++[.i ((p:Nat)+1)]) (ts++[.bl true])]⟩/\Fr (WQ w v) m q.2:=by
 rw[ZH];have ZW:p<bs.length:=by omega
 obtain⟨log,S',G,hg⟩:=H.S;have e0:cD [.lst P.iX]=some (.int P.ks.length):=by
  show some (T.int P.iX.length)=_;rw[b_]
 have hi:∀{α:Type}(g:α->T){y:List α}(h:p<y.length),GH (.lst (y.map g)) (.int ((p:Int)+1-1))=some (g y[p]):=λg y h=>by
  rw[show(p:Int)+1-1=(p:Int) by omega,ZV (by rw[b_];exact h),JH]
 refine c6 rfl (bw (gz (aD (t:=.int p) (by rw[<- yP];exact w_fld S' (j:=4) rfl rfl) (dW (ts:=[.lst P.iX]) (az (by rw[<- hv];exact w_fld S' (j:=0) rfl rfl) rfl) e0) (by rw[uN,decide_eq_false (by omega)]))) (OM (r:=[]) S' {v with ps:=(p:Nat)+1} rfl (j:=4) (i:=(p:Nat)) rfl (by rw[<- yP];rfl) rfl λm1 S1 F1=>?_))
 have H1:WH m1 w {v with ps:=(p:Nat)+1} gv heap lc:=H.of S1 G hg F1 rfl rfl
 refine ji (ts:=[(P.ln P.ks[p]).val,.int ((p:Nat)+1)]) S1 (az (aD (t:=.lst P.iX) (by rw[<- hv];exact w_fld S1 (j:=0) rfl rfl) (aD (t:=.int ((p:Nat)+1)) (w_fld S1 (j:=4) rfl rfl) rfl rfl) (hi (λk=>(P.ln k).val) hp)) (az (w_fld S1 (j:=4) rfl rfl) rfl)) (IP n o P.ks[p] (num:=(p:Nat)+1) (b:=bs[p]) H1 hh hr (F1.get hm λz=>nz (WX.wz _ z)) nz hk hs ht (hi T.bl ZW) hl) λ_ m2 h=>⟨rfl,rfl,h.2.1,h.2.2.1,(F1.mono λj hj=>.inr (WX.wz j hj)).trans ⟨h.2.2.2.le,λk hk x=>h.2.2.2.at_ k hk x⟩⟩
end
section
variable{P:PG}{m m1 m':He}{w lc AN f:Nat}{v v':WV}{log:FV}{gv Fd heap:Ap}{x:Bi}{t u:T}{r:FK}{a:FE}{bs:FC}
abbrev WV.rest(v:WV):WV:={v with hand:=.non,hr:=0,ps:=0,wt:=true}
def OR(S':WS m w v log)(hv:v.lines=P.iX)(yP:v.ps=(P.ks.length:Nat))(hl:log.length+3<900000):W (cN (n+6) 71 [.own w] m) (WR w v v.rest (log++[yM v.hand]++[yL]++[dC v.tk]) m):=by
 rw[ZH];exact c6 rfl (f9 (gz (aD (t:=.int P.ks.length) (u:=.int P.ks.length) (by rw[<- yP];exact w_fld S' (j:=4) rfl rfl) (dW (ts:=[.lst P.iX]) (az (by rw[<- hv];exact w_fld S' (j:=0) rfl rfl) rfl) (by show some (T.int P.iX.length)=_;rw[b_])) (by rw[uN,decide_eq_true rfl]))) (ji (r:=[]) S' rfl (ID (n+2) S' hl) λ_ m1 h=>⟨rfl,rfl,h.2⟩))
def Ey(S':WS m w v log):dH (D.tB (au M.P.tab 30 zA)) ⟨sv (.own w)::r,m⟩=.ok (!v.wt,⟨sv (.own w)::r,m⟩):=by
 unfold dH D.tB;rw[w_fld S' (j:=13) (t:=.bl v.wt) rfl rfl];rfl
theorem yQ(n:Nat)(o:P.ok)(hb:bs.length=P.ks.length):∀(d:Nat){m:He}{v:WV}{gv heap:Ap}{lc:Nat}{ks:List Ky}{ts:FV}{p e:Nat},p+d=P.ks.length->WH m w v gv heap lc->v.hand=.str x->v.hr=1->m[v.mt]?=some ⟨M.bc,[.od ks ts]⟩->¬ WZ w v v.mt->v.lines=P.iX->v.tr=.lst (bs.map T.bl)->v.wt=false->v.ps=(p:Nat)->(∀q:Nat,p<q->Ky.i (q:Nat)∉ks)->ks.length<=p->heap.length+d<=1000->lc+1010*d+1010<800000 ->
  W (dN (dH (D.tB (au M.P.tab 30 zA))) (aK (av (ak [(24,71)] (cN (n+6))) zA ba)) (e+d+2) ⟨sv (.own w)::r,m⟩) λq=>q.1=.nx/\q.2.r=sv (.own w)::r/\WH q.2.m w v.rest ((((P.ks.zip bs).drop p).foldl (P.st x) (gv,heap)).1++[x]) (((P.ks.zip bs).drop p).foldl (P.st x) (gv,heap)).2 (lc+1010*d+1010)/\Fr (WQ w v) m q.2.m
 |0,m,v,gv,heap,lc,ks,ts,p,e,hd,H,hh,hr,hm,nz,hv,ht,hw,yP,hk,OS,hp,hl=>by
  obtain⟨log,S',G,hg⟩:=H.S;have c:=Ey (r:=r) S';rw[hw]at c;refine nZ c (ji S' rfl (OR n S' hv (by rw[yP];omega) (by omega)) λ_ m1 h=>⟨rfl,D5 (Ey h.2.1) ⟨rfl,rfl,?_,h.2.2.mono λj hj=>.inr (WX.wz j hj)⟩⟩)
  rw[JI (by rw[oO];omega)]
  refine H.of h.2.1 ?_ (by simp;omega) h.2.2 rfl rfl
  rw[hh];exact OP (by decide) (OP (by decide) (X5 G))
 |d+1,m,v,gv,heap,lc,ks,ts,p,e,hd,H,hh,hr,hm,nz,hv,ht,hw,yP,hk,OS,SW,hl=>by
  have hp:p<P.ks.length:=by omega
  have ZW:p<bs.length:=by omega
  have h4:P.ks.length=4:=by unfold PG.ks;split<;>rfl
  obtain⟨log,S',G,hg⟩:=H.S;have c:=Ey (r:=r) S';rw[hw]at c;have sl:=r8 (P:=P) (x:=x) (q:=(gv,heap)) (kb:=(P.ks[p],bs[p]));refine nZ (k:=e+d+2) c (ji S' rfl (Uh n o H hh hr hm nz hv ht hb hp yP (hk (p+1) (vj p)) (by omega) (by omega)) λ_ m1 h=>⟨rfl,(yQ n o hb d (p:=p+1) (e:=e) (by omega) h.2.1 hh hr h.2.2.1 nz hv ht hw (by show(p:Int)+1=_;omega) (λq hq z=>?_) (by rw[dg];show _+1<=_;omega) (by have sl:_<=heap.length+1:=sl;omega) (by omega)).mono λq hq=>?_⟩)
  ·rcases sF.mp z with z|z
   ·exact hk q (by omega) z
   ·have:=iu.mp z
    injection this with this
    omega
  ·obtain⟨k1,k2,k3,k4⟩:=hq
   refine⟨k1,k2,?_,h.2.2.2.trans k4⟩;have ed:(P.ks.zip bs).drop p=(P.ks[p],bs[p])::(P.ks.zip bs).drop (p+1):=by
    rw[zk (by rw[oO];omega),List.getElem_zip]
   rw[ed,zd];exact WH.up k3 (by omega)
def OT(S':WS m1 w v log)(ha:a ⟨sv (.own w)::r,m⟩=.ok (t,⟨sv (.own w)::r,m1⟩))(hp:cX M.P.tab f (.val t) v.ob=some v'.ob):aJ M.P.tab f zA a ⟨sv (.own w)::r,m⟩=.ok (.nx,⟨sv (.own w)::r,m1.set w v'.ob⟩):=by
 unfold aJ;rw[ha];refine Eq.trans (bo _ _) ?_;show Res.bind (aT ((m1[w]?).bind _)) _=_;rw[S'.o];show Res.bind (aT (cX M.P.tab f (.val t) v.ob)) _=_;rw[hp];rfl
def iY{α:Type}{m:List α}{k:Nat}{ob x:α}(h:m[k]?=some ob):(m++[x])[k]?=some ob:=by
 rw[gi (c_.mp h).1];exact h
def WS.snoc{ob:Ob}(S':WS m w v log):WS (m++[ob]) w v log:=⟨iY S'.o,iY S'.l,S'.ne,S'.o_⟩
def Yb{B:FS}{Q:Out×S->Prop}(S':WS m w v log)(v':WV)(hg:v'.lg=v.lg)(hp:cX M.P.tab f (.val (.own m.length)) v.ob=some v'.ob)(k:∀m',WS m' w v' log->Fr (WX w v) m m'->m'[m.length]?=some ⟨M.bc,[.od [] []]⟩->W (B ⟨sv (.own w)::r,m'⟩) Q):W (af (aJ M.P.tab f zA (lW M.bc)) B ⟨sv (.own w)::r,m⟩) Q:=by
 have hw:w<m.length:=(c_.mp S'.o).1;have S1:WS (m++[⟨M.bc,[.od [] []]⟩]) w v log:=S'.snoc;refine dJ (W.of (OT S1 (t:=.own m.length) (v':=v') rfl hp) ⟨rfl,k _ (S1.fld hg) ⟨by simp,λj hj x=>?_⟩ ?_⟩)
 ·rw[cT λ(z:w=j)=>x (.inl z.symm),gi hj]
 ·rw[cT (by omega),e_ (bV _),lH];rfl
abbrev Ui(i:Int):T:=.tup [.str [116,97,107,101],.int i]
def PG.run(P:PG)(x:Bi)(bs:FC)(q:RH):RH:=(P.ks.zip bs).foldl (P.st x) q
def IQ(o:P.ok)(H:WH m w v gv heap lc)(hb:bs.length=P.ks.length)(hv:v.lines=P.iX)(hh:v.hand=.non)(hr:v.hr=0)(yP:v.ps=0)(hp:heap.length+4<=1000)(hl:lc+6000<800000) :
  W (cN (n+7) 70 [.own w,.str x,.lst (bs.map T.bl)] m) λp=>p.1=.non/\∃mt,WH p.2 w {v.rest with tk:=v.tk+1,tr:=.lst (bs.map T.bl),mt:=mt} ((P.run x bs (gv,heap)).1++[x]) (P.run x bs (gv,heap)).2 (lc+6000)/\Fr (WZ w v) m p.2:=by
 rw[w70];have h4:P.ks.length=4:=by unfold PG.ks;split<;>rfl
 obtain⟨log,S',G',hg⟩:=H.S;have Vp:v.lg<m.length:=(c_.mp S'.l).1;have hw:w<m.length:=(c_.mp S'.o).1;have UR:v.sh<m.length:=by obtain⟨_,_,h,_⟩:=H.sh;exact(c_.mp h).1
 refine c6 rfl (OM (r:=[sv (.str x),sv (.lst (bs.map T.bl))]) S' {v with tk:=v.tk+1} rfl (j:=6) (i:=v.tk) rfl rfl rfl λm1 S1 F1=>Iv (t:=Ui (v.tk+1)) S1 (by omega) (dW (az rfl (az (w_fld S1 (j:=6) rfl rfl) rfl)) rfl) λm2 S2 F2=>AA S2 {v with tk:=v.tk+1,hand:=.str x} rfl (t:=.str x) ?_ rfl λm3 S3 F3=>OM S3 {v with tk:=v.tk+1,hand:=.str x,hr:=v.hr+1} rfl (j:=8) (i:=v.hr) rfl rfl rfl λm4 S4 F4=>AA S4 {v with tk:=v.tk+1,hand:=.str x,hr:=v.hr+1,tr:=.lst (bs.map T.bl)} rfl rfl rfl λm5 S5 F5=>Yb S5 {v with tk:=v.tk+1,hand:=.str x,hr:=v.hr+1,tr:=.lst (bs.map T.bl),mt:=m5.length} rfl rfl λm6 S6 F6 h6=>AA S6 {v with tk:=v.tk+1,hand:=.str x,hr:=v.hr+1,tr:=.lst (bs.map T.bl),mt:=m5.length,wt:=false} rfl rfl rfl λm7 S7 F7=>?_)
 ·unfold xH
  rw[gz (b:=true) (aD (t:=.non) (u:=.non) (by rw[<- hh];exact w_fld S2 (j:=7) rfl rfl) rfl rfl)];rfl
 have G:Fr (WX w v) m m5:=(((F1.trans F2).trans F3).trans F4).trans F5;have le:=G.le;have F:Fr (WX w v) m m7:=(G.trans F6).trans F7;have h7:m7[m5.length]?=some ⟨M.bc,[.od [] []]⟩:=F7.get h6 λz=>by
  rcases z with z|z
  ·omega
  ·have z:m5.length=v.lg:=z
   omega
 have H7:=H.of (Fd:=gv) (AN:=lc+1) S7 (OP (by decide) G') (by rw[dg];show _+1<=_;omega) F rfl rfl
 obtain⟨e,he⟩:∃e,many=e+4+2:=⟨many-6,by unfold many;omega⟩
 unfold gY;rw[he];refine(yQ n o hb 4 (x:=x) (p:=0) (e:=e) (by omega) H7 rfl (by show v.hr+1=1;omega) h7 ?_ hv rfl rfl yP (λq _ z=>by cases z) (jb _) (by omega) (by omega)).mono λq hq=>?_
 ·rintro(z|z|z)
  ·have z:m5.length=w:=z
   omega
  ·have z:m5.length=v.lg:=z
   omega
  ·have z:m5.length=v.sh:=z
   omega
 obtain⟨k1,k2,k3,k4⟩:=hq;refine⟨k1,rfl,m5.length,WH.up k3 (by omega),fK F.le k4.le,λk hk z=>(k4.at_ k (gP hk F.le) ?_).trans (F.at_ k hk λy=>z (WX.wz _ y))⟩
 rintro(y|y)
 ·have y:k=m5.length:=y
  omega
 ·exact z y
end
abbrev jr(B:Nat)(c:Int)(rs:Bi)(fn:Bool):Ob:=⟨25,[.val (.own (B+1)),.val (.int 0),.val (.int c),.val (.own (B+9)),.val (.str rs),.val (.bl fn)]⟩
def aN:Ob:=⟨M.bc,[.od [] []]⟩
abbrev c7(ts:FV):Ob:=⟨M.bc,[.ol ts]⟩
structure VI(B:Nat)(P:PG)(v:WV):Prop where
 ln:v.lines=P.iX
 tl:v.tl=B+2
 ps:v.ps=0
 hd:v.hand=.non
 hr:v.hr=0
 sh:v.sh=B+5
 lg:v.lg=B+8\/B+10<=v.lg
abbrev WL:=List (Nat×Bi)
abbrev yR(ws:WL):FV:=ws.map λp=>.own p.1
abbrev US:=Bool×Ap
def UP(m:He)(P:PG)(ub:Nat)(up:Bool)(d:Nat):Prop:=∃g ks ts,m[ub]?=some ⟨M.bc,[.od ks ts]⟩/\II g ks ts/\P.two up g/\ks.length<=d
structure BI(m:He)(B N:Nat)(P:PG)(s:US)(c:Int)(ws:WL)(rs:Bi)(fn:Bool)(v:WV)(gv:Ap)(lc d:Nat):Prop where
 H:WH m (B+1) v gv s.2 lc
 V:VI B P v
 b:m[B]?=some (jr B c rs fn)
 q:m[B+9]?=some (c7 (yR ws))
 t:m[B+2]?=some ⟨23,[.val (.lst P.jq),.val (.own (B+3))]⟩
 u:UP m P (B+3) s.1 d
 n1:B+10<=N
 n2:v.lg<N
 n3:N<=m.length
 r:∀p∈ws,N<=p.1/\RO p.2 p.1 0 m/\p.2.length<=1000
 pw:ws.Pairwise λp q=>p.1+1<q.1
def NX(B lg N k:Nat):Prop:=(B<=k/\k<B+10)\/k=lg\/N<=k
def PG.rw(P:PG)(s:US)(x:Bi):Ap×US:=((P.run x (P.jQ x s.1) ([],s.2)).1++[x],(Fc x P.a P.b s.1,(P.run x (P.jQ x s.1) ([],s.2)).2))
section
variable{P:PG}{m m1 m':He}{B N lc d k:Nat}{s:US}{c c':Int}{ws uX:WL}{rs rs' x:Bi}{fn Ez:Bool}{v v':WV}{gv heap:Ap}
theorem yS:∀(l:List (LK×Bool))(g heap:Ap),l.foldl (P.st x) (gv++g,heap)=(gv++(l.foldl (P.st x) (g,heap)).1,(l.foldl (P.st x) (g,heap)).2)
 |[],_,_=>rfl
 |kb::l,g,heap=>by
  rw[zd,zd]
  have:P.st x (gv++g,heap) kb=(gv++(P.st x (g,heap) kb).1,(P.st x (g,heap) kb).2):=by
   unfold PG.st;cases kb.2
   ·rfl
   ·exact congrArg (λz=>(z,P.X7 heap x kb.1)) (gQ ..)
  rw[this];exact yS l _ _
def IS{bs:FC}:P.run x bs (gv,heap)=(gv++(P.run x bs ([],heap)).1,(P.run x bs ([],heap)).2):=by
 have:=yS (P:=P) (x:=x) (gv:=gv) (P.ks.zip bs) [] heap
 rw[dc]at this;exact this
def r9:P.ks.length=4:=by unfold PG.ks;split<;>rfl
theorem lF:∀(l:List (LK×Bool))(q:RH),(l.foldl (P.st x) q).2.length<=q.2.length+l.length
 |[],_=>bV _
 |kb::l,q=>by
  rw[zd,eT]
  have:=lF l (P.st x q kb)
  have:=r8 (P:=P) (x:=x) (q:=q) (kb:=kb)
  omega
def RO.lt{c:Nat}(R:RO x k c m):k+1<m.length:=by
 obtain⟨_,_,h,_⟩:=R.b;exact(c_.mp h).1
def BI.wn(I:BI m B N P s c ws rs fn v gv lc d)(j:Nat)(h:WZ (B+1) v j):j=B+1\/j=B+5\/(j=B+8\/B+10<=j)/\j<N:=by
 have h1:=I.V.lg;have h2:=I.V.sh;have h3:=I.n2;rcases h with h|h|h<;>omega
def OU(o:P.ok)(I:BI m B N P s c ws rs fn v gv lc d)(hk:N<=k)(R:RO x k 0 m)(hx:x.length<=1000)(hw:∀p∈ws,k+1<p.1)(hp:s.2.length+4<=1000)(hl:lc+6000<800000)(hd:d+4<800000){bh:T} :
  W (cN (n+11) 69 [.own (B+1),.own k,bh] m) λp=>p.1=.non/\∃v',BI p.2 B N P (P.rw s x).2 c ws rs fn v' (gv++(P.rw s x).1) (lc+6000) (d+4)/\v'.lg=v.lg/\Fr (NX B v.lg N) m p.2:=by
 rw[w69];obtain⟨g,ks,ts,hu,U,hg,OS⟩:=I.u;have n1:=I.n1;have n2:=I.n2;obtain⟨⟨t1,m1⟩,e1,Yc,⟨g',hg',T1⟩,F1⟩:=Uc n o (up:=s.1) (bh:=bh) hx (tk:=B+2) (ub:=B+3) ⟨by omega,by omega,by omega,by omega⟩ ⟨R,I.t,ks,ts,hu,U,OS⟩ hg hd
 have Yc:t1=.lst ((P.jQ x s.1).map T.bl):=Yc;subst Yc;have H1:WH m1 (B+1) v gv s.2 lc:=I.H.fr F1 λj hj z=>by
  have:=I.wn j hj
  rcases z with z|z<;>omega
 obtain⟨⟨t2,m2⟩,e2,wR,mt,H2,F2⟩:=IQ (n+3) o (x:=x) (bs:=P.jQ x s.1) H1 (b_ ..) I.V.ln I.V.hd I.V.hr I.V.ps hp hl;have wR:t2=.non:=wR;subst wR;obtain⟨log,S',G,Vp⟩:=I.H.S;obtain⟨i,ho⟩:=R.o;have le1:=F1.le;have F3:Fr (NX B v.lg N) m m2:=(F1.mono λj hj=>by
  unfold NX;rcases hj with hj|hj<;>omega).trans (F2.mono λj hj=>by
  have:=I.wn j hj
  have h1:j=B+1\/j=v.lg\/j=v.sh:=hj
  have:=I.V.sh
  unfold NX;omega)
 refine c6 rfl (dE (uC (k:=B+1) (s1:=⟨[sv (.own (B+1)),sv (.own k),sv bh],m⟩) (s2:=⟨[sv (.own (B+1)),sv (.own k),sv bh],m1⟩) rfl S'.o rfl (az (iy (k:=k) (j:=0) rfl ho rfl rfl) (az (uC (k:=B+2) (s1:=⟨[sv (.own (B+1)),sv (.own k),sv bh],m⟩) (s2:=⟨[sv (.own (B+1)),sv (.own k),sv bh],m⟩) (by rw[<- I.V.tl];exact w_fld S' (j:=2) rfl rfl) I.t rfl rfl e1) rfl)) e2) ⟨rfl,rfl,{v.rest with tk:=v.tk+1,tr:=.lst ((P.jQ x s.1).map T.bl),mt:=mt},⟨?_,⟨I.V.ln,I.V.tl,rfl,rfl,rfl,I.V.sh,I.V.lg⟩,?_,?_,?_,?_,n1,n2,fK I.n3 F3.le,λp hp=>?_,I.pw⟩,rfl,F3⟩)
 ·show WH m2 (B+1) _ (gv++((P.run x (P.jQ x s.1) ([],s.2)).1++[x])) (P.run x (P.jQ x s.1) ([],s.2)).2 (lc+6000)
  rw[IS]at H2;rw[<- gQ];exact H2
 ·have hz:∀z,WZ (B+1) v z->z≠B:=λz hz=>by have:=I.wn z hz;omega
  exact F2.get (F1.get I.b λz=>by rcases z with z|z<;>omega) λz=>hz _ z rfl
 ·exact F2.get (F1.get I.q λz=>by rcases z with z|z<;>omega) λz=>by have:=I.wn _ z;omega
 ·exact F2.get T1.t λz=>by have:=I.wn _ z;omega
 ·obtain⟨ZU,KS,hu1,U1,Vd⟩:=T1.u
  exact⟨g',ZU,KS,F2.get hu1 λz=>by have:=I.wn _ z;omega,U1,hg',Vd⟩
 ·obtain⟨a1,a2,a3⟩:=I.r p hp
  have:=hw p hp
  exact⟨a1,(a2.fr F1 (λz=>by rcases z with z|z<;>omega) (λz=>by rcases z with z|z<;>omega)).fr F2 (λz=>by have:=I.wn _ z;omega) (λz=>by have:=I.wn _ z;omega),a3⟩
end
section
variable{m m':He}{B f j:Nat}{c c':Int}{rs rs':Bi}{fn Ez:Bool}{r:FK}{t:T}{a:FE}
def dX(hb:m[B]?=some (jr B c rs fn))(hj:iM M.P.tab 25 f=some j)(hf:(jr B c rs fn).fs[j]?=sv t):au M.P.tab f zA ⟨sv (.own B)::r,m⟩=.ok (t,⟨sv (.own B)::r,m⟩):=iy (k:=B) rfl hb hj hf
def Lb(hb:m[B]?=some (jr B c rs fn))(ha:a ⟨sv (.own B)::r,m⟩=.ok (t,⟨sv (.own B)::r,m⟩))(hp:cX M.P.tab f (.val t) (jr B c rs fn)=some (jr B c' rs' Ez)):aJ M.P.tab f zA a ⟨sv (.own B)::r,m⟩=.ok (.nx,⟨sv (.own B)::r,m.set B (jr B c' rs' Ez)⟩):=by
 unfold aJ;rw[ha];refine Eq.trans (bo _ _) ?_;show Res.bind (aT ((m[B]?).bind _)) _=_;rw[hb];show Res.bind (aT (cX M.P.tab f (.val t) (jr B c rs fn))) _=_;rw[hp];rfl
def Uj(hb:m[B]?=some (jr B c rs fn)):nR M.P.tab 33 fD zA zI ⟨sv (.own B)::r,m⟩=.ok (.nx,⟨sv (.own B)::r,m.set B (jr B (c+1) rs fn)⟩):=by
 have e:gc M.P.tab 33 m (.own B)=some (B,jr B c rs fn,2,.val (.int c)):=by
  show(m[B]?).bind _=_;rw[hb];rfl
 unfold nR;show Res.bind (aT (gc M.P.tab 33 m (.own B))) _=_;rw[e];refine Eq.trans (bo _ _) ?_;show Res.bind (aT (gc M.P.tab 33 m (.own B))) _=_;rw[e];rfl
end
def Ld{o a:FE}{s s1 s2:S}{kb:Nat}{ts oH:FV}{t:T}(ho:o s=.ok (.own kb,s1))(h1:s1.m[kb]?=some (c7 ts))(ha:a s1=.ok (t,s2))(h2:s2.m[kb]?=some (c7 oH))(hl:oH.length<1000000):eZ M.bc o a s=.ok (.nx,⟨s2.r,s2.m.set kb (c7 (oH++[t]))⟩):=by
 unfold eZ;rw[ho];refine Eq.trans (bo _ _) ?_;dsimp only;rw[jn h1];refine Eq.trans (bo _ _) ?_;rw[ha];refine Eq.trans (bo _ _) ?_;dsimp only;rw[jn h2];refine Eq.trans (bo _ _) ?_;show Res.bind (aT (gd (oH.length<1000000) ())) _=_;rw[lu hl];rfl
section
variable{m:He}{ob nJ:Ob}{x:Bi}{i:Int}{f:Nat}{t:T}{r:FK}{a:FE}
def iZ{α:Type}{m:List α}{x:α}:(m++[x])[m.length]?=some x:=by
 rw[e_ (bV _),lH];rfl
def oB{α:Type}{m:List α}{x y:α}:(m++[x]).set m.length y=m++[y]:=by
 rw[Bs _ _ (bV _),lH];rfl
def Le(ha:a ⟨sv (.own m.length)::r,m++[ob]⟩=.ok (t,⟨sv (.own m.length)::r,m++[ob]⟩))(hp:cX M.P.tab f (.val t) ob=some nJ):aJ M.P.tab f zA a ⟨sv (.own m.length)::r,m++[ob]⟩=.ok (.nx,⟨sv (.own m.length)::r,m++[nJ]⟩):=by
 unfold aJ;rw[ha];refine Eq.trans (bo _ _) ?_;show Res.bind (aT (((m++[ob])[m.length]?).bind _)) _=_;rw[iZ];show Res.bind (aT (cX M.P.tab f (.val t) ob)) _=_;rw[hp];show Res.ok (Out.nx,(⟨_,(m++[ob]).set m.length nJ⟩:S))=_;rw[oB]
def EA:cN (n+1) 61 [.own m.length,.str x,.int i] (m++[⟨22,[]⟩])=.ok (.non,m++[jo x i (m.length+1),aN]):=by
 rw[w61];refine wG (s':=⟨[sv (.own m.length),sv (.str x),sv (.int i)],m++[jo x i (m.length+1),aN]⟩) rfl (seq1 (Le (r:=[sv (.str x),sv (.int i)]) (t:=.str x) (nJ:=⟨22,[.val (.str x)]⟩) rfl rfl) (seq1 (Le (r:=[sv (.str x),sv (.int i)]) (t:=.int i) (nJ:=⟨22,[.val (.str x),.val (.int i)]⟩) rfl rfl) ?_)) rfl;obtain⟨oA,hA⟩:∃oA:Ob,oA=⟨22,[.val (.str x),.val (.int i)]⟩:=⟨_,rfl⟩;rw[<- hA];unfold aJ lW;refine Eq.trans (bo _ _) ?_;show Res.bind (aT (((m++[oA]++[aN])[m.length]?).bind _)) _=_;rw[iY iZ];have hp:cX M.P.tab 15 (.val (.own (m++[oA]).length)) oA=some (jo x i (m.length+1)):=by
  rw[hA,dg];rfl
 show Res.bind (aT (cX M.P.tab 15 (.val (.own (m++[oA]).length)) oA)) _=_;rw[hp];have e:(m++[oA]++[aN]).set m.length (jo x i (m.length+1))=m++[jo x i (m.length+1),aN]:=by
  rw[List.set_append_left _ _ (by simp),oB,gQ];rfl
 exact congrArg (λz=>Res.ok (Out.nx,(⟨[sv (.own m.length),sv (.str x),sv (.int i)],z⟩:S))) e
end
section
variable{P:PG}{m m1 m':He}{B N lc d k:Nat}{s:US}{c c':Int}{ws uX:WL}{rs rs' x:Bi}{fn Ez:Bool}{v v':WV}{gv heap:Ap}{X:Nat->Prop}
def Fr.app{Z:He}:Fr X m (m++Z):=⟨by rw[dg];omega,λk h _=>gi h⟩
def BI.chg(I:BI m B N P s c ws rs fn v gv lc d)(F:Fr X m m')(hX:∀j,X j->j=B\/j=B+9)(hb:m'[B]?=some (jr B c' rs' Ez))(hq:m'[B+9]?=some (c7 (yR uX)))(hr:∀p∈uX,N<=p.1/\RO p.2 p.1 0 m'/\p.2.length<=1000)(pw:uX.Pairwise λp q=>p.1+1<q.1):BI m' B N P s c' uX rs' Ez v gv lc d:=by
 obtain⟨g,ks,ts,hu,U,hg,hl⟩:=I.u;exact⟨I.H.fr F λj hj z=>by have:=I.wn j hj;have:=hX j z;have:=I.n1;omega,I.V,hb,hq,F.get I.t λz=>by have:=hX _ z;omega,⟨g,ks,ts,F.get hu λz=>by have:=hX _ z;omega,U,hg,hl⟩,I.n1,I.n2,fK I.n3 F.le,hr,pw⟩
def BI.rr(I:BI m B N P s c ws rs fn v gv lc d)(F:Fr X m m')(hX:∀j,X j->j=B\/j=B+9):∀p∈ws,N<=p.1/\RO p.2 p.1 0 m'/\p.2.length<=1000:=λp hp=>by
 obtain⟨a,b,e⟩:=I.r p hp
 have:=I.n1
 exact⟨a,b.fr F (λz=>by have:=hX _ z;omega) (λz=>by have:=hX _ z;omega),e⟩
def BI.OV(I:BI m B N P s c ws rs fn v gv lc d):BI (m.set B (jr B c' rs' Ez)) B N P s c' ws rs' Ez v gv lc d:=by
 have F:Fr (λj=>j=B) m (m.set B (jr B c' rs' Ez)):=Fr.set rfl;exact I.chg F (λ_=>.inl) (cj (c_.mp I.b).1) (F.get I.q (by omega)) (I.rr F λ_=>.inl) I.pw
def BI.Uk(I:BI m B N P s c ws rs fn v gv lc d)(hr:∀p∈uX,N<=p.1/\RO p.2 p.1 0 m/\p.2.length<=1000)(pw:uX.Pairwise λp q=>p.1+1<q.1):BI (m.set (B+9) (c7 (yR uX))) B N P s c uX rs fn v gv lc d:=by
 have F:Fr (λj=>j=B+9) m (m.set (B+9) (c7 (yR uX))):=Fr.set rfl
 have:=I.n1
 exact I.chg F (λ_=>.inr) (F.get I.b (by omega)) (cj (c_.mp I.q).1) (λp hp=>by obtain⟨a,b,e⟩:=hr p hp;exact⟨a,b.fr F (by omega) (by omega),e⟩) pw
def yT(I:BI m B N P s c ws rs fn v gv lc d)(hw:ws.length<900000)(hx:x.length<=1000):W (cN (n+2) 88 [.own B,.str x] m) λp=>p.1=.non/\∃k,BI p.2 B N P s (c+1) (ws++[(k,x)]) rs fn v gv lc d/\Fr (NX B v.lg N) m p.2:=by
 rw[w88];refine c6 rfl (dJ (W.of (Uj (r:=[sv (.str x)]) I.b) ⟨rfl,?_⟩));have I1:BI (m.set B (jr B (c+1) rs fn)) B N P s (c+1) ws rs fn v gv lc d:=I.OV;have F1:Fr (NX B v.lg N) m (m.set B (jr B (c+1) rs fn)):=Fr.set (.inl ⟨by omega,by omega⟩)
 obtain⟨m1,h1⟩:∃m1,m1=m.set B (jr B (c+1) rs fn):=⟨_,rfl⟩;rw[<- h1]at I1 F1;show W (eZ _ _ _ ⟨[sv (.own B),sv (.str x)],m.set B (jr B (c+1) rs fn)⟩) _;rw[<- h1];have F2:Fr (λ_=>False) m1 (m1++[jo x (c+1) (m1.length+1),aN]):=Fr.app;have I2:BI (m1++[jo x (c+1) (m1.length+1),aN]) B N P s (c+1) ws rs fn v gv lc d:=I1.chg F2 (λ_ z=>z.elim) (F2.get I1.b λz=>z) (F2.get I1.q λz=>z) (I1.rr F2 λ_ z=>z.elim) I1.pw;have n3:=I1.n3;refine W.of (Ld (s1:=⟨[sv (.own B),sv (.str x)],m1⟩) (s2:=⟨[sv (.own B),sv (.str x)],m1++[jo x (c+1) (m1.length+1),aN]⟩) (t:=.own m1.length) (dX I1.b (j:=3) rfl rfl) I1.q (Au (ts:=[.str x,.int (c+1)]) (s':=⟨[sv (.own B),sv (.str x)],m1⟩) (az rfl (az (dX I1.b (j:=2) rfl rfl) rfl)) (EA n)) I2.q (by rw[b_];omega)) ⟨rfl,rfl,m1.length,?_,(F1.trans (F2.mono λ_ z=>z.elim)).trans (Fr.set (.inl ⟨by omega,by omega⟩))⟩
 have e:yR ws++[T.own m1.length]=yR (ws++[(m1.length,x)]):=by
  unfold yR;rw[jv];rfl
 show BI ((m1++[jo x (c+1) (m1.length+1),aN]).set (B+9) (c7 (yR ws++[T.own m1.length]))) B N P s (c+1) (ws++[(m1.length,x)]) rs fn v gv lc d;rw[e];refine I2.Uk (λp hp=>?_) (List.pairwise_append.mpr ⟨I.pw,List.pairwise_singleton ..,λp hp q hq=>?_⟩)
 ·rcases sF.mp hp with hp|hp
  ·exact I2.r p hp
  ·rw[iu.mp hp]
   exact⟨n3,⟨⟨c+1,by rw[e_ (bV _),lH];rfl⟩,[],[],by rw[e_ (oK _),show m1.length.succ-m1.length=1 by omega];rfl,Px.nil,bV _⟩,hx⟩
 ·rw[iu.mp hq]
  exact(I1.r p hp).2.1.lt
theorem yU(n:Nat){y1 y2:Option C}:∀(l:Ap){m:He}{c:Int}{ws:WL}{u:Option C},BI m B N P s c ws rs fn v gv lc d->ws.length+l.length<900000->(∀x∈l,x.length<=1000) ->
  W (bZ (setG 3) (aK (av (ak [(25,88)] (cN (n+2))) zA (k1 zD))) (l.map T.str) ⟨[sv (.own B),y1,y2,u],m⟩) λq=>q.1=.nx/\∃u c' uX m',q.2=⟨[sv (.own B),y1,y2,u],m'⟩/\BI m' B N P s c' (ws++uX) rs fn v gv lc d/\uX.map (·.2)=l/\Fr (NX B v.lg N) m m'
 |[],m,c,ws,u,I,hl,_=>⟨_,rfl,rfl,u,c,[],m,rfl,by rw[dc];exact I,rfl,Fr.refl⟩
 |x::l,m,c,ws,u,I,hl,hx=>by
  rw[eT]at hl;obtain⟨⟨t,m1⟩,e,ht,k,I1,F1⟩:=yT n (x:=x) I (by omega) (hx x (fY ..))
  refine fX (r:=[sv (.own B),y1,y2,sv (.str x)]) rfl (dE (mE (k:=B) rfl I.b rfl rfl e) ⟨rfl,(yU n l I1 (by rw[dg];show _+1+_<_;omega) λx h=>hx x (bW _ h)).mono λq hq=>?_⟩)
  obtain⟨h1,u,c',uX,m',h2,h3,h4,h5⟩:=hq;exact⟨h1,u,c',(k,x)::uX,m',h2,by rw[Bt];exact h3,by rw[dZ,h4],F1.trans h5⟩
def EB{o:FE}{s s1:S}{kb:Nat}{ts:FV}(h:o s=.ok (.own kb,s1))(hm:s1.m[kb]?=some (c7 ts)):lh M.bc o s=.ok (.int ts.length,s1):=by
 unfold lh;rw[h];refine Eq.trans (bo _ _) ?_;dsimp only;rw[jn hm];rfl
def Ul{o:FE}{s s1:S}{kb:Nat}{t:T}{ts:FV}(h:o s=.ok (.own kb,s1))(hm:s1.m[kb]?=some (c7 (t::ts))):nS M.bc o s=.ok (t,⟨s1.r,s1.m.set kb (c7 ts)⟩):=by
 unfold nS;rw[h];refine Eq.trans (bo _ _) ?_;dsimp only;rw[jn hm];rfl
def Yd{o:FE}{lo hi:FO}{s:S}{kb:Nat}{ts:FV}{i j:Ee}(h:o s=.ok (.own kb,s))(h1:lo s=.ok (i,s))(h2:hi s=.ok (j,s))(hm:s.m[kb]?=some (c7 ts)):Dk M.bc o lo hi s=.ok (.lst (cA ts i j),s):=by
 unfold Dk;rw[h];refine Eq.trans (bo _ _) ?_;dsimp only;rw[h1];refine Eq.trans (bo _ _) ?_;dsimp only;rw[h2];refine Eq.trans (bo _ _) ?_;dsimp only;rw[jn hm];rfl
def ZX{a:FE}{s s1:S}{i:Int}(h:a s=.ok (.int i,s1)):ni a s=.ok (some i,s1):=by
 unfold ni;rw[h];rfl
def PG.rows(P:PG):US->Ap->Ap×US
 |s,[]=>([],s)
 |s,x::xs=>((P.rw s x).1++(P.rows (P.rw s x).2 xs).1,(P.rows (P.rw s x).2 xs).2)
def r_{s:US}{x:Bi}:(P.rw s x).2.2.length<=s.2.length+4:=by
 have:=lF (P:=P) (x:=x) (P.ks.zip (P.jQ x s.1)) ([],s.2)
 have h4:=r9 (P:=P);rw[oO,b_,h4]at this;exact this
theorem EC(n:Nat)(o:P.ok):∀(ws:WL){m:He}{s:US}{v:WV}{gv:Ap}{lc d e:Nat}{u:Option C},BI m B N P s c ws rs fn v gv lc d->s.2.length+4*ws.length<=900->lc+6000*ws.length<700000->d+4*ws.length<700000 ->
  W (dN (bu (bA (aM .Gt) (lh M.bc (au M.P.tab 34 zA)) zB))
  (TU (cN (n+11))) (e+ws.length+1) ⟨[sv (.own B),sv (.int 0),u],m⟩) λq=>q.1=.nx/\∃v',BI q.2.m B N P (P.rows s (ws.map (·.2))).2 c [] rs fn v' (gv++(P.rows s (ws.map (·.2))).1) (lc+6000*ws.length) (d+4*ws.length)/\v'.lg=v.lg/\Fr (NX B v.lg N) m q.2.m
 |[],m,s,v,gv,lc,d,e,u,I,hp,hl,hd=>by
  refine D5 (s1:=⟨[sv (.own B),sv (.int 0),u],m⟩) (gz (aD (t:=.int 0) (u:=.int 0) (EB (dX I.b (j:=3) rfl rfl) I.q) rfl rfl)) ⟨rfl,v,?_,rfl,Fr.refl⟩;show BI m B N P s c [] rs fn v (gv++[]) lc d;rw[dc];exact I
 |(k,x)::ws,m,s,v,gv,lc,d,e,u,I,hp,hl,hd=>by
  rw[eT]at hp hl hd;have c1:bu (bA (aM .Gt) (lh M.bc (au M.P.tab 34 zA)) zB) ⟨[sv (.own B),sv (.int 0),u],m⟩=.ok (true,⟨[sv (.own B),sv (.int 0),u],m⟩):=gz (aD (t:=.int ((yR ((k,x)::ws)).length:Nat)) (u:=.int 0) (EB (dX I.b (j:=3) rfl rfl) I.q) rfl (by rw[rP,decide_eq_true (by rw[b_,eT];omega)]))
  obtain⟨pw1,pw2⟩:=List.pairwise_cons.mp I.pw;have I1:BI (m.set (B+9) (c7 (yR ws))) B N P s c ws rs fn v gv lc d:=I.Uk (λp hp=>I.r p (bW _ hp)) pw2;have F1:Fr (NX B v.lg N) m (m.set (B+9) (c7 (yR ws))):=Fr.set (.inl ⟨by omega,by omega⟩)
  obtain⟨h1,h2,h3⟩:=I.r (k,x) (fY ..);have n1:=I.n1;have R1:RO x k 0 (m.set (B+9) (c7 (yR ws))):=h2.fr (Fr.set (X:=λj=>j=B+9) rfl) (by have h1:N<=k:=h1;omega) (by have h1:N<=k:=h1;omega)
  obtain⟨m1,e1⟩:∃m1,m1=m.set (B+9) (c7 (yR ws)):=⟨_,rfl⟩;rw[<- e1]at I1 R1 F1;have hpp:aI 2 (nS M.bc (au M.P.tab 34 zA)) ⟨[sv (.own B),sv (.int 0),u],m⟩=.ok (.nx,⟨[sv (.own B),sv (.int 0),sv (.own k)],m1⟩):=by
   rw[e1];exact fW (Ul (dX I.b (j:=3) rfl rfl) I.q)
  obtain⟨⟨t2,m2⟩,e2,ht,v2,I2,ZY,F2⟩:=OU n o (bh:=.lst (cA (yR ws) none (some 0))) I1 h1 R1 h3 pw1 (by omega) (by omega) (by omega)
  have ht:t2=.non:=ht;subst ht;obtain⟨log,S1,_,_⟩:=I1.H.S;have rl:=r_ (P:=P) (s:=s) (x:=x);refine nZ (k:=e+ws.length+1) c1 (dJ (W.of hpp ⟨rfl,dE (mE (k:=B+1) (dX I1.b (j:=0) rfl rfl) S1.o rfl (az rfl (az (Yd (dX I1.b (j:=3) rfl rfl) rfl (ZX (dX I1.b (j:=1) rfl rfl)) I1.q) rfl)) e2) ⟨rfl,(EC n o ws (e:=e) I2 (by omega) (by omega) (by omega)).mono λq hq=>?_⟩⟩))
  obtain⟨k1,v',k2,k3,k4⟩:=hq;refine⟨k1,v',?_,k3.trans ZY,(F1.trans F2).trans (by rw[<- ZY];exact k4)⟩
  rw[gQ]at k2;rw[eT,show lc+6000*(ws.length+1)=lc+6000+6000*ws.length by omega,show d+4*(ws.length+1)=d+4+4*ws.length by omega]
  exact k2
def all_eq(o:P.ok)(I:BI m B N P s c ws rs fn v gv lc d)(hp:s.2.length+4*ws.length<=900)(hl:lc+6000*ws.length<700000)(hd:d+4*ws.length<700000):W (cN (n+12) 89 [.own B,.int 0] m) λp=>p.1=.non/\∃v',BI p.2 B N P (P.rows s (ws.map (·.2))).2 c [] rs fn v' (gv++(P.rows s (ws.map (·.2))).1) (lc+6000*ws.length) (d+4*ws.length)/\v'.lg=v.lg/\Fr (NX B v.lg N) m p.2:=by
 rw[w89];obtain⟨e,he⟩:∃e,many=e+ws.length+1:=⟨many-(ws.length+1),by unfold many;omega⟩
 refine c6 rfl ?_;unfold gY;rw[he];exact(EC n o ws I hp hl hd).mono λq hq=>⟨hq.1,rfl,hq.2⟩
end
def fx1{a:FE}{s:S}{w kb f j:Nat}{ob:Ob}{c:C}{u:T}(h:a s=.ok (.own w,s))(hm:s.m[w]?=some ob)(hj:iM M.P.tab ob.c f=some j)(hf:ob.fs[j]?=sv (.own kb))(hb:s.m[kb]?=some ⟨M.bc,[c]⟩)(hz:Nr c=some u):Af M.bc M.P.tab f a s=.ok (u,⟨s.r,(s.m.set kb ⟨M.bc,[]⟩).set w ⟨ob.c,ob.fs.set j (.val u)⟩⟩):=by
 have e:ue M.bc s.m (.own kb)=some (kb,c):=by
  show(s.m[kb]?).bind _=_;rw[hb];show(if M.bc=M.bc then some (kb,c)else none)=_
  rw[if_pos rfl]
 have e2:gc M.P.tab f s.m (.own w)=some (w,ob,j,.val (.own kb)):=by
  show(s.m[w]?).bind _=_;rw[hm];show(iM M.P.tab ob.c f).bind _=_;rw[hj];show(ob.fs[j]?).map _=_;rw[hf];rfl
 unfold Af;rw[h];refine Eq.trans (bo _ _) ?_;show Res.bind (aT (gc M.P.tab f s.m (.own w))) _=_;rw[e2];refine Eq.trans (bo _ _) ?_;dsimp only;rw[e];dsimp only;rw[hz];rfl
def Um:GV [] []:=⟨λ_ he=>(nomatch he),rfl⟩
def ED{log:FV}{rows:Ap}(G:GV log rows)(hl:log.length<=1000000):cN (n+1) 20 [.lst log] m=.ok (.own m.length,m++[c7 (rows.map T.str)]):=by
 rw[Ň];have e:=qu (src:=k7 zA) (n:=2) (js:=[]) (s:=⟨[sv (.lst log)],m⟩) (ts:=log) (s1:=⟨[sv (.lst log)],m⟩) rfl hl (uU log m G.ok);rw[G.gv]at e;refine ee (s':=⟨[sv (.lst log)],m++[c7 (rows.map T.str)]⟩) rfl (gI ?_) rfl;unfold ig;refine Eq.trans (congrArg (λz=>Res.bind z _) e) ?_;rfl
def BX(B lg k:Nat):Prop:=(B<=k/\k<B+10)\/k=lg
def HO(m:He)(B:Nat)(P:PG)(s:US)(rs:Bi)(fn:Bool)(lg d:Nat)(rows:Ap)(p:T×He):Prop:=∃k c v,p.1=.own k/\p.2[k]?=some (c7 (rows.map T.str))/\m.length<=k/\k≠v.lg/\m.length<=v.lg/\BI p.2 B p.2.length P s c [] rs fn v [] 0 d/\Fr (BX B lg) m p.2
section
variable{P:PG}{m m0:He}{B N lc d lg:Nat}{s:US}{c:Int}{rs x:Bi}{fn:Bool}{v:WV}{gv:Ap}
def uY(I:BI m B N P s c [] rs fn v gv lc d)(F0:Fr (NX B v.lg m0.length) m0 m)(Vp:v.lg=lg):W (cN (n+2) 73 [.own (B+1)] m) (HO m0 B P s rs fn lg d gv):=by
 rw[w73];obtain⟨log,S',G,hl⟩:=I.H.S;have o_:=S'.o_;have hlv:=I.V.lg;have n1:=I.n1;have n2:=I.n2;have n3:=I.n3;have le0:=F0.le;obtain⟨ob,Ve⟩:∃ob:Ob,ob=⟨24,v.ob.fs.set 12 (.val (.lst log))⟩:=⟨_,rfl⟩;obtain⟨m1,h1⟩:∃m1,m1=(m.set v.lg ⟨M.bc,[]⟩).set (B+1) ob:=⟨_,rfl⟩;have L1:m1.length=m.length:=by rw[h1,fh,fh]
 have e1:Af M.bc M.P.tab 29 zA ⟨[sv (.own (B+1)),none],m⟩=.ok (.lst log,⟨[sv (.own (B+1)),none],m1⟩):=by
  rw[h1,Ve];exact fx1 (s:=⟨[sv (.own (B+1)),none],m⟩) (j:=12) rfl S'.o rfl rfl S'.l rfl
 obtain⟨m2,h2⟩:∃m2,m2=m1++[c7 (gv.map T.str)]:=⟨_,rfl⟩;have e2:=ED n (m:=m1) G (by omega)
 rw[<- h2]at e2;have o2:(m2++[c7 []])[B+1]?=some ob:=by
  rw[h2];refine iY (iY ?_);rw[h1];exact cj (by rw[fh];omega)
 obtain⟨v',hv⟩:∃v':WV,v'={v with lg:=m2.length}:=⟨_,rfl⟩
 have hp:cX M.P.tab 29 (.val (.own m2.length)) ob=some v'.ob:=by rw[Ve,hv];rfl
 have e3:aJ M.P.tab 29 zA (ig M.bc (iR ba)) ⟨[sv (.own (B+1)),sv (.own m1.length)],m2⟩=.ok (.nx,⟨[sv (.own (B+1)),sv (.own m1.length)],(m2++[c7 []]).set (B+1) v'.ob⟩):=by
  unfold aJ;show Res.bind (aT (((m2++[c7 []])[B+1]?).bind (cX M.P.tab 29 (.val (.own m2.length))))) _=_;rw[o2];show Res.bind (aT (cX M.P.tab 29 (.val (.own m2.length)) ob)) _=_;rw[hp];rfl
 have L2:m2.length=m.length+1:=by rw[h2,dg,L1];rfl
 obtain⟨m3,h3⟩:∃m3,m3=(m2++[c7 []]).set (B+1) v'.ob:=⟨_,rfl⟩;have L3:m3.length=m.length+2:=by rw[h3,fh,dg,L2];rfl
 have Uo:v'.lg=m2.length:=by rw[hv]
 have F:Fr (λj=>j=B+1\/j=v.lg) m m3:=⟨by omega,λk hk x=>by
  rw[h3,cT (λ(z:B+1=k)=>x (.inl z.symm)),gi (by omega),h2,gi (by omega),h1,cT (λ(z:B+1=k)=>x (.inl z.symm)),cT (λ(z:v.lg=k)=>x (.inr z.symm))]⟩
 rw[<- h3]at e3;refine iW rfl (Tz (s':=⟨[sv (.own (B+1)),none],m2⟩) (cZ (ts:=[.lst log]) (s':=⟨[sv (.own (B+1)),none],m1⟩) (az e1 rfl) e2) (b7 (W.of e3 ⟨rfl,bR (t:=.own m1.length) rfl ⟨m1.length,c,v',rfl,?_,by omega,by omega,by omega,?_,?_⟩⟩)))
 ·show m3[m1.length]?=_
  rw[h3,cT (by omega),gi (by omega),h2,iZ]
 ·show BI m3 B m3.length P s c [] rs fn v' [] 0 d
  obtain⟨g,ks,ts,hu,U,hg,OS⟩:=I.u;obtain⟨ks2,ts2,hs,u9⟩:=I.H.sh;have UR:=I.V.sh;refine⟨⟨⟨[],⟨?_,?_,by omega,by show 0<_;omega⟩,Um,bV _⟩,⟨ks2,ts2,?_,u9⟩,by rw[hv];exact I.H.n1,?_⟩,?_,F.get I.b (by omega),F.get I.q (by omega),F.get I.t (by omega),⟨g,ks,ts,F.get hu (by omega),U,hg,OS⟩,by omega,by omega,bV _,λp hp=>(by cases hp),Bc.nil⟩
  ·rw[h3];exact cj (by rw[dg];omega)
  ·rw[Uo,h3,cT (by omega),iZ]
  ·rw[hv];exact F.get hs λz=>z.elim I.H.n1 I.H.n2
  ·rw[Uo,hv];show v.sh≠_;omega
  ·rw[hv];exact⟨I.V.ln,I.V.tl,I.V.ps,I.V.hd,I.V.hr,I.V.sh,.inr (by show B+10<=m2.length;omega)⟩
 ·show Fr (BX B lg) m0 m3
  refine⟨by omega,λk hk x=>(F.at_ k (by omega) λz=>x ?_).trans (F0.at_ k hk λz=>x ?_)⟩
  ·rcases z with z|z
   ·exact .inl ⟨by omega,by omega⟩
   ·exact .inr (by omega)
  ·rcases z with z|z|z
   ·exact .inl z
   ·exact .inr (by omega)
   ·omega
end
def bg:Bi->Bi->Ap×Bi
 |l,[]=>([],l)
 |l,c::p=>if c=10 then(l::(bg [] p).1,(bg [] p).2)else bg (l++[c]) p
def EE(l p:Bi):bg l (10::p)=(l::(bg [] p).1,(bg [] p).2):=by rw[bg,if_pos rfl]
def EF{c:Nat}(h:c≠10)(l p:Bi):bg l (c::p)=bg (l++[c]) p:=by rw[bg,if_neg h]
structure Ye(p l:Bi):Prop where
 e:bb 10 (l++p)=(bg l p).1++[(bg l p).2]
 no:10∉(bg l p).2
 l2:(bg l p).1.length+(bg l p).2.length<=l.length+p.length
 l1:(bg l p).1.length<=p.length
 ls:∀x∈(bg l p).1,x.length<=l.length+p.length
theorem ja:∀(p l:Bi),10∉l->Ye p l
 |[],l,h=>⟨by rw[dc];exact jG h,h,by show 0+l.length<=l.length+0;omega,bV _,λx hx=>(by cases hx)⟩
 |c::p,l,h=>by
  by_cases e:c=10
  ·subst e
   obtain⟨h1,h2,h3,h4,h5⟩:=ja p [] (λz=>by cases z)
   rw[lL]at h1;have h3:_<=0+p.length:=h3;refine⟨?_,?_,?_,?_,?_⟩<;>rw[EE]
   ·rw[ic h,h1];rfl
   ·exact h2
   ·simp only[eT];omega
   ·simp only[eT];omega
   ·intro x hx
    rw[eT];rcases gh.mp hx with z|z
    ·rw[z];omega
    ·have h5:_<=0+p.length:=h5 x z
     omega
  ·obtain⟨h1,h2,h3,h4,h5⟩:=ja p (l++[c]) (λz=>by
    rcases sF.mp z with z|z
    ·exact h z
    ·exact e (iu.mp z).symm)
   rw[dg,oN]at h3 h5;refine⟨?_,?_,?_,?_,?_⟩<;>rw[EF e]
   ·rw[Bt];exact h1
   ·exact h2
   ·rw[eT];omega
   ·rw[eT];omega
   ·intro x hx
    rw[eT]
    have:=h5 x hx
    omega
def EG{a b:Bi}(h:a.length+b.length<=1000000):dP .Add (.str a) (.str b)=some (.str (a++b)):=lu h
section
variable{P:PG}{m:He}{B lc d N:Nat}{s:US}{c:Int}{ws:WL}{rs x:Bi}{fn:Bool}{v:WV}{gv:Ap}
def qz(I:BI m B N P s c ws rs false v gv lc d):cN (n+1) 87 [.own B] m=.ok (.non,m):=by
 rw[w87];exact wG (s':=⟨[sv (.own B)],m⟩) rfl (vf (yD (dX I.b (j:=5) rfl rfl)) rfl) rfl
def IT(o:P.ok)(I:BI m B m.length P s c [] rs false v [] lc d)(h10:10∉rs)(hr:rs.length+x.length<=500)(hp:s.2.length+4*x.length<=900)(hl:lc+6000*x.length<700000)(hd:d+4*x.length<700000):W (cN (n+13) 85 [.own B,.str x] m) (HO m B P (P.rows s (bg rs x).1).2 (bg rs x).2 false v.lg (d+4*(bg rs x).1.length) (P.rows s (bg rs x).1).1):=by
 obtain⟨k1,k2,k3,k4,k5⟩:=ja x rs h10;obtain⟨rws,yV⟩:∃rws,rws=(bg rs x).1:=⟨_,rfl⟩;obtain⟨lf,hlf⟩:∃lf,lf=(bg rs x).2:=⟨_,rfl⟩;rw[<- yV]at k1 k3 k4 k5 ⊢;rw[<- hlf]at k1 k2 k3 ⊢;rw[w85];obtain⟨ps,yP⟩:∃ps:T,ps=.lst ((rws++[lf]).map T.str):=⟨_,rfl⟩;have e1:splitM (rs++x) [.str [10]]=some ps:=by
  show gd _ _=_;rw[lu (by rw[dg];omega),k1,yP]
 have e2:jf ps (.int (-1))=some (.str lf):=by
  rw[yP];show atT _ (-1)=_;rw[jv];exact yJ _ _
 have e3:AK none (some (-1)) ps=some (.lst (rws.map T.str)):=by
  rw[yP];show some (T.lst (cA _ none (some (-1))))=_;rw[jv];exact congrArg (λz=>some (T.lst z)) (uL _ _)
 refine iW rfl (b7 (dE (mE (k:=B) (t:=.non) rfl I.b rfl rfl (qz (n+11) I)) ⟨rfl,bS (t:=ps) (TY (l:=rs++x) (ts:=[.str [10]]) (aD (t:=.str rs) (u:=.str x) (dX I.b (j:=4) rfl rfl) rfl (EG (by omega))) rfl e1) ?_⟩))
 have I1:BI (m.set B (jr B c lf false)) B m.length P s c [] lf false v [] lc d:=I.OV;have F1:Fr (NX B v.lg m.length) m (m.set B (jr B c lf false)):=Fr.set (.inl ⟨by omega,by omega⟩)
 refine b7 (W.of (Lb (r:=[sv (.str x),sv ps,none]) (c':=c) (rs':=lf) (Ez:=false) (t:=.str lf) I.b (aD (t:=ps) (u:=.int (-1)) rfl rfl e2) rfl) ⟨rfl,?_⟩);obtain⟨m1,Up⟩:∃m1,m1=m.set B (jr B c lf false):=⟨_,rfl⟩;rw[<- Up]at I1 F1;show WB _ ⟨[sv (.own B),sv (.str x),sv ps,none],m.set B (jr B c lf false)⟩ _;rw[<- Up];refine b7 (fF (W.of (Oz (t:=.lst (rws.map T.str)) (Vm (t:=ps) (x:=none) (y:=some (-1)) rfl rfl rfl e3) rfl) ((yU (n+10) rws I1 (by show 0+_<_;omega) λy hy=>by have:=k5 y hy;omega).mono λq hq=>?_)))
 obtain⟨h1,u,c',uX,m2,h2,I2,h4,F2⟩:=hq;refine⟨h1,?_⟩;rw[h2];rw[lL]at I2;have lw:uX.length=rws.length:=by rw[<- h4,b_]
 obtain⟨⟨t3,m3⟩,e4,ht3,v3,I3,g3,F3⟩:=all_eq n o I2 (by omega) (by omega) (by omega)
 refine b7 (dE (mE (k:=B) (t:=t3) rfl I2.b rfl (az (dX I2.b (j:=1) rfl rfl) rfl) e4) ⟨rfl,?_⟩);rw[lL,h4]at I3;obtain⟨log,S3,_,_⟩:=I3.H.S;obtain⟨⟨t5,m5⟩,e5,h5⟩:=uY (n+10) I3 (by rw[g3];exact(F1.trans F2).trans F3) g3
 rw[lw]at h5;exact yz (mE (k:=B+1) (dX I3.b (j:=0) rfl rfl) S3.o rfl rfl e5) h5
abbrev Uq:T:=.tup [.str [101,110,100]]
def IU{w:Nat}{log:FV}(S':WS m w v log)(hv:v.lines=P.iX)(hh:v.hand=.non)(hl:log.length+2<900000):W (cN (n+2) 74 [.own w] m) (WR w v v (log++[.tup [.str [110,111,110,101],.int (v.tk+1)]]++[Uq]) m):=by
 rw[w74];refine c6 rfl (dJ (ji (r:=[none]) S' rfl (Iz n S' (by omega)) λ_ m1 h=>⟨rfl,?_⟩))
 refine dJ (bw (s':=⟨sv (.own w)::[none],m1⟩) (gz (aD (t:=.non) (u:=.non) (by rw[<- hh];exact w_fld h.2.1 (j:=7) rfl rfl) rfl rfl)) ⟨_,rfl,rfl,?_⟩)
 refine Iv (r:=[none]) (t:=Uq) h.2.1 (by simp;omega) (dW (az (t:=.str [101,110,100]) rfl rfl) rfl) λm2 S2 F2=>fF (W.of (Oz (t:=.lst P.iX) (by rw[<- hv];exact w_fld S2 (j:=0) rfl rfl) rfl) ?_)
 refine(Ou (I:=λs=>∃u,s=⟨sv (.own w)::[u],m2⟩) (λt ht s hI=>?_) ⟨none,rfl⟩).mono λp hp=>?_
 ·obtain⟨u,rfl⟩:=hI
  obtain⟨k,_,rfl⟩:=jc.mp ht;exact⟨_,rfl,bw (s':=⟨sv (.own w)::[sv (P.ln k).val],m2⟩) (jJ (t:=(P.ln k).cond) rfl (Ew k)) ⟨_,rfl,rfl,_,rfl⟩⟩
 ·obtain⟨h1,u,h2⟩:=hp
  rw[h2];exact⟨h1,rfl,S2,h.2.2.trans F2⟩
def AE(o:P.ok)(I:BI m B m.length P s c [] rs false v [] lc d)(hr:rs.length<=500)(hp:s.2.length+4<=900)(hl:lc+6000<600000)(hd:d+4<600000):W (cN (n+13) 86 [.own B] m) (HO m B P (P.rows s (if rs=[]then[]else[rs])).2 rs true v.lg (d+4*(if rs=[]then([]:Ap)else[rs]).length) (P.rows s (if rs=[]then[]else[rs])).1):=by
 rw[w86];have I1:BI (m.set B (jr B c rs true)) B m.length P s c [] rs true v [] lc d:=I.OV;have F1:Fr (NX B v.lg m.length) m (m.set B (jr B c rs true)):=Fr.set (.inl ⟨by omega,by omega⟩)
 refine iW rfl (b7 (dE (mE (k:=B) (t:=.non) rfl I.b rfl rfl (qz (n+11) I)) ⟨rfl,b7 (W.of (Lb (r:=[]) (c':=c) (rs':=rs) (Ez:=true) (t:=.bl true) I.b rfl rfl) ⟨rfl,?_⟩)⟩));obtain⟨m1,Up⟩:∃m1,m1=m.set B (jr B c rs true):=⟨_,rfl⟩;rw[<- Up]at I1 F1;show WB _ ⟨[sv (.own B)],m.set B (jr B c rs true)⟩ _;rw[<- Up];obtain⟨rws,yV⟩:∃rws,rws=(if rs=[]then[]else[rs]):=⟨_,rfl⟩
 rw[<- yV];have step:W (aR (bu (bA (aM .NotEq) (au M.P.tab 35 zA) (cS []))) (aK (av (ak [(25,88)] (cN (n+12))) zA (k1 (au M.P.tab 35 zA)))) aC ⟨[sv (.own B)],m1⟩) λp=>p.1=.nx/\∃m2 c' ws,p.2=⟨[sv (.own B)],m2⟩/\BI m2 B m.length P s c' ws rs true v [] lc d/\ws.map (·.2)=rws/\Fr (NX B v.lg m.length) m1 m2:=by
  have c1:bu (bA (aM .NotEq) (au M.P.tab 35 zA) (cS [])) ⟨[sv (.own B)],m1⟩=.ok (!decide (rs=[]),⟨[sv (.own B)],m1⟩):=gz (aD (t:=.str rs) (u:=.str []) (dX I1.b (j:=4) rfl rfl) rfl rfl);by_cases hr:rs=[]
  ·rw[decide_eq_true hr]at c1
   rw[if_pos hr]at yV;exact bw c1 ⟨_,rfl,rfl,m1,c,[],rfl,I1,yV.symm,Fr.refl⟩
  ·rw[decide_eq_false hr]at c1
   rw[if_neg hr]at yV;obtain⟨⟨t,m2⟩,e,_,k,I2,F2⟩:=yT (n+10) (x:=rs) I1 (by show 0<_;omega) (by omega)
   exact f9 c1 (dE (mE (k:=B) rfl I1.b rfl (az (dX I1.b (j:=4) rfl rfl) rfl) e) ⟨rfl,m2,_,_,rfl,I2,yV.symm,F2⟩)
 refine b7 (step.mono λp hp=>?_);obtain⟨h1,m2,c',ws,h2,I2,h3,F2⟩:=hp;refine⟨h1,?_⟩;rw[h2];have lw:ws.length=rws.length:=by rw[<- h3,b_]
 have lw1:ws.length<=1:=by
  rw[lw,yV];split<;>simp
 obtain⟨⟨t3,m3⟩,e4,ht3,v3,I3,g3,F3⟩:=all_eq n o I2 (by omega) (by omega) (by omega)
 refine b7 (dE (mE (k:=B) (t:=t3) rfl I2.b rfl rfl e4) ⟨rfl,?_⟩);rw[lL,h3]at I3;obtain⟨log,S3,G3,L3⟩:=I3.H.S;obtain⟨⟨t4,m4⟩,e5,_,S4,F4⟩:=IU (n+10) S3 I3.V.ln I3.V.hd (by omega)
 have H4:WH m4 (B+1) v3 _ _ (lc+6000*ws.length+2):=I3.H.of S4 (OP (by decide) (OP (by decide) G3)) (by simp;omega) F4 rfl rfl
 have n1:=I3.n1;have n2:=I3.n2;have hlv:=I3.V.lg;have I4:BI m4 B m.length P (P.rows s rws).2 c' [] rs true v3 (P.rows s rws).1 (lc+6000*ws.length+2) (d+4*ws.length):=by
  obtain⟨g,ks,ts,hu,U,hg,OS⟩:=I3.u;have no:∀j,j=B\/j=B+2\/j=B+3\/j=B+9->¬ WX (B+1) v3 j:=λj hj z=>by
   rcases z with z|z<;>omega
  exact⟨H4,I3.V,F4.get I3.b (no _ (.inl rfl)),F4.get I3.q (no _ (.inr (.inr (.inr rfl)))),F4.get I3.t (no _ (.inr (.inl rfl))),⟨g,ks,ts,F4.get hu (no _ (.inr (.inr (.inl rfl)))),U,hg,OS⟩,n1,n2,fK I3.n3 F4.le,λp hp=>(by cases hp),Bc.nil⟩
 refine b7 (dE (mE (k:=B+1) (t:=t4) (dX I3.b (j:=0) rfl rfl) S3.o rfl rfl e5) ⟨rfl,?_⟩);obtain⟨⟨t5,m5⟩,e6,h5⟩:=uY (m0:=m) (n+10) I4 (by
  rw[g3];exact((F1.trans F2).trans F3).trans (F4.mono λj hj=>by
   rcases hj with hj|hj
   ·exact .inl ⟨by omega,by omega⟩
   ·exact .inr (.inl (by omega)))) g3
 rw[lw]at h5;obtain⟨aab,S4',_,_⟩:=I4.H.S;exact yz (mE (k:=B+1) (dX I4.b (j:=0) rfl rfl) S4'.o rfl rfl e6) h5
end
def Yg{g:FG}{F:FS}{o:FE}{s:S}{kb:Nat}{ks:List Ky}{ts:FV}{r':FK}(ho:o s=.ok (.own kb,s))(hm:s.m[kb]?=some ⟨M.bc,[.od ks ts]⟩)(hg:qp g F ts ⟨s.r,s.m.set kb ⟨M.bc,[]⟩⟩=.ok (.nx,⟨r',s.m.set kb ⟨M.bc,[]⟩⟩)):Dr M.bc g F o s=.ok (.nx,⟨r',s.m⟩):=by
 unfold Dr;rw[ho];refine Eq.trans (bo _ _) ?_;dsimp only;rw[ly hm];refine Eq.trans (bo _ _) ?_;dsimp only;rw[hg];refine Eq.trans (bo _ _) ?_;dsimp only;rw[cj (c_.mp hm).1];dsimp only;rw[if_pos ⟨rfl,rfl⟩,List.set_set,set_same hm]
def EH:T->T:=λ_=>.int 1
theorem uZ:∀l:FV,∃ns:Fh,lj (l.map EH)=some ns/\ns.sum=l.length
 |[]=>⟨[],rfl,rfl⟩
 |t::l=>by
  obtain⟨ns,h,e⟩:=uZ l;refine⟨1::ns,?_,?_⟩
  ·show(lj (l.map EH)).map _=_
   rw[h];rfl
  ·rw[Bm,e,eT];omega
def IV(l:FV):Am [.lst (l.map EH)]=some (.int l.length):=by
 obtain⟨ns,h,e⟩:=uZ l;show(lj (l.map EH)).map _=_;rw[h,JV,e]
section
variable{P:PG}{m:He}{w B N lc d:Nat}{s:US}{c:Int}{rs:Bi}{fn:Bool}{v:WV}{gv heap:Ap}
def wU(H:WH m w v gv heap lc)(hp:heap.length<=1000):cN (n+1) 83 [.own w] m=.ok (.int heap.length,m):=by
 rw[w83];obtain⟨log,S',_,_⟩:=H.S;obtain⟨ks,ts,h,h2⟩:=H.sh;obtain⟨u,hu⟩:∃u,qp (setG 2) (tD fD 1 (bz Am (k1 (fq (cC (k7 zC) 2 [] (setG 1) fm (oI zB zI)))))) ts ⟨[sv (.own w),sv (.int 0),none],m.set v.sh ⟨M.bc,[]⟩⟩=.ok (.nx,⟨[sv (.own w),sv (.int heap.length),u],m.set v.sh ⟨M.bc,[]⟩⟩):=by
  rcases h2 with⟨_,rfl,rfl⟩|⟨_,rfl⟩
  ·exact⟨none,rfl⟩
  ·refine⟨sv (.lst (heap.map hT)),?_⟩
   have e:bz Am (k1 (fq (cC (k7 zC) 2 [] (setG 1) fm (oI zB zI)))) ⟨[sv (.own w),sv (.int 0),sv (.lst (heap.map hT))],m.set v.sh ⟨M.bc,[]⟩⟩=.ok (.int heap.length,⟨[sv (.own w),sv (.int 0),sv (.lst (heap.map hT))],m.set v.sh ⟨M.bc,[]⟩⟩):=by
    refine dW (ts:=[.lst ((heap.map hT).map EH)]) (az (Vn (Oz (t:=.lst (heap.map hT)) rfl rfl) (by rw[b_];omega) rfl (c5 λt ht=>?_)) rfl) (by rw[IV,b_])
    obtain⟨x,_,rfl⟩:=jc.mp ht;exact⟨[none,sv (hT x)],[none,sv (hT x)],rfl,rfl⟩
   unfold qp;refine Eq.trans (bo _ _) ?_;unfold tD;refine Eq.trans (congrArg (λz=>Res.bind (Res.bind z _) _) e) ?_;show Res.ok (Out.nx,(⟨[sv (.own w),sv (.int (0+(heap.length:Nat))),_],_⟩:S))=_;rw[zm]
 exact ee (s':=⟨[sv (.own w),sv (.int heap.length),u],m⟩) rfl (seq1 (s':=⟨[sv (.own w),sv (.int 0),none],m⟩) rfl (seq1 (s':=⟨[sv (.own w),sv (.int heap.length),u],m⟩) (Yg (w_fld S' (j:=9) rfl rfl) h hu) rfl)) rfl
def IW(I:BI m B N P s c [] rs fn v gv lc d)(hp:s.2.length<=1000):cN (n+2) 90 [.own B] m=.ok (.int s.2.length,m):=by
 rw[w90];obtain⟨log,S',_,_⟩:=I.H.S;exact ee (s':=⟨[sv (.own B)],m⟩) rfl (gI (aD (t:=.int 0) (u:=.int s.2.length) (aD (t:=.int 0) (u:=.int 0) (EB (dX I.b (j:=3) rfl rfl) I.q) (iy (k:=B+1) (dX I.b (j:=0) rfl rfl) S'.o rfl (by rw[<- I.V.hr];rfl)) rfl) (mE (k:=B+1) (dX I.b (j:=0) rfl rfl) S'.o rfl rfl (wU n I.H hp)) (by show some (T.int (0+(s.2.length:Nat)))=_;rw[zm]))) rfl
abbrev jL(P:PG):T:=.obj 0 [.lst P.iX]
def wV:P.iX=bC (P.ks.map P.ln):=by
 unfold bC PG.iX;rw[gR];rfl
def EI(o:P.ok):∀x∈P.ks.map P.ln,Lk x:=by
 rw[<- P.prog];exact yN o.a o.b o.c o.m
def yW(o:P.ok):aW P.iX=true:=by rw[wV];exact dB _ (EI o)
def IX(o:P.ok):cN (n+1) 21 [.lst P.iX] m=.ok (.iA [] [],m):=by
 rw[Ŋ,wV];have hv:=EI o
 generalize P.ks.map P.ln=xs at hv
 refine W.eq (uF ?_ (iW rfl (b7 (W.of (a:=(Out.nx,(⟨[sv (.lst (bC xs)),some (.od [] []),none,none],[]⟩:S))) rfl ⟨rfl,b7 (fF (W.of (a:=(fR 1 (bC xs),(⟨[sv (.lst (bC xs)),some (.od [] []),none,none],[]⟩:S))) rfl ((Ed λx u=>bw (jJ (t:=x.kP) rfl (Ec x)) ⟨_,rfl,rfl,rfl⟩).mono λp hp=>⟨hp.1,?_⟩)))⟩))))
 ·show(aW (bC xs)&&true)=true
  rw[dB xs hv];rfl
 ·obtain⟨_,u,v,e⟩:=hp
  rw[e];exact yz (t:=.iA [] []) (s':=⟨[sv (.lst (bC xs)),sv (.iA [] []),u,v],[]⟩) rfl ⟨rfl,rfl⟩
def EJ(k:LK):noOwn (P.ln k).cond=true:=by
 cases k
 ·exact r6
 ·exact r6
 ·exact Ep
def IY(k:LK):cN (n+1) 23 [(P.ln k).cond] m=.ok (.int 0,m):=by
 rw[Ŏ];refine sEq ?_ rfl rfl ?_
 ·show(noOwn (P.ln k).cond&&true)=true
  rw[EJ];rfl
 ·cases k<;>exact bN rfl (bN rfl (bN rfl (bR rfl rfl)))
def Lf:T->T:=λ_=>.int 0
def EK(o:P.ok):cN (n+2) 22 [jL P] m=.ok (.int 0,m):=by
 rw[Ō];have hu:P.iX.map Lf=[.int 0,.int 0,.int 0,.int 0]:=by
  unfold PG.iX PG.ks;cases P.rv<;>rfl
 have e:=Vn (c:=fm) (src:=k7 (au M.P.tab 0 zA)) (n:=2) (js:=[]) (g:=setG 1) (e:=aw (cN (n+1) 23) [] (k1 (au M.P.tab 1 zB))) (s:=⟨[sv (jL P)],[]⟩) (ts:=P.iX) (us:=P.iX.map Lf) rfl (by rw[b_,r9];omega) rfl (c5 λt ht=>by
  obtain⟨k,_,rfl⟩:=jc.mp ht;exact⟨[none,sv (P.ln k).val],[none,sv (P.ln k).val],rfl,cE (ts:=[(P.ln k).cond]) rfl (IY n k)⟩)
 rw[hu]at e;refine sEq ?_ rfl rfl (bR (t:=.int 0) ?_ rfl)
 ·show((aW P.iX&&true)&&true)=true
  rw[yW o];rfl
 ·unfold HC
  refine Eq.trans (congrArg (λz=>Res.bind z _) e) ?_;rfl
end
section
variable{m Z Z':He}{r:FK}{j k f:Nat}{t:T}{ob nJ x:Ob}{a:FE}{P:PG}
def gA:(m++Z)[m.length+j]?=Z[j]?:=by rw[e_ (A2 ..),Jp]
def sA:(m++Z).set (m.length+j) x=m++Z.set j x:=by rw[Bs _ _ (A2 ..),Jp]
def Ur(ha:a ⟨sv (.own (m.length+j))::r,m++Z⟩=.ok (t,⟨sv (.own (m.length+j))::r,m++Z'⟩))(hz:Z'[j]?=some ob)(hp:cX M.P.tab f (.val t) ob=some nJ):aJ M.P.tab f zA a ⟨sv (.own (m.length+j))::r,m++Z⟩=.ok (.nx,⟨sv (.own (m.length+j))::r,m++Z'.set j nJ⟩):=by
 unfold aJ;rw[ha];refine Eq.trans (bo _ _) ?_;show Res.bind (aT (((m++Z')[m.length+j]?).bind _)) _=_;rw[gA,hz];show Res.bind (aT (cX M.P.tab f (.val t) ob)) _=_;rw[hp];show Res.ok (Out.nx,(⟨_,(m++Z').set (m.length+j) nJ⟩:S))=_;rw[sA]
def IZ:lW M.bc ⟨r,m++Z⟩=.ok (.own (m.length+Z.length),⟨r,m++(Z++[aN])⟩):=by
 unfold lW;rw[dg,<- gQ];rfl
def Yh:ig M.bc (iR ba) ⟨r,m++Z⟩=.ok (.own (m.length+Z.length),⟨r,m++(Z++[c7 []])⟩):=by
 show Res.ok (T.own (m++Z).length,(⟨r,(m++Z)++[c7 []]⟩:S))=_;rw[dg,gQ]
def Us{c:Nat}{g:Fn}{fl:FL}{ts:FV}{m':He}(h:fl ⟨r,m++Z⟩=.ok (ts,⟨r,m++Z⟩))(k:g (.own (m.length+Z.length)::ts) (m++(Z++[⟨c,[]⟩]))=.ok (.non,m')):iN c g fl ⟨r,m++Z⟩=.ok (.own (m.length+Z.length),⟨r,m'⟩):=by
 rw[<- dg]at k ⊢;rw[<- gQ]at k;exact Au (s':=⟨r,m++Z⟩) h k
abbrev lZ(B:Nat)(P:PG):Ob:=⟨23,[.val (.lst P.jq),.val (.own (B+3))]⟩
def EL:P.iX.map (λt=>match t with|.obj _ (c::_)=>c|t=>t)=P.jq:=by
 unfold PG.iX PG.jq;rw[gR];rfl
def u0{a b:Ob}:cN (n+1) 63 [.own (m.length+2),.lst P.iX] (m++[a,b,⟨23,[]⟩])=.ok (.non,m++[a,b,lZ m.length P,aN]):=by
 rw[w63];have e:=Vn (c:=fm) (src:=k7 zB) (n:=2) (js:=[]) (g:=setG 1) (e:=au M.P.tab 1 zB) (s:=⟨sv (.own (m.length+2))::[sv (.lst P.iX)],m++[a,b,⟨23,[]⟩]⟩) (ts:=P.iX) (us:=P.jq) rfl (by rw[b_,r9];omega) rfl (by
  rw[<- EL];refine c5 λt ht=>?_;obtain⟨k,_,rfl⟩:=jc.mp ht;exact⟨[none,sv (P.ln k).val],[none,sv (P.ln k).val],rfl,rfl⟩)
 exact wG (s':=⟨sv (.own (m.length+2))::[sv (.lst P.iX)],m++[a,b,lZ m.length P,aN]⟩) rfl (seq1 (Ur (j:=2) (Z':=[a,b,⟨23,[]⟩]) e rfl rfl) (Ur (j:=2) (Z:=[a,b,⟨23,[.val (.lst P.jq)]⟩]) (Z':=[a,b,⟨23,[.val (.lst P.jq)]⟩,aN]) (t:=.own (m.length+3)) IZ rfl rfl)) rfl
def u1(B:Nat)(P:PG):WV:=⟨P.iX,.iA [] [],B+2,.lst [],0,B+4,0,.non,0,B+5,B+6,B+7,B+8,false⟩
abbrev wO(B:Nat)(P:PG)(k:Nat):Ob:=⟨24,(u1 B P).ob.fs.take k⟩
def yX{e:FE}{F:FS}{Q:Res (Out×S)}(ha:e ⟨sv (.own (m.length+1))::r,m++ob::wO m.length P k::Z⟩=.ok (t,⟨sv (.own (m.length+1))::r,m++ob::wO m.length P k::Z'⟩))(hp:cX M.P.tab f (.val t) (wO m.length P k)=some (wO m.length P (k+1)))(h:F ⟨sv (.own (m.length+1))::r,m++ob::wO m.length P (k+1)::Z'⟩=Q):af (aJ M.P.tab f zA e) F ⟨sv (.own (m.length+1))::r,m++ob::wO m.length P k::Z⟩=Q:=seq1 (Ur (j:=1) ha rfl hp) h
def OW{w:Nat}{v:WV}{log:FV}(S':WS m w v log)(hl:log.length+1<900000):cN (n+1) 68 [.own w] m=.ok (.non,(m.set v.lg (c7 (log++[dC v.tk]))).set w {v with wt:=true}.ob):=by
 rw[ZG];have S1:=S'.app (t:=dC v.tk) (by simpa using hl)
 refine wG (s':=⟨sv (.own w)::[],(m.set v.lg (c7 (log++[dC v.tk]))).set w {v with wt:=true}.ob⟩) rfl (seq1 (uP S' (t:=dC v.tk) (r:=[]) ?_) (Eo S1 (t:=.bl true) (v':={v with wt:=true}) rfl rfl)) rfl
 exact dW (az (t:=.str [119,97,110,116]) rfl (az (aD (w_fld S' (j:=6) (t:=.int v.tk) rfl rfl) rfl rfl) rfl)) rfl
def u2(o:P.ok):cN (n+2) 67 [.own (m.length+1),jL P] (m++[ob,⟨24,[]⟩])=.ok (.non,m++[ob,{u1 m.length P with wt:=true}.ob,lZ m.length P,aN,aN,aN,aN,c7 [],c7 [dC 0]]):=by
 rw[w67];refine wG (s':=⟨sv (.own (m.length+1))::[sv (jL P)],m++[ob,{u1 m.length P with wt:=true}.ob,lZ m.length P,aN,aN,aN,aN,c7 [],c7 [dC 0]]⟩) rfl ?_ rfl
 show af _ _ ⟨sv (.own (m.length+1))::[sv (jL P)],m++ob::wO m.length P 0::[]⟩=_;refine yX (t:=.lst P.iX) (Z':=[]) rfl rfl (yX (t:=.iA [] []) (Z':=[]) (cE (ts:=[.lst P.iX]) (az (iy (k:=m.length+1) (ob:=wO m.length P 1) (j:=0) rfl (gA (j:=1)) rfl rfl) rfl) (IX n o)) rfl ?_);refine yX (t:=.own (m.length+2)) (Z':=[lZ m.length P,aN]) (Us (ts:=[.lst P.iX]) (az (iy (k:=m.length+1) (ob:=wO m.length P 2) (j:=0) rfl (gA (j:=1)) rfl rfl) rfl) (u0 n)) rfl ?_;refine yX (t:=.lst []) (Z':=[lZ m.length P,aN]) rfl rfl (yX (t:=.int 0) (Z':=[lZ m.length P,aN]) rfl rfl ?_);refine yX (t:=.own (m.length+4)) (Z':=[lZ m.length P,aN,aN]) IZ rfl ?_;refine yX (t:=.int 0) (Z':=[lZ m.length P,aN,aN]) rfl rfl (yX (t:=.non) (Z':=[lZ m.length P,aN,aN]) rfl rfl (yX (t:=.int 0) (Z':=[lZ m.length P,aN,aN]) rfl rfl ?_));refine yX (t:=.own (m.length+5)) (Z':=[lZ m.length P,aN,aN,aN]) IZ rfl ?_;refine yX (t:=.own (m.length+6)) (Z':=[lZ m.length P,aN,aN,aN,aN]) IZ rfl ?_;refine yX (t:=.own (m.length+7)) (Z':=[lZ m.length P,aN,aN,aN,aN,c7 []]) Yh rfl ?_;refine yX (t:=.own (m.length+8)) (Z':=[lZ m.length P,aN,aN,aN,aN,c7 [],c7 []]) Yh rfl ?_;refine yX (t:=.bl false) (Z':=[lZ m.length P,aN,aN,aN,aN,c7 [],c7 []]) rfl rfl ?_;have S0:WS (m++[ob,(u1 m.length P).ob,lZ m.length P,aN,aN,aN,aN,c7 [],c7 []]) (m.length+1) (u1 m.length P) []:=⟨gA (j:=1),gA (j:=8),by show m.length+8≠m.length+1;omega,by decide⟩
 have e:=OW n S0 (by decide)
 have e1:(m++[ob,(u1 m.length P).ob,lZ m.length P,aN,aN,aN,aN,c7 [],c7 []]).set (u1 m.length P).lg (c7 ([]++[dC (u1 m.length P).tk]))=m++[ob,(u1 m.length P).ob,lZ m.length P,aN,aN,aN,aN,c7 [],c7 [dC 0]]:=sA (j:=8);rw[e1,sA (j:=1)]at e;show aK _ ⟨sv (.own (m.length+1))::[sv (jL P)],m++[ob,(u1 m.length P).ob,lZ m.length P,aN,aN,aN,aN,c7 [],c7 []]⟩=_;unfold aK;rw[mE (k:=m.length+1) (ob:=(u1 m.length P).ob) rfl (gA (j:=1)) rfl rfl e];rfl
abbrev bO(B k:Nat):Ob:=⟨25,(jr B 0 [] false).fs.take k⟩
def Ut{e:FE}{F:FS}{Q:Res (Out×S)}(ha:e ⟨sv (.own m.length)::r,m++bO m.length k::Z⟩=.ok (t,⟨sv (.own m.length)::r,m++bO m.length k::Z'⟩))(hp:cX M.P.tab f (.val t) (bO m.length k)=some (bO m.length (k+1)))(h:F ⟨sv (.own m.length)::r,m++bO m.length (k+1)::Z'⟩=Q):af (aJ M.P.tab f zA e) F ⟨sv (.own m.length)::r,m++bO m.length k::Z⟩=Q:=seq1 (Ur (j:=0) ha rfl hp) h
def oF(o:P.ok):cN (n+3) 84 [.own m.length,jL P] (m++[⟨25,[]⟩])=.ok (.non,m++[jr m.length 0 [] false,{u1 m.length P with wt:=true}.ob,lZ m.length P,aN,aN,aN,aN,c7 [],c7 [dC 0],c7 []]):=by
 rw[w84];obtain⟨Z,hZ⟩:∃Z:He,Z=[{u1 m.length P with wt:=true}.ob,lZ m.length P,aN,aN,aN,aN,c7 [],c7 [dC 0]]:=⟨_,rfl⟩
 have hl:Z.length=8:=by rw[hZ];rfl
 have ew:=u2 n o (m:=m) (ob:=bO m.length 0);refine wG (s':=⟨sv (.own m.length)::[sv (jL P)],m++[jr m.length 0 [] false,{u1 m.length P with wt:=true}.ob,lZ m.length P,aN,aN,aN,aN,c7 [],c7 [dC 0],c7 []]⟩) rfl ?_ rfl
 show af _ _ ⟨sv (.own m.length)::[sv (jL P)],m++bO m.length 0::[]⟩=_;refine Ut (t:=.own (m.length+1)) (Z':=Z) ((Us (ts:=[jL P]) rfl ew).trans (by rw[hZ];rfl)) rfl ?_
 refine Ut (t:=.int 0) (Z':=Z) (cE (ts:=[jL P]) rfl (EK n o)) rfl (Ut (t:=.int 0) (Z':=Z) rfl rfl ?_);have ln:ig M.bc (iR ba) ⟨sv (.own m.length)::[sv (jL P)],m++bO m.length 3::Z⟩=.ok (.own (m.length+9),⟨sv (.own m.length)::[sv (jL P)],m++bO m.length 3::(Z++[c7 []])⟩):=by
  have:=Yh (m:=m) (Z:=bO m.length 3::Z) (r:=sv (.own m.length)::[sv (jL P)])
  rw[eT,hl]at this;exact this
 refine Ut (t:=.own (m.length+9)) (Z':=Z++[c7 []]) ln rfl (Ut (t:=.str []) (Z':=Z++[c7 []]) rfl rfl ?_);refine(Ur (j:=0) (t:=.bl false) (nJ:=jr m.length 0 [] false) (Z':=bO m.length 5::(Z++[c7 []])) rfl rfl rfl).trans ?_;rw[hZ];rfl
def j_(P:PG)(m:He):∃m' v,m'=m++[jr m.length 0 [] false,{u1 m.length P with wt:=true}.ob,lZ m.length P,aN,aN,aN,aN,c7 [],c7 [dC 0],c7 []]/\BI m' m.length m'.length P (false,[]) 0 [] [] false v [] 10 0/\v.lg=m.length+8:=by
 refine⟨_,{u1 m.length P with wt:=true},rfl,⟨⟨⟨[dC 0],⟨gA (j:=1),gA (j:=8),?_,by decide⟩,OP (ys:=[.int 1]) (by decide) Um,by decide⟩,⟨[],[],gA (j:=5),.inl ⟨rfl,rfl,rfl⟩⟩,?_,?_⟩,⟨rfl,rfl,rfl,rfl,rfl,rfl,.inl rfl⟩,gA (j:=0),gA (j:=9),gA (j:=2),⟨λ_=>false,[],[],gA (j:=3),⟨rfl,λ_=>rfl⟩,?_,bV _⟩,?_,?_,bV _,λp hp=>(by cases hp),Bc.nil⟩,rfl⟩
 ·show m.length+8≠m.length+1;omega
 ·show m.length+5≠m.length+1;omega
 ·show m.length+5≠m.length+8;omega
 ·unfold PG.two
  split<;>exact⟨rfl,rfl⟩
 ·rw[dg];exact bV _
 ·rw[dg];show m.length+8<m.length+10;omega
end
abbrev eE(up:Bool)(heap:Ap)(left:Bi)(room:Int):Ob:=⟨M.bc,[.od [.s zu,.s zh,.s zl,.s zr] [.bl up,.lst (heap.map T.str),.str left,.int room]]⟩
section
variable{m:He}{k:Nat}{up up':Bool}{heap heap':Ap}{left yY:Bi}{room Lg:Int}{a o:FE}{s s':S}{t:T}
def Uu(h:s.m[k]?=some (eE up heap left room))(ho:o s=.ok (.own k,s)):dz M.bc o (cS zu) s=.ok (.bl up,s):=Az (ky:=.s zu) ho rfl rfl h rfl
def oG(h:s.m[k]?=some (eE up heap left room))(ho:o s=.ok (.own k,s)):dz M.bc o (cS zh) s=.ok (.lst (heap.map T.str),s):=Az (ky:=.s zh) ho rfl rfl h rfl
def sd(h:s.m[k]?=some (eE up heap left room))(ho:o s=.ok (.own k,s)):dz M.bc o (cS zl) s=.ok (.str left,s):=Az (ky:=.s zl) ho rfl rfl h rfl
def EM(h:s.m[k]?=some (eE up heap left room))(ho:o s=.ok (.own k,s)):dz M.bc o (cS zr) s=.ok (.int room,s):=Az (ky:=.s zr) ho rfl rfl h rfl
def yZ{x:Bi}{u:T}{z:List Ky×FV}(ha:a s=.ok (u,s'))(ho:o s'=.ok (.own k,s'))(h:s'.m[k]?=some (eE up heap left room))(hz:bQ [.s zu,.s zh,.s zl,.s zr] [.bl up,.lst (heap.map T.str),.str left,.int room] (.s x) u=z):dI M.bc o (cS x) a s=.ok (.nx,⟨s'.r,s'.m.set k ⟨M.bc,[.od z.1 z.2]⟩⟩):=by
 rw[<- hz];exact Es (ky:=.s x) ha ho rfl rfl h (by decide)
def Uv(ha:a s=.ok (.bl up',s'))(ho:o s'=.ok (.own k,s'))(h:s'.m[k]?=some (eE up heap left room)):dI M.bc o (cS zu) a s=.ok (.nx,⟨s'.r,s'.m.set k (eE up' heap left room)⟩):=yZ ha ho h ((if_pos (by decide)).trans rfl)
def wW(ha:a s=.ok (.lst (heap'.map T.str),s'))(ho:o s'=.ok (.own k,s'))(h:s'.m[k]?=some (eE up heap left room)):dI M.bc o (cS zh) a s=.ok (.nx,⟨s'.r,s'.m.set k (eE up heap' left room)⟩):=yZ ha ho h ((if_pos (by decide)).trans rfl)
def EN(ha:a s=.ok (.str yY,s'))(ho:o s'=.ok (.own k,s'))(h:s'.m[k]?=some (eE up heap left room)):dI M.bc o (cS zl) a s=.ok (.nx,⟨s'.r,s'.m.set k (eE up heap yY room)⟩):=yZ ha ho h ((if_pos (by decide)).trans rfl)
def OX(ha:a s=.ok (.int Lg,s'))(ho:o s'=.ok (.own k,s'))(h:s'.m[k]?=some (eE up heap left room)):dI M.bc o (cS zr) a s=.ok (.nx,⟨s'.r,s'.m.set k (eE up heap left Lg)⟩):=yZ ha ho h ((if_pos (by decide)).trans rfl)
end
def mod_eq{i j:Int}(h:0<j):dP .Mod (.int i) (.int j)=some (.int (i % j)):=lu h
def div_eq{i j:Int}(h:0<j/\j<1073741824):dP .FloorDiv (.int i) (.int j)=some (.int (i/j)):=lu h
def in1(c:Nat)(l:Bi):aM .In (.str [c]) (.str l)=some (.bl (decide (c∈l))):=rfl
def Yi(c:Nat)(l:Bi):aM .NotIn (.str [c]) (.str l)=some (.bl (!decide (c∈l))):=rfl
def EO{α:Type}{l:List α}{i:Int}(h:0<=i):cA l (some i) none=l.drop i.toNat:=by
 have e:gK l.length 0 (some i)=min i.toNat l.length:=if_neg (by omega)
 unfold cA;rw[e];refine(xf (by rw[vn];exact bV _)).trans ?_
 by_cases hi:i.toNat<=l.length
 ·rw[A7 hi]
 ·rw[Nat.min_eq_right (by omega),Ba,JI (by omega)]
structure FP(P:PG)(f:Int):Prop where
 rv:P.rv=decide (f % 2=1)
 mo:(0<f/2 % 3/\∃g,P.mo=some (g,1+f/6 % 4))\/(¬ 0<f/2 % 3/\P.mo=none)
abbrev km(P:PG):T:=.lst [.str [P.a],.str [P.b],.str [P.c]]
def LK.wy:LK->Int
 |.pl=>0
 |.sa=>2
 |.br=>1
def strs_snoc(l:Ap)(x:Bi):l.map T.str++[T.str x]=(l++[x]).map T.str:=by rw[jv];rfl
def u3(l g:Ap):l.map T.str++g.map T.str=(l++g).map T.str:=(jv ..).symm
def Yj{a b:FE}{s:S}{x y:Bool}(h:a s=.ok (.bl x,s))(h2:b s=.ok (.bl y,s)):Pe a b s=.ok (.bl (x ||y),s):=by
 unfold Pe;rw[h];refine Eq.trans (bo _ _) ?_;cases x with
 |true=>rfl
 |false=>exact h2
section
variable{P:PG}{m:He}{k:Nat}{up b1:Bool}{g heap:Ap}{left x:Bi}{room f:Int}{w:Option C}
abbrev jM(P:PG)(k:Nat)(x:Bi)(f:Int)(b1:Bool)(g:Ap)(w:Option C)(m:He):S:=⟨[sv (.own k),sv (.str x),sv (.int f),sv (km P),sv (.bl b1),some (.ol (g.map T.str)),w],m⟩
def Lh{c:FT}{A B:FS}{s:S}{Q:Out×S->Prop}(h:c s=.ok (false,s))(w:W (B s) Q):W (af (aR c A aC) B s) Q:=dJ (bw h ⟨_,rfl,rfl,w⟩)
def OY(F:FP P f)(y:LK){ER:Bool}(hb:b1=(ER ||decide (P.a∈x)))(h:m[k]?=some (eE up heap left room))(hp:heap.length<=1000)(hg:g.length<=3000) :
  W (Ow (jM P k x f b1 g (sv (.int y.wy)) m)) λp=>p.1=.nx/\∃m',p.2=jM P k x f b1 (P.st x (g,heap) (y,P.vh x ER y)).1 (sv (.int y.wy)) m'/\m'[k]?=some (eE up (P.st x (g,heap) (y,P.vh x ER y)).2 left room)/\Fr (λj=>j=k) m m':=by
 have hk:=(c_.mp h).1;have c1:∀(i:Int){g:Ap}{m:He},bu (oE (vF 6) (cI i)) (jM P k x f b1 g (sv (.int y.wy)) m)=.ok (decide (y.wy=i),jM P k x f b1 g (sv (.int y.wy)) m):=λi=>gz (aD rfl rfl (uN _ _));have c2:∀(i:Int){g:Ap}{m:He},gu (bu (oE (vF 6) (cI i))) (D.tB (vF 4)) (jM P k x f b1 g (sv (.int y.wy)) m)=.ok (decide (y.wy=i)&&b1,jM P k x f b1 g (sv (.int y.wy)) m):=λi=>yE (c1 i) (yD rfl);have c3:∀{g:Ap}{m:He},gu (bu (oE (vF 6) zI)) (bu (bA (aM .In) (oI zD (cI 2)) zB)) (jM P k x f b1 g (sv (.int y.wy)) m)=.ok (decide (y.wy=1)&&decide (P.c∈x),jM P k x f b1 g (sv (.int y.wy)) m):=yE (c1 1) (gz (aD (t:=.str [P.c]) (u:=.str x) (aD rfl rfl rfl) rfl (in1 _ _)));unfold PG.st;cases y with
 |sa=>
  have ht:P.vh x ER .sa=b1:=hb.symm;rw[ht];have d2:gu (bu (oE (vF 6) (cI 2))) (D.tB (vF 4)) (jM P k x f b1 g (sv (.int 2)) m)=.ok (b1,jM P k x f b1 g (sv (.int 2)) m):=(c2 2).trans (by rw[decide_eq_true (show LK.sa.wy=2 from rfl),vv];rfl)
  have rest:∀{g:Ap},_:=λ{g}=>Lh (B:=aR (gu (bu (oE (vF 6) zI)) (bu (bA (aM .In) (oI zD (cI 2)) zB))) (af (gX 5 (o2 Hi (vF 5) (dz M.bc zA (cS zh)))) (dI M.bc zA (cS zh) (bz dj ba))) aC) (A:=(af (dI M.bc zA (cS zh) (oA (dz M.bc zA (cS zh)) (bz dj (k1 zB))))
 (aR (bu (bA (aM .Gt) (oM (oD zC (cI 2)) (cI 3)) zO))
  (dI M.bc zA (cS zh) (ph (dz M.bc zA (cS zh)) (ni (bz Ho (k2 zO (bA (dP .Sub) (bA (dP .Sub) (bz cD (k1 (dz M.bc zA (cS zh)))) zI) (oM (oD zC (cI 6)) (cI 4)))))) q_))
  aC))) (Q:=λp=>p.1=.nx/\p.2=jM P k x f b1 g (sv (.int 2)) m) (c2 0 (g:=g) (m:=m)) (bw (c3 (g:=g) (m:=m)) ⟨_,rfl,rfl,rfl⟩)
  cases b1 with
  |true=>
   refine dJ (f9 d2 (W.of (As (i:=5) (KZ:=g.map T.str) (ts:=g.map T.str) (t:=.str zu) rfl rfl rfl (by rw[b_];omega)) ⟨rfl,?_⟩))
   show W (af _ _ ⟨[sv (.own k),sv (.str x),sv (.int f),sv (km P),sv (.bl true),some (.ol (g.map T.str++[T.str zu])),sv (.int 2)],m⟩) _;rw[strs_snoc];exact rest.mono λp hp=>⟨hp.1,m,hp.2,h,Fr.refl⟩
  |false=>exact Lh d2 (rest.mono λp hp=>⟨hp.1,m,hp.2,h,Fr.refl⟩)
 |pl=>
  have ht:P.vh x ER .pl=b1:=hb.symm;rw[ht];have d0:gu (bu (oE (vF 6) zO)) (D.tB (vF 4)) (jM P k x f b1 g (sv (.int 0)) m)=.ok (b1,jM P k x f b1 g (sv (.int 0)) m):=(c2 0).trans (by rw[decide_eq_true (show LK.pl.wy=0 from rfl),vv];rfl)
  refine Lh (c2 2) ?_;cases b1 with
  |false=>exact Lh d0 (bw c3 ⟨_,rfl,rfl,m,rfl,h,Fr.refl⟩)
  |true=>
   obtain⟨m1,h1⟩:∃m1,m1=m.set k (eE up (heap++[x]) left room):=⟨_,rfl⟩;have o1:m1[k]?=some (eE up (heap++[x]) left room):=by rw[h1];exact cj hk
   have F1:Fr (λj=>j=k) m m1:=by rw[h1];exact Fr.set rfl
   refine dJ (f9 d0 (dJ (W.of (a:=(Out.nx,jM P k x f true g (sv (.int 0)) m1)) (by rw[h1];exact wW (s':=jM P k x f true g (sv (.int 0)) m) (aD (t:=.lst (heap.map T.str)) (u:=.lst [.str x]) (oG h rfl) rfl (by rw[uV (by rw[b_];show _+1<=_;omega),strs_snoc])) rfl h) ⟨rfl,?_⟩)))
   have cg:bu (bA (aM .Gt) (oM (oD zC (cI 2)) (cI 3)) zO) (jM P k x f true g (sv (.int 0)) m1)=.ok (decide (0<f/2 % 3),jM P k x f true g (sv (.int 0)) m1):=gz (aD (aD (aD rfl rfl (div_eq ⟨by omega,by omega⟩)) rfl (mod_eq (by omega))) rfl (rP _ _))
   rcases F.mo with⟨h3,gg,hm⟩|⟨h3,hm⟩
   ·rw[decide_eq_true h3]at cg
    obtain⟨m2,h2⟩:∃m2,m2=m1.set k (eE up (gJ P.mo heap x) left room):=⟨_,rfl⟩;have o2:m2[k]?=some (eE up (gJ P.mo heap x) left room):=by rw[h2];exact cj (c_.mp o1).1
    have F2:Fr (λj=>j=k) m1 m2:=by rw[h2];exact Fr.set rfl
    obtain⟨j,hj⟩:∃j:Int,j=((heap++[x]).length:Nat)-1-f/6 % 4:=⟨_,rfl⟩;have es:AK (some (if j > 0 then j else 0)) none (.lst ((heap++[x]).map T.str))=some (.lst ((gJ P.mo heap x).map T.str)):=by
     show some (T.lst (cA _ (some (if j > 0 then j else 0)) none))=_
     rw[EO (by split<;>omega),hm]
     show _=some (T.lst (((heap++[x]).drop (((heap++[x]).length:Int)-(1+f/6 % 4)).toNat).map T.str));rw[<- Bl,show(if j > 0 then j else 0).toNat=(((heap++[x]).length:Int)-(1+f/6 % 4)).toNat by split<;>omega]
    refine f9 cg (W.of (a:=(Out.nx,jM P k x f true g (sv (.int 0)) m2)) ?_ ⟨rfl,bw c3 ⟨_,rfl,rfl,m2,?_,o2,F1.trans F2⟩⟩)
    ·rw[h2]
     refine wW (Vm (t:=.lst ((heap++[x]).map T.str)) (x:=some (if j > 0 then j else 0)) (y:=none) (oG o1 rfl) (ZX (dW (ts:=[.int 0,.int j]) (az rfl (az (aD (t:=.int (((heap++[x]).length:Nat)-1)) (u:=.int (f/6 % 4)) (aD (t:=.int ((heap++[x]).length:Nat)) (u:=.int 1) (dW (ts:=[.lst ((heap++[x]).map T.str)]) (az (oG o1 rfl) rfl) (by show some (T.int (((heap++[x]).map T.str).length:Nat))=_;rw[b_])) rfl rfl) (aD (aD rfl rfl (div_eq ⟨by omega,by omega⟩)) rfl (mod_eq (by omega))) (by rw[hj];rfl)) rfl)) rfl)) rfl es) rfl o1
    ·show _=jM P k x f true (g++[]) _ m2
     rw[dc]
   ·rw[decide_eq_false h3]at cg
    refine bw cg ⟨_,rfl,rfl,bw c3 ⟨_,rfl,rfl,m1,?_,?_,F1⟩⟩
    ·show _=jM P k x f true (g++[]) _ m1
     rw[dc]
    ·show m1[k]?=some (eE up (gJ P.mo heap x) left room)
     rw[hm];exact o1
 |br=>
  refine Lh (c2 2) (Lh (c2 0) ?_);have d3:gu (bu (oE (vF 6) zI)) (bu (bA (aM .In) (oI zD (cI 2)) zB)) (jM P k x f b1 g (sv (.int 1)) m)=.ok (decide (P.c∈x),jM P k x f b1 g (sv (.int 1)) m):=(c3 (g:=g) (m:=m)).trans (by rw[decide_eq_true (show LK.br.wy=1 from rfl),vv];rfl)
  show W _ λ(p:Out×S)=>p.1=.nx/\∃m',p.2=jM P k x f b1 (if decide (P.c∈x)=true then(g++heap,[])else(g,heap)).1 (sv (.int 1)) m'/\m'[k]?=some (eE up (if decide (P.c∈x)=true then(g++heap,([]:Ap))else(g,heap)).2 left room)/\Fr (λj=>j=k) m m'
  cases hc:decide (P.c∈x)with
  |false=>
   rw[hc]at d3;exact bw d3 ⟨_,rfl,rfl,m,rfl,h,Fr.refl⟩
  |true=>
   rw[hc]at d3;refine f9 d3 (wOw (ts:=(g++heap).map T.str) (s1:=⟨[sv (.own k),sv (.str x),sv (.int f),sv (km P),sv (.bl b1),sv (.lst (g.map T.str)),sv (.int 1)],m⟩) ?_ (W.of (wW (heap':=[]) (s':=jM P k x f b1 (g++heap) (sv (.int 1)) m) rfl rfl h) ⟨rfl,m.set k (eE up [] left room),rfl,cj hk,Fr.set rfl⟩));exact ZQ (t:=.lst (g.map T.str)) (u:=.lst (heap.map T.str)) rfl (oG h rfl) ((lu (by rw[b_,b_];omega)).trans (by rw[u3]))
end
section
variable{P:PG}{m:He}{k:Nat}{up b1:Bool}{g heap:Ap}{left x:Bi}{room f:Int}{w:Option C}{s:US}
def y9{q:RH}{kb:LK×Bool}:(P.st x q kb).1.length<=q.1.length+q.2.length+1:=by
 unfold PG.st;split
 ·cases kb.1
  ·show(q.1++[]).length<=_
   rw[dc];omega
  ·show(q.1++[Py]).length<=_
   rw[dg,oN];omega
  ·show(q.1++q.2).length<=_
   rw[dg];omega
 ·omega
theorem ko:∀(l:List (LK×Bool))(q:RH)(H:Nat),q.2.length+l.length<=H->(l.foldl (P.st x) q).1.length<=q.1.length+l.length*(H+1)
 |[],_,_,_=>by rw[A_,Nat.zero_mul];exact bV _
 |kb::l,q,H,h=>by
  rw[eT]at h;rw[zd,eT,A4];have l1:=y9 (P:=P) (x:=x) (q:=q) (kb:=kb);have l2:=r8 (P:=P) (x:=x) (q:=q) (kb:=kb)
  have:=ko l (P.st x q kb) H (by omega)
  omega
def se(h:s.2.length<=900):(P.rw s x).1.length<=4000:=by
 have l:=ko (P:=P) (x:=x) (P.ks.zip (P.jQ x s.1)) ([],s.2) 904;rw[oO,b_,r9,wY]at l;have l:(P.run x (P.jQ x s.1) ([],s.2)).1.length<=0+4*905:=l (by show s.2.length+4<=_;omega)
 show((P.run x (P.jQ x s.1) ([],s.2)).1++[x]).length<=_;rw[dg,oN];omega
theorem ES(F:FP P f){ER:Bool}(hb:b1=(ER ||decide (P.a∈x))):∀(ys:List LK){g heap:Ap}{w:Option C}{m:He},m[k]?=some (eE up heap left room)->heap.length+ys.length<=1000->g.length+1001*ys.length<=3003 ->
  W (bZ (setG 6) Ow (ys.map λy=>T.int y.wy) (jM P k x f b1 g w m)) λp=>p.1=.nx/\∃w m',p.2=jM P k x f b1 ((ys.map λy=>(y,P.vh x ER y)).foldl (P.st x) (g,heap)).1 w m'/\m'[k]?=some (eE up ((ys.map λy=>(y,P.vh x ER y)).foldl (P.st x) (g,heap)).2 left room)/\Fr (λj=>j=k) m m'
 |[],g,heap,w,m,h,_,_=>⟨_,rfl,rfl,w,m,rfl,h,Fr.refl⟩
 |y::ys,g,heap,w,m,h,hp,hg=>by
  rw[eT]at hp hg;refine fX (r:=(jM P k x f b1 g (sv (.int y.wy)) m).r) rfl ((OY F y hb h (by omega) (by omega)).mono λp SW=>⟨SW.1,?_⟩)
  obtain⟨_,m1,e,h1,F1⟩:=SW;rw[e];have l1:=y9 (P:=P) (x:=x) (q:=(g,heap)) (kb:=(y,P.vh x ER y));have l2:=r8 (P:=P) (x:=x) (q:=(g,heap)) (kb:=(y,P.vh x ER y));have l1:_<=g.length+heap.length+1:=l1;have l2:_<=heap.length+1:=l2;refine(ES F hb ys h1 (by omega) (by omega)).mono λp hp=>⟨hp.1,?_⟩
  obtain⟨_,w',m',e2,h2,F2⟩:=hp;exact⟨w',m',e2,h2,F1.trans F2⟩
def PG.pH(P:PG):List LK:=if P.rv then[.br,.sa,.pl]else[.pl,.sa,.br]
def u4{q:RH}{t:Bool}:P.st x (P.st x q (.br,t)) (.br,t)=P.st x q (.br,t):=by
 unfold PG.st;cases t
 ·rfl
 ·show(q.1++q.2++[],_)=_
  rw[dc];rfl
def ET{q:RH}:P.run x (P.jQ x up) q=(P.pH.map λy=>(y,P.vh x up y)).foldl (P.st x) q:=by
 unfold PG.run PG.jQ PG.ks PG.pH;cases P.rv
 ·exact u4
 ·show P.st x (P.st x (P.st x (P.st x q _) _) _) _=P.st x (P.st x (P.st x q _) _) _
  rw[u4]
def step_eq(F:FP P f)(h:m[k]?=some (eE s.1 s.2 left room))(hq:s.2.length<=900):W (cN (n+1) 48 [.own k,.str x,.int f,km P] m) λp=>p.1=.lst ((P.rw s x).1.map T.str)/\p.2[k]?=some (eE (P.rw s x).2.1 (P.rw s x).2.2 left room)/\Fr (λj=>j=k) m p.2:=by
 rw[w48];obtain⟨b1,hb⟩:∃b1,b1=(s.1 ||decide (P.a∈x)):=⟨_,rfl⟩;have e0:Pe (dz M.bc zA (cS zu)) (bA (aM .In) (oI zD zO) zB) ⟨[sv (.own k),sv (.str x),sv (.int f),sv (km P),none,none,none],m⟩=.ok (.bl b1,⟨[sv (.own k),sv (.str x),sv (.int f),sv (km P),none,none,none],m⟩):=by
  rw[hb];exact Yj (Uu h rfl) (aD (t:=.str [P.a]) (u:=.str x) (aD rfl rfl rfl) rfl (in1 _ _))
 obtain⟨m1,h1⟩:∃m1,m1=m.set k (eE (Fc x P.a P.b s.1) s.2 left room):=⟨_,rfl⟩;have o1:m1[k]?=some (eE (Fc x P.a P.b s.1) s.2 left room):=by rw[h1];exact cj (c_.mp h).1
 have F1:Fr (λj=>j=k) m m1:=by rw[h1];exact Fr.set rfl
 refine iW rfl (bS e0 (b7 (W.of (a:=(Out.nx,(⟨[sv (.own k),sv (.str x),sv (.int f),sv (km P),sv (.bl b1),none,none],m1⟩:S))) ?_ ⟨rfl,b7 (W.of (a:=(Out.nx,jM P k x f b1 [] none m1)) rfl ⟨rfl,b7 (fF (W.of (a:=(P.pH.map λy=>T.int y.wy,jM P k x f b1 [] none m1)) ?_ ((ES F hb P.pH o1 ?_ ?_).mono λp hp=>⟨hp.1,?_⟩)))⟩)⟩)))
 ·have eu:=Uu (o:=vF 0) (s:=⟨[sv (.own k),sv (.str x),sv (.int f),sv (km P),sv (.bl b1),none,none],m⟩) h rfl
  rw[h1];cases hs:s.1 with
  |true=>
   rw[hs]at eu;refine Pu (yD eu) ?_;exact Uv (s':=⟨[sv (.own k),sv (.str x),sv (.int f),sv (km P),sv (.bl b1),none,none],m⟩) (up':=!decide (P.b∈x)) (aD (t:=.str [P.b]) (u:=.str x) (aD rfl rfl rfl) rfl (Yi _ _)) rfl h
  |false=>
   rw[hs]at eu hb;have hb:b1=decide (P.a∈x):=hb.trans (JL _);refine vf (yD eu) ?_;show dI _ _ _ _ _=Res.ok (Out.nx,(⟨_,m.set k (eE (decide (P.a∈x)) s.2 left room)⟩:S));rw[<- hb];exact Uv (s':=⟨[sv (.own k),sv (.str x),sv (.int f),sv (km P),sv (.bl b1),none,none],m⟩) rfl rfl h
 ·have e2:oI (bz dj (k2 (bz dj (k3 zO (cI 2) zI)) (bz dj (k3 zI (cI 2) zO)))) (oM zC (cI 2)) (jM P k x f b1 [] none m1)=.ok (.lst (P.pH.map λy=>T.int y.wy),jM P k x f b1 [] none m1):=by
   refine aD (t:=.lst [.lst [.int 0,.int 2,.int 1],.lst [.int 1,.int 2,.int 0]]) (u:=.int (f % 2)) rfl (aD rfl rfl (mod_eq (by omega))) ?_
   unfold PG.pH;rw[F.rv];by_cases h2:f % 2=1
   ·rw[h2];rfl
   ·have h2:f % 2=0:=by omega
    rw[h2];rfl
  exact Oz e2 rfl
 ·have:P.pH.length=3:=by unfold PG.pH;split<;>rfl
  omega
 ·have:P.pH.length=3:=by unfold PG.pH;split<;>rfl
  show 0+_<=_;omega
 ·obtain⟨_,w,m2,e,h2,F2⟩:=hp
  rw[<- ET]at e h2;rw[e];have l:((P.run x (P.jQ x s.1) ([],s.2)).1++[x]).length<=4000:=se hq;rw[dg,oN]at l;refine yz (t:=.lst ((P.rw s x).1.map T.str)) (s':=⟨[sv (.own k),sv (.str x),sv (.int f),sv (km P),sv (.bl b1),sv (.lst ((P.run x (P.jQ x s.1) ([],s.2)).1.map T.str)),w],m2⟩) (aD (t:=.lst ((P.run x (P.jQ x s.1) ([],s.2)).1.map T.str)) (u:=.lst [.str x]) rfl rfl ?_) ⟨rfl,h2,F1.trans F2⟩;rw[uV ?_,strs_snoc];rfl;rw[b_];show(P.run x (P.jQ x s.1) ([],s.2)).1.length+1<=_;omega
end
theorem qA{p:T->T->Bool}:∀{ts:FV},(∀t∈ts,p t t=true)->all2 p ts ts=true
 |[],_=>rfl
 |t::ts,h=>by
  show(p t t&&all2 p ts ts)=true;rw[h t (fY ..),qA λu hu=>h u (bW _ hu)];rfl
def y_(l:Ap):shape 5 (.lst (l.map T.str)) (.lst (l.map T.str))=true:=qA λt ht=>by
 obtain⟨x,_,rfl⟩:=jc.mp ht;rfl
def Uw{o:FE}{s:S}{k:Nat}{ts:FV}(h:o s=.ok (.own k,s))(hm:s.m[k]?=some (c7 ts)):Ak M.bc o s=.ok (.bl true,s):=by
 unfold Ak;rw[h];refine Eq.trans (bo _ _) ?_;dsimp only;rw[jn hm];rfl
def Ux{o b:FE}{ne:Bool}{s s1:S}{k:Nat}{l:Ap}(h:o s=.ok (.own k,s))(hb:b s=.ok (.lst (l.map T.str),s1))(hm:s1.m[k]?=some (c7 (l.map T.str))):um M.bc ne o b s=.ok (.bl (!ne),s1):=by
 unfold um;rw[h];refine Eq.trans (bo _ _) ?_;dsimp only;rw[hb];refine Eq.trans (bo _ _) ?_;dsimp only;rw[jn hm];refine Eq.trans (bo _ _) ?_;dsimp only;rw[lu (y_ l)];refine Eq.trans (bo _ _) ?_;rw[m_,Bool.bne_true]
def Yk{a:FE}{s s1:S}{b:Bool}(h:a s=.ok (.bl b,s1)):D.bu a s=.ok (b,s1):=by unfold D.bu;rw[h];rfl
theorem kq{P:PG}:∀(xs:Ap)(s:US),(P.rows s xs).2.2.length<=s.2.length+4*xs.length
 |[],_=>bV _
 |x::xs,s=>by
  rw[PG.rows,eT]
  have:=kq (P:=P) xs (P.rw s x).2
  have:=r_ (P:=P) (s:=s) (x:=x)
  show(P.rows (P.rw s x).2 xs).2.2.length<=_;omega
section
variable{P:PG}{m:He}{k B:Nat}{left x:Bi}{room f:Int}{s:US}
def EU{i:Int}:cN (n+1) 42 [.int i] m=.ok (.bl true,m):=by
 rw[Ŵ];exact sEq rfl rfl rfl (bR (t:=.bl true) rfl rfl)
abbrev dS(P:PG)(k:Nat)(f:Int)(y1:Option C)(g:Ap)(u:Option C)(m:He):S:=⟨[sv (.own k),y1,sv (.int f),sv (km P),sv (.lst (g.map T.str)),u],m⟩
theorem wX(n:Nat)(F:FP P f){y1:Option C}:∀(p:Bi){left:Bi}{s:US}{g:Ap}{m:He}{u:Option C},m[k]?=some (eE s.1 s.2 left room)->left.length+p.length<=500->s.2.length+4*p.length<=900->g.length+4000*p.length<=900000 ->
  W (bZ (setG 5) (TN (cN (n+1))) (p.map λc=>T.str [c]) (dS P k f y1 g (u) m)) λq=>q.1=.nx/\∃u m',q.2=⟨[sv (.own k),y1,sv (.int f),sv (km P),sv (.lst ((g++(P.rows s (bg left p).1).1).map T.str)),u],m'⟩/\m'[k]?=some (eE (P.rows s (bg left p).1).2.1 (P.rows s (bg left p).1).2.2 (bg left p).2 room)/\Fr (λj=>j=k) m m'
 |[],left,s,g,m,u,h,_,_,_=>⟨_,rfl,rfl,u,m,by rw[bg,PG.rows,dc],h,Fr.refl⟩
 |c::p,left,s,g,m,u,h,h1,h2,h3=>by
  rw[eT]at h1 h2 h3;have c1:bu (oE (vF 5) (cS [10])) (dS P k f y1 g (sv (.str [c])) m)=.ok (decide ([c]=[10]),(dS P k f y1 g (sv (.str [c])) m)):=gz (aD rfl rfl (D4 _ _));by_cases e:c=10
  ·subst e
   rw[EE,PG.rows];obtain⟨⟨t1,m1⟩,e1,ht,o1,F1⟩:=step_eq n (x:=left) F h (by omega)
   have ht:t1=.lst ((P.rw s left).1.map T.str):=ht;subst ht;have l1:=se (P:=P) (s:=s) (x:=left) (by omega)
   have l2:=r_ (P:=P) (s:=s) (x:=left);obtain⟨m2,vc⟩:∃m2,m2=m1.set k (eE (P.rw s left).2.1 (P.rw s left).2.2 [] room):=⟨_,rfl⟩;have o2:m2[k]?=some (eE (P.rw s left).2.1 (P.rw s left).2.2 [] room):=by rw[vc];exact cj (c_.mp o1).1
   have F2:Fr (λj=>j=k) m1 m2:=by rw[vc];exact Fr.set rfl
   have ea:oA (vF 4) (aw (cN (n+1) 48) [] (bH zA (k3 (dz M.bc zA (cS zl)) zC zD))) (dS P k f y1 g (sv (.str [10])) m)=.ok (.lst ((g++(P.rw s left).1).map T.str),(dS P k f y1 g (sv (.str [10])) m1)):=by
    refine aD (t:=.lst (g.map T.str)) (u:=.lst ((P.rw s left).1.map T.str)) rfl (cZ (ts:=[.own k,.str left,.int f,km P]) (s':=(dS P k f y1 g (sv (.str [10])) m)) (az rfl (az (sd h rfl) rfl)) e1) ?_;rw[uV (by rw[b_,b_];omega),u3]
   refine fX (r:=[sv (.own k),y1,sv (.int f),sv (km P),sv (.lst (g.map T.str)),sv (.str [10])]) rfl (f9 c1 (dJ (W.of (fW ea) ⟨rfl,W.of (a:=(Out.nx,dS P k f y1 (g++(P.rw s left).1) (sv (.str [10])) m2)) ?_ ⟨rfl,(wX n F p (left:=[]) (s:=(P.rw s left).2) (g:=g++(P.rw s left).1) (u:=sv (.str [10])) o2 (by show 0+_<=_;omega) (by omega) (by rw[dg];omega)).mono λq hq=>⟨hq.1,?_⟩⟩⟩)))
   ·rw[vc]
    exact EN (s':=(dS P k f y1 (g++(P.rw s left).1) (sv (.str [10])) m1)) rfl rfl o1
   ·obtain⟨_,u',m',q1,q2,q3⟩:=hq
    refine⟨u',m',?_,q2,(F1.trans F2).trans q3⟩;rw[q1,gQ]
  ·rw[decide_eq_false (by intro z;injection z with z;exact e z)]at c1
   rw[EF e];obtain⟨m2,vc⟩:∃m2,m2=m.set k (eE s.1 s.2 (left++[c]) room):=⟨_,rfl⟩;have o2:m2[k]?=some (eE s.1 s.2 (left++[c]) room):=by rw[vc];exact cj (c_.mp h).1
   have F2:Fr (λj=>j=k) m m2:=by rw[vc];exact Fr.set rfl
   refine fX (r:=[sv (.own k),y1,sv (.int f),sv (km P),sv (.lst (g.map T.str)),sv (.str [c])]) rfl (bw c1 (W.of (a:=(Out.nx,dS P k f y1 g (sv (.str [c])) m2)) ?_ ⟨rfl,(wX n F p (left:=left++[c]) (s:=s) (g:=g) (u:=sv (.str [c])) o2 (by rw[dg];show _+1+_<=_;omega) (by omega) (by omega)).mono λq hq=>⟨hq.1,?_⟩⟩))
   ·rw[vc]
    exact EN (s':=(dS P k f y1 g (sv (.str [c])) m)) (aD (t:=.str left) (u:=.str [c]) (sd h rfl) rfl (EG (by show _+1<=_;omega))) rfl h
   ·obtain⟨_,u',m',q1,q2,q3⟩:=hq
    exact⟨u',m',q1,q2,F2.trans q3⟩
def OZ(F:FP P f)(h:m[k]?=some (eE s.1 s.2 left room))(h1:left.length+x.length<=200)(h2:s.2.length+4*x.length<=900):W (cN (n+2) 49 [.own k,.str x,.int f,km P] m) λp=>p.1=.lst ((P.rows s (bg left x).1).1.map T.str)/\p.2[k]?=some (eE (P.rows s (bg left x).1).2.1 (P.rows s (bg left x).1).2.2 (bg left x).2 room)/\Fr (λj=>j=k) m p.2:=by
 rw[w49];refine iW rfl (bS (t:=.lst []) rfl (b7 (fF (W.of (a:=(x.map λc=>T.str [c],(⟨[sv (.own k),sv (.str x),sv (.int f),sv (km P),sv (.lst []),none],m⟩:S))) rfl ((wX n F x (g:=[]) (u:=none) h (by omega) h2 (by show 0+_<=_;omega)).mono λq hq=>⟨hq.1,?_⟩)))))
 obtain⟨_,u,m',q1,q2,q3⟩:=hq;rw[q1];exact bR (t:=.lst ((P.rows s (bg left x).1).1.map T.str)) rfl ⟨rfl,q2,q3⟩
structure PI(m:He)(B k:Nat)(P:PG)(s:US)(left:Bi)(room:Int)(lg d:Nat):Prop where
 bl:∃c v,v.lg=lg/\BI m B m.length P s c [] left false v [] 10 d
 ow:m[k]?=some (eE s.1 s.2 left room)
 ap:¬ BX B lg k
 no:10∉left
def BI.rest{m':He}{X:Nat->Prop}{c:Int}{fn:Bool}{v:WV}{gv:Ap}{lc d:Nat}(I:BI m B m.length P s c [] left fn v gv lc d)(F:Fr X m m')(h:∀j,BX B v.lg j->¬ X j):BI m' B m'.length P s c [] left fn v gv lc d:=by
 obtain⟨g,ks,ts,hu,U,hg,hl⟩:=I.u;have bx:∀j,j<10->¬ X (B+j):=λj hj=>h _ (.inl ⟨by omega,by omega⟩)
 have UR:=I.V.sh;exact⟨I.H.fr F λj hj=>h j (by rcases hj with z|z|z;exact .inl (by omega);exact .inr z;exact .inl (by omega)),I.V,F.get I.b (bx 0 (by omega)),F.get I.q (bx 9 (by omega)),F.get I.t (bx 2 (by omega)),⟨g,ks,ts,F.get hu (bx 3 (by omega)),U,hg,hl⟩,fK I.n1 F.le,gP I.n2 F.le,bV _,λp hp=>(by cases hp),Bc.nil⟩
def u5{N:Nat}{c:Int}{fn:Bool}{v:WV}{gv:Ap}{lc d:Nat}{up:Bool}{yY:Bi}(I:BI m B N P s c [] left fn v gv lc d)(h:m[k]?=some (eE up s.2 yY room))(hp:s.2.length<=1000):cN (n+3) 50 [.own B,.own k] m=.ok (.bl true,m):=by
 rw[w50];refine ee (s':=⟨[sv (.own B),sv (.own k),sv (.int s.2.length)],m⟩) rfl (seq1 (fW (mE (k:=B) rfl I.b rfl rfl (IW n I hp))) (gI (uM (x:=true) (y:=true) (cE (ts:=[.int s.2.length]) rfl (EU (n+1))) λ_=>aD (t:=.int s.2.length) (u:=.int s.2.length) rfl (dW (ts:=[.lst (s.2.map T.str)]) (az (oG h rfl) rfl) (by show some (T.int ((s.2.map T.str).length:Nat))=_;rw[b_])) (by rw[uN,decide_eq_true rfl])))) rfl
def EV(o:P.ok)(F:FP P f){lg d:Nat}(I:PI m B k P s left room lg d)(h1:left.length+x.length<=200)(h2:s.2.length+4*x.length<=800)(h3:x.length<=100)(h4:d+4*x.length<600000) :
  W (cN (n+14) 51 [.own B,.own k,.str x,.int f,km P] m) λp=>∃kk Ff,p.1=.own kk/\p.2[kk]?=some (c7 ((P.rows s (bg left x).1).1.map T.str))/\m.length<=kk/\kk≠Ff/\m.length<=Ff/\PI p.2 B k P (P.rows s (bg left x).1).2 (bg left x).2 room Ff (d+4*(bg left x).1.length)/\Fr (λj=>BX B lg j\/j=k) m p.2:=by
 rw[w51];obtain⟨c,v,hv,Ib⟩:=I.bl;have hk:k<m.length:=(c_.mp I.ow).1;have co:=ja x left I.no;obtain⟨⟨t1,m1⟩,e1,kk,c1,v1,ht,a1,a2,a3,a4,I1,F1⟩:=IT n o (x:=x) Ib I.no (by omega) (by omega) (by omega) (by omega)
 have ht:t1=.own kk:=ht;subst ht;rw[hv]at F1;have o1:=F1.get I.ow I.ap;obtain⟨⟨t2,m2⟩,e2,wR,o2,F2⟩:=OZ (n+11) (x:=x) F o1 h1 (by omega)
 have wR:t2=.lst ((P.rows s (bg left x).1).1.map T.str):=wR;subst wR;have l1:m.length<=m1.length:=F1.le;have n1:=Ib.n1;have Vd:v1.lg<m1.length:=I1.n2;have Uy:¬ BX B v1.lg k:=λz=>by
  rcases z with z|z
  ·exact I.ap (.inl z)
  ·omega
 have I2:=I1.rest F2 λj hj z=>Uy (by have z:j=k:=z;rw[<- z];exact hj)
 have ZZ:m2[kk]?=some (c7 ((P.rows s (bg left x).1).1.map T.str)):=F2.get a1 (by omega)
 have k1:=u5 (n+10) Ib I.ow (by omega)
 have rl:(P.rows s (bg left x).1).2.2.length<=1000:=by
  have:=kq (P:=P) (bg left x).1 s
  have:=co.l1
  omega
 have k2:=u5 (n+10) I2 o2 rl;obtain⟨r,hr⟩:∃r:FK,r=[sv (.own B),sv (.own k),sv (.str x),sv (.int f),sv (km P),sv (.own kk)]:=⟨_,rfl⟩;refine iW rfl (bN (pG (yD (cE (ts:=[.own B,.own k]) rfl k1))) (Tz (mE (k:=B) rfl Ib.b rfl rfl e1) (XS (s':=⟨[sv (.own B),sv (.own k),sv (.str x),sv (.int f),sv (km P),sv (.own kk)],m2⟩) (ZL (pG (yD (Uw rfl a1))) (Yk (Ux (ne:=true) rfl (cZ (ts:=[.own k,.str x,.int f,km P]) (s':=⟨[sv (.own B),sv (.own k),sv (.str x),sv (.int f),sv (km P),sv (.own kk)],m1⟩) rfl e2) ZZ))) (bN (pG (yD (cE (ts:=[.own B,.own k]) rfl k2))) (bR rfl ⟨kk,v1.lg,rfl,ZZ,a2,a3,a4,⟨⟨c1,v1,rfl,?_⟩,o2,Uy,co.no⟩,(F1.mono λ_=>.inl).trans (F2.mono λ_=>.inr)⟩)))));exact{I2 with H:=I2.H.up (jb _)}
abbrev fS(B k:Nat)(f:Int)(P:PG)(l:FV)(m:He):S:=⟨[sv (.own B),sv (.own k),sv (.int f),sv (km P),sv (.lst l),none],m⟩
def u6(o:P.ok)(F:FP P f){lg d:Nat}(I:PI m B k P s left room lg d)(h1:left.length<=200)(h2:s.2.length<=800)(h4:d<500000) :
  W (cN (n+14) 52 [.own B,.own k,.int f,km P] m) λp=>p.1=.bl true/\Fr (λj=>BX B lg j\/j=k) m p.2:=by
 rw[w52];obtain⟨c,v,hv,Ib⟩:=I.bl;have c1:bu (bA (aM .NotEq) (dz M.bc zB (cS zl)) (cS [])) (fS B k f P [] m)=.ok (!decide (left=[]),(fS B k f P [] m)):=gz (aD (t:=.str left) (u:=.str []) (sd I.ow rfl) rfl rfl);obtain⟨rws,yV⟩:∃rws,rws=(if left=[]then[]else[left]):=⟨_,rfl⟩
 have step:W (aR (bu (bA (aM .NotEq) (dz M.bc zB (cS zl)) (cS []))) (aI 4 (aw (cN (n+13) 48) [] (bH zB (k3 (dz M.bc zB (cS zl)) zC zD)))) aC (fS B k f P [] m)) λp=>p.1=.nx/\∃m1,p.2=(fS B k f P ((P.rows s rws).1.map T.str) m1)/\Fr (λj=>j=k) m m1:=by
  by_cases hr:left=[]
  ·rw[decide_eq_true hr]at c1
   rw[if_pos hr]at yV;rw[yV];exact bw c1 ⟨_,rfl,rfl,m,rfl,Fr.refl⟩
  ·rw[decide_eq_false hr]at c1
   rw[if_neg hr]at yV;obtain⟨⟨t1,m1⟩,e1,ht,o1,F1⟩:=step_eq (n+12) (x:=left) F I.ow (by omega)
   have ht:t1=.lst ((P.rw s left).1.map T.str):=ht;subst ht;have e:(P.rows s rws).1=(P.rw s left).1:=by rw[yV,PG.rows,PG.rows,dc]
   rw[e];exact f9 c1 (W.of (fW (cZ (ts:=[.own k,.str left,.int f,km P]) (s':=(fS B k f P [] m)) (az rfl (az (sd I.ow rfl) rfl)) e1)) ⟨rfl,m1,rfl,F1⟩)
 refine iW rfl (bS (t:=.lst []) rfl (b7 (step.mono λp hp=>⟨hp.1,?_⟩)));obtain⟨_,m1,e,F1⟩:=hp;rw[e];have I1:=Ib.rest F1 λj hj z=>I.ap (by have z:j=k:=z;rw[<- z,<- hv];exact hj)
 obtain⟨⟨t2,m2⟩,e2,kk,c2,v2,ht,a1,a2,a3,a4,I2,F2⟩:=AE n o I1 (by omega) (by omega) (by omega) (by omega)
 have ht:t2=.own kk:=ht;subst ht;rw[<- yV]at a1;rw[hv]at F2;refine Tz (mE (k:=B) rfl I1.b rfl rfl e2) (yz (t:=.bl true) (uM (x:=true) (y:=true) (Uw rfl a1) λ_=>Ux (ne:=false) rfl rfl a1) ⟨rfl,(F1.mono λ_=>.inr).trans (F2.mono λ_=>.inl)⟩)
end
def cellAt(ns:Fh)(k:Nat):Int:=ns.getD k 0
def za{ns:Fh}{k:Nat}:cN (n+1) 41 [.scr ns,.int k] m=.ok (.int (cellAt ns k),m):=by
 rw[Ų];refine sEq rfl rfl rfl ?_;by_cases h:k<ns.length
 ·refine bY (gz (pE (t:=.int k) (u:=.int ns.length) rfl rfl (by rw[pF,decide_eq_true (by omega)]))) (bR (pE (t:=.scr ns) (u:=.int k) rfl rfl ?_) rfl)
  show(atT ns (k:Int)).map T.int=_;rw[ib h];unfold cellAt;rw[ze,fj h];rfl
 ·refine bN (gz (pE (t:=.int k) (u:=.int ns.length) rfl rfl (by rw[pF,decide_eq_false (by omega)]))) (bR rfl ?_)
  unfold cellAt;rw[ze,xj (by omega)];rfl
def md{s:S}{i j:Int}{a:FE}(h:a s=.ok (.int i,s))(h2:0<j):oM a (cI j) s=.ok (.int (i % j),s):=aD h rfl (mod_eq h2)
def fd{s:S}{i j:Int}{a:FE}(h:a s=.ok (.int i,s))(h2:0<j/\j<1073741824):oD a (cI j) s=.ok (.int (i/j),s):=aD h rfl (div_eq h2)
def Fg{s:S}{x y:Bi}{a b:FE}(h:a s=.ok (.str x,s))(h2:b s=.ok (.str y,s))(hl:x.length+y.length<=1000000):oA a b s=.ok (.str (x++y),s):=aD h h2 (lu hl)
def O0{l:Bi}{i:Int}{k:Nat}(hk:l.length=k)(h0:0<k):∃c∈l,jf (.str l) (.int (i % (k:Int)))=some (.str [c]):=by
 have h1:0<=i % (k:Int):=By _ (by omega)
 have h2:i % (k:Int)<k:=JW _ (by omega)
 have iB:(i % (k:Int)).toNat<l.length:=by omega
 refine⟨l[(i % (k:Int)).toNat],List.getElem_mem iB,?_⟩;show(atT l (i % (k:Int))).map _=_;unfold atT;rw[if_pos h1,if_pos (by omega),fj iB]
 rfl
def O1:Bi:=TH
def Uz:O1.all gO=true:=by decide +kernel
def EX(i:Int)(m:He):∃a b c,(gO a=true/\gO b=true/\gO c=true)/\cN (n+1) 43 [.int i] m=.ok (.lst [.str [a],.str [b],.str [c]],m):=by
 obtain⟨a,ha,ea⟩:=O0 (l:=O1) (i:=i) (k:=85) rfl (by decide)
 obtain⟨b,hb,eb⟩:=O0 (l:=O1) (i:=i/85) (k:=85) rfl (by decide)
 obtain⟨c,hc,ec⟩:=O0 (l:=O1) (i:=i/7225) (k:=85) rfl (by decide)
 have al:=jw.mp Uz;refine⟨a,b,c,⟨al a ha,al b hb,al c hc⟩,?_⟩;rw[Ŷ];exact sEq rfl rfl rfl (bS rfl (bR (dW (ts:=[.str [a],.str [b],.str [c]]) (az (pE (t:=.str O1) rfl (md rfl (by decide)) ea) (az (pE (t:=.str O1) rfl (md (fd rfl (by decide)) (by decide)) eb) (az (pE (t:=.str O1) rfl (md (fd rfl (by decide)) (by decide)) ec) rfl))) rfl) rfl))
def Yl{v:Int}(h1:1<=v)(h2:v<=4):∃d,strN [.int v]=some (.str d)/\Nm d v:=by
 have tx:(tU 1=[49]/\tU 2=[50]/\tU 3=[51]/\tU 4=[52])/\(PySem.intText? ⟨#[49]⟩=some 1/\PySem.intText? ⟨#[50]⟩=some 2/\PySem.intText? ⟨#[51]⟩=some 3/\PySem.intText? ⟨#[52]⟩=some 4):=by decide +kernel
 obtain⟨⟨t1,t2,t3,t4⟩,i1,i2,i3,i4⟩:=tx;have key:∀(v:Int)(c:Nat),tU v=[c]->PySem.intText? ⟨#[c]⟩=some v->v.natAbs.log2<1920->c∈D7->c≠48->∃d,strN [.int v]=some (.str d)/\Nm d v:=λv c h1 h2 h3 h4 h5=>by
  refine⟨[c],?_,λx hx=>by rw[iu.mp hx];exact h4,(λz=>by cases z),gy (Ne.symm h5),by show 1<=3;decide,?_⟩
  ·have:strN [.int v]=some (.str (tU v)):=lu ⟨h3,by rw[h1];show 1<=1000000;decide⟩
   rw[this,h1]
  ·show(PySem.intText? ⟨#[c]⟩).bind _=_
   rw[h2];exact lu (by show 1<=640;decide)
 obtain rfl|rfl|rfl|rfl:v=1\/v=2\/v=3\/v=4:=by omega
 ·exact key 1 49 t1 i1 (by decide +kernel) (by decide) (by decide)
 ·exact key 2 50 t2 i2 (by decide +kernel) (by decide) (by decide)
 ·exact key 3 51 t3 i3 (by decide +kernel) (by decide) (by decide)
 ·exact key 4 52 t4 i4 (by decide +kernel) (by decide) (by decide)
def Vq(f:Int)(mo:Option (Bi×Int)):Prop:=(0<f/2 % 3/\∃d,mo=some (d,1+f/6 % 4)/\strN [.int (1+f/6 % 4)]=some (.str d))\/(¬ 0<f/2 % 3/\mo=none)
def UA(f:Int):∃mo,Vq f mo/\DD.ok (.pile mo):=by
 by_cases h:0<f/2 % 3
 ·obtain⟨d,h1,h2⟩:=Yl (v:=1+f/6 % 4) (by omega) (by omega)
  exact⟨some (d,1+f/6 % 4),.inl ⟨h,d,rfl,h1⟩,h2,by omega,by omega⟩
 ·exact⟨none,.inr ⟨h,rfl⟩,trivial⟩
section
variable{P:PG}{f:Int}{m:He}
abbrev sgn(P:PG):T:=.lst [.str [P.a],.str [P.b],.str [P.c]]
def UB{r:FK}{y:Bi}(hl:y.length<=100):oA (oA (oA (oA (cS [102,114,111,109,32,47]) (oI zB zO)) (cS [47,32,116,111,32,47])) (oI zB zI)) (cS y) ⟨sv (.int f)::sv (sgn P)::r,[]⟩=.ok (.str ([102,114,111,109,32,47,P.a,47,32,116,111,32,47,P.b]++y),⟨sv (.int f)::sv (sgn P)::r,[]⟩):=Fg (y:=y) (Fg (x:=[102,114,111,109,32,47,P.a,47,32,116,111,32,47]) (y:=[P.b]) (Fg (x:=[102,114,111,109,32,47,P.a]) (y:=[47,32,116,111,32,47]) (Fg (x:=[102,114,111,109,32,47]) (y:=[P.a]) rfl (aD (t:=sgn P) (u:=.int 0) rfl rfl rfl) (by show 6+1<=_;decide)) rfl (by show 7+6<=_;decide)) (aD (t:=sgn P) (u:=.int 1) rfl rfl rfl) (by show 13+1<=_;decide)) rfl (by show 14+_<=_;omega)
def Z3{r:FK}:bu (bA (aM .Gt) (oM (oD zA (cI 2)) (cI 3)) zO) ⟨sv (.int f)::r,m⟩=.ok (decide (0<f/2 % 3),⟨sv (.int f)::r,m⟩):=gz (aD (md (fd rfl (by decide)) (by decide)) rfl (rP _ _))
def Z4{r:FK}:bu (oE (oM zA (cI 2)) zI) ⟨sv (.int f)::r,m⟩=.ok (decide (f % 2=1),⟨sv (.int f)::r,m⟩):=gz (aD (md rfl (by decide)) rfl (uN _ _))
theorem Li:∀(l:Ap),strsOf (l.map T.str)=some l
 |[]=>rfl
 |x::l=>by
  show(strsOf (l.map T.str)).map _=_;rw[Li l];rfl
def Ym:T->T
 |.str l=>.str (l++[10])
 |t=>t
def I_(o:P.ok)(hr:P.rv=decide (f % 2=1))(hm:Vq f P.mo)(hd:(ou P.mo P.a P.b).txt.length<=100):cN (n+1) 45 [.int f,sgn P] m=.ok (.str (AB P.rv P.mo P.a P.b P.c),m):=by
 rw[Ź];obtain⟨tp,Lj⟩:∃tp,tp=(ou P.mo P.a P.b).txt:=⟨_,rfl⟩;obtain⟨ts,Vr⟩:∃ts,ts=(wM P.a P.b).txt:=⟨_,rfl⟩;obtain⟨tb,Vs⟩:∃tb,tb=(rZ P.c).txt:=⟨_,rfl⟩;have lsl:ts.length=25:=by rw[Vr];rfl
 have lbl:tb.length=15:=by rw[Vs];rfl
 rw[<- Lj]at hd;have key:∀(ls:Ap),ls.length<=10->(∀l∈ls,l.length<=100)->pA joinM (cS []) (k1 (fq (cC (k7 zD) 2 [] (setG 1) fm (oA zB (cS [10]))))) ⟨[sv (.int f),sv (sgn P),sv (.str tp),sv (.lst (ls.map T.str))],[]⟩=.ok (.str (cV [] (ls.map (·++[10]))),⟨[sv (.int f),sv (sgn P),sv (.str tp),sv (.lst (ls.map T.str))],[]⟩):=λls h1 h2=>by
  refine TY (l:=[]) (ts:=[.lst ((ls.map T.str).map Ym)]) rfl (az (Vn (Oz (t:=.lst (ls.map T.str)) rfl rfl) (by rw[b_];omega) rfl (c5 λt ht=>?_)) rfl) ?_
  ·obtain⟨l,hl,rfl⟩:=jc.mp ht
   have:=h2 l hl
   exact⟨[none,sv (.str l)],[none,sv (.str l)],rfl,Fg rfl rfl (by show _+1<=_;omega)⟩
  ·have e:(ls.map T.str).map Ym=(ls.map (·++[10])).map T.str:=by rw[gR,gR];rfl
   show(strsOf ((ls.map T.str).map Ym)).bind _=_;rw[e,Li];refine lu ?_
   have:∀(ls:Ap),(∀l∈ls,l.length<=100)->((ls.map (·++[10])).map (·.length)).sum<=101*ls.length:=by
    intro ls
    induction ls with
    |nil=>intro _;exact bV _
    |cons l ls ih=>
     intro h
     have:=ih λx hx=>h x (bW _ hx)
     have:=h l (fY ..)
     simp only[dZ,Bm,dg,eT,A_];omega
   have:=this ls h2
   show _+_*0<=_;omega
 have fin:∀(a b c d:Bi),cV [] ([a,b,c,d].map (·++[10]))=cV [10] [a,b,c,d]++[10]:=λa b c d=>by
  show a++[10]++[]++(b++[10]++[]++(c++[10]++[]++(d++[10])))=a++[10]++(b++[10]++(c++[10]++d))++[10];simp
 have all:∀(ls:Ap),ls.Perm [tp,ts,tb,tb]->∀l∈ls,l.length<=100:=λls hp l hl=>by
  have:=hp.subset hl
  simp only[gh,jV,or_false]at this;rcases this with rfl|rfl|rfl|rfl<;>omega
 have cg:=Z3 (f:=f) (m:=[]) (r:=[sv (sgn P),sv (.str (ou none P.a P.b).txt),none]);have FJ:∀(B:FS)(G:T×He->Prop),WB B ⟨[sv (.int f),sv (sgn P),sv (.str tp),none],[]⟩ G->WB (af (aR (bu (bA (aM .Gt) (oM (oD zA (cI 2)) (cI 3)) zO))
  (aI 2 (oA (oA zC (cS [32])) (bz strN (k1 (oA zI (oM (oD zA (cI 6)) (cI 4)))))))
  aC) B) ⟨[sv (.int f),sv (sgn P),sv (.str (ou none P.a P.b).txt),none],[]⟩ G:=λB G h=>by
  rcases hm with⟨h3,d,hm,hs⟩|⟨h3,hm⟩
  ·rw[decide_eq_true h3]at cg
   rw[hm]at Lj;rw[Lj]at h;refine bI cg (Fg (Fg rfl rfl (by show 26+1<=_;decide)) (dW (ts:=[.int (1+f/6 % 4)]) (az (aD rfl (md (fd rfl (by decide)) (by decide)) rfl) rfl) hs) ?_) h
   have e:tp.length=27+d.length:=by rw[Lj];show d.length+1+26=_;omega
   show 27+d.length<=_;omega
  ·rw[decide_eq_false h3]at cg
   rw[hm]at Lj;rw[Lj]at h;exact bN cg h
 refine sEq rfl rfl rfl (bS (t:=.str (ou none P.a P.b).txt) (UB (by decide)) (FJ _ _ ?_))
 refine bS (t:=.lst [.str tp,.str ts]) (dW (ts:=[.str tp,.str ts]) (az rfl (az (by rw[Vr];exact UB (by decide)) rfl)) rfl) ?_
 refine bS (t:=.lst ([tp,ts,tb,tb].map T.str)) (aD (t:=.lst [.str tp,.str ts]) (u:=.lst [.str tb,.str tb]) rfl (aD (t:=.lst [.str tb]) (u:=.int 2) (dW (ts:=[.str tb]) (az (by rw[Vs];exact Fg (x:=[47,P.c]) (y:=[47,58,32,98,114,105,110,103,32,104,101,97,112]) (Fg (x:=[47]) (y:=[P.c]) rfl (aD (t:=sgn P) (u:=.int 2) rfl rfl rfl) (by show 1+1<=_;decide)) rfl (by show 2+13<=_;decide)) rfl) rfl) rfl rfl) (uV (by show 2+2<=_;decide))) ?_
 have ce:=Z4 (f:=f) (m:=[]) (r:=[sv (sgn P),sv (.str tp),sv (.lst ([tp,ts,tb,tb].map T.str))]);rw[<- hr]at ce;cases hv:P.rv with
 |true=>
  rw[hv]at ce;refine bI ce (Vl (t:=.lst ([tp,ts,tb,tb].map T.str)) (u:=.lst ([tb,tb,ts,tp].map T.str)) rfl rfl) (bR (key [tb,tb,ts,tp] (by show 4<=10;decide) (all _ (by
   rw[show[tb,tb,ts,tp]=[tp,ts,tb,tb].reverse from rfl];exact List.reverse_perm _))) ?_)
  rw[fin,Lj,Vr,Vs];rfl
 |false=>
  rw[hv]at ce;refine bN ce (bR (key [tp,ts,tb,tb] (by show 4<=10;decide) (all _ (List.Perm.refl _))) ?_)
  rw[fin,Lj,Vr,Vs];rfl
def EY(o:P.ok)(hr:P.rv=decide (f % 2=1))(hm:Vq f P.mo):cN (n+8) 46 [.int f,sgn P] m=.ok (jL P,m):=by
 rw[Ż];obtain⟨mo,Yn⟩:∃mo:T,(DD.pile P.mo).val=.obj 17 [.str aS,mo]/\(0<f/2 % 3->mo=.int (1+f/6 % 4))/\(¬ 0<f/2 % 3->mo=.non):=by
  rcases hm with⟨h3,d,hm,hs⟩|⟨h3,hm⟩
  ·exact⟨.int (1+f/6 % 4),by rw[hm];rfl,λ_=>rfl,λz=>absurd h3 z⟩
  ·exact⟨.non,by rw[hm];rfl,λz=>absurd z h3,λ_=>rfl⟩
 obtain⟨hv,m1,m2⟩:=Yn;have cg:=Z3 (f:=f) (m:=[]) (r:=[sv (sgn P),sv .non,none,none,none]);have FJ:∀(B:FS)(G:T×He->Prop),WB B ⟨[sv (.int f),sv (sgn P),sv mo,none,none,none],[]⟩ G->WB (af (aR (bu (bA (aM .Gt) (oM (oD zA (cI 2)) (cI 3)) zO))
  (aI 2 (oA zI (oM (oD zA (cI 6)) (cI 4))))
  aC) B) ⟨[sv (.int f),sv (sgn P),sv .non,none,none,none],[]⟩ G:=λB G h=>by
  by_cases h3:0<f/2 % 3
  ·rw[decide_eq_true h3]at cg
   rw[m1 h3]at h;exact bI cg (aD rfl (md (fd rfl (by decide)) (by decide)) rfl) h
  ·rw[decide_eq_false h3]at cg
   rw[m2 h3]at h;exact bN cg h
 have lk:∀(i:Nat)(a:Nat)(r:FK),gO a=true->jf (sgn P) (.int i)=some (.str [a])->fH 5 1 (k1 (aw (cN (n+7) 3) [] (k1 (oI zB (cI i))))) ⟨sv (.int f)::sv (sgn P)::r,[]⟩=.ok (.obj 5 [pa a],⟨sv (.int f)::sv (sgn P)::r,[]⟩):=λi a r h e=>rO (ts:=[pa a]) (az (cE (ts:=[.str [a]]) (az (aD (t:=sgn P) rfl rfl e) rfl) (uO n h)) rfl) rfl;have vp:(P.ln .pl).val=.obj 1 [(IE P.a P.b).val,.obj 17 [.str aS,mo]]:=by
  show T.obj 1 [(IE P.a P.b).val,(DD.pile P.mo).val]=_;rw[hv]
 have nw:noOwn (jL P)=true:=by
  show(aW P.iX&&true)=true;rw[yW o];rfl
 refine sEq rfl rfl nw (bS (t:=.non) rfl (FJ _ _ (bS (t:=(IE P.a P.b).val) (rO (ts:=[.obj 5 [pa P.a],.obj 5 [pa P.b]]) (az (lk 0 P.a _ o.a rfl) (az (lk 1 P.b _ o.b rfl) rfl)) rfl) (bS (t:=(P.ln .br).val) (rO (ts:=[(X0 P.c).val,DD.bring.val]) (az (lk 2 P.c _ o.c rfl) rfl) rfl) (bS (t:=.lst [(P.ln .pl).val,(P.ln .sa).val,(P.ln .br).val,(P.ln .br).val]) ?_ ?_)))))
 ·rw[vp];rfl
 have ce:=Z4 (f:=f) (m:=[]) (r:=[sv (sgn P),sv mo,sv (IE P.a P.b).val,sv (P.ln .br).val,sv (.lst [(P.ln .pl).val,(P.ln .sa).val,(P.ln .br).val,(P.ln .br).val])]);rw[<- hr]at ce;unfold jL PG.iX PG.ks;cases hv:P.rv with
 |true=>
  rw[hv]at ce;exact bI ce (Vl (t:=.lst [(P.ln .pl).val,(P.ln .sa).val,(P.ln .br).val,(P.ln .br).val]) rfl rfl) (bR (Vl (t:=.lst [(P.ln .br).val,(P.ln .br).val,(P.ln .sa).val,(P.ln .pl).val]) rfl rfl) rfl)
 |false=>
  rw[hv]at ce;exact bN ce (bR (Vl (t:=.lst [(P.ln .pl).val,(P.ln .sa).val,(P.ln .br).val,(P.ln .br).val]) rfl rfl) rfl)
end
def Ja{i j:Int}(h:(-(2^64)<i/\i<2^64)\/(-(2^64)<j/\j<2^64)):dP .Mult (.int i) (.int j)=some (.int (i*j)):=lu (.inl h)
def vO{l:Bi}{i:Int}(h0:0<=i)(h:i<(l.length:Nat)):∃c,jf (.str l) (.int i)=some (.str [c]):=by
 obtain⟨j,rfl⟩:∃j:Nat,i=j:=⟨i.toNat,by omega⟩
 have hj:j<l.length:=by omega
 refine⟨l[j],?_⟩;show(atT l (j:Int)).map (λc=>T.str [c])=_;rw[ib hj,fj hj];rfl
section
variable{P:PG}{f:Int}{m:He}
def ix3(P:PG)(i:Int):∃d,jf (sgn P) (.int (i % 3))=some (.str [d]):=by
 obtain h|h|h:i % 3=0\/i % 3=1\/i % 3=2:=by omega
 ·rw[h];exact⟨P.a,rfl⟩
 ·rw[h];exact⟨P.b,rfl⟩
 ·rw[h];exact⟨P.c,rfl⟩
def sign_eq(P:PG)(i:Int)(m:He):∃c,cN (n+1) 44 [.int i,sgn P] m=.ok (.str [c],m):=by
 rw[ŷ];unfold ZE
 generalize hl:(TJ:Bi)=l
 clear hl;have e1:bz cD (k1 zC) ⟨[sv (.int i),sv (sgn P),sv (.str l),sv (.int (i % 200))],[]⟩=.ok (.int l.length,⟨[sv (.int i),sv (sgn P),sv (.str l),sv (.int (i % 200))],[]⟩):=dW (ts:=[.str l]) rfl rfl;by_cases h1:i % 200<45
 ·obtain⟨d,e⟩:=ix3 P (i % 200)
  exact⟨d,sEq rfl rfl rfl (bS (t:=.str l) rfl (bS (md rfl (by decide)) (bY (gz (aD rfl rfl (by rw[pF,decide_eq_true h1]))) (bR (aD (t:=sgn P) rfl (md rfl (by decide)) e) rfl))))⟩
 ·have b1:∀{A B:FS}{G:T×He->Prop},WB B ⟨[sv (.int i),sv (sgn P),sv (.str l),sv (.int (i % 200))],[]⟩ G->WB (af (aR (bu (bA (aM .Lt) zD (cI 45))) A aC) B) ⟨[sv (.int i),sv (sgn P),sv (.str l),sv (.int (i % 200))],[]⟩ G:=λh=>bN (gz (aD rfl rfl (by rw[pF,decide_eq_false h1]))) h
  by_cases h2:i % 200<45+(l.length:Nat)
  ·obtain⟨c,e⟩:=vO (l:=l) (i:=i % 200-45) (by omega) (by omega)
   exact⟨c,sEq rfl rfl rfl (bS (t:=.str l) rfl (bS (md rfl (by decide)) (b1 (bY (gz (aD (u:=.int (45+(l.length:Nat))) rfl (aD rfl e1 rfl) (by rw[pF,decide_eq_true h2]))) (bR (aD (t:=.str l) (u:=.int (i % 200-45)) rfl rfl e) rfl)))))⟩
  ·exact⟨10,sEq rfl rfl rfl (bS (t:=.str l) rfl (bS (md rfl (by decide)) (b1 (bN (gz (aD (u:=.int (45+(l.length:Nat))) rfl (aD rfl e1 rfl) (by rw[pF,decide_eq_false h2]))) (bR rfl rfl)))))⟩
def UC(L:Nat)(h:L<=1000):nj [.int L]=some ((vt 0 L).map λq=>T.int (q:Nat)):=by
 have:nj [.int L]=some (i0 0 ((L:Int)).toNat):=lu ⟨by omega,by omega⟩
 rw[this,Bx];unfold i0;rw[JF];exact congrArg some (vq λq _=>by rw[zm])
abbrev Jb(B:Nat->Nat)(nb:Nat):FV:=(cP nb).map λi=>T.own (B i)
abbrev kT(K:Nat->Nat):FV:=[.own (K 0),.own (K 1),.own (K 2)]
abbrev lS(ns:Fh)(f:Int)(P:PG)(B K:Nat->Nat)(nb:Nat)(hl:FV)(a7 a8 a9 eX eM eF e9:Option C)(m:He):S:=⟨[sv (.scr ns),sv (.int f),sv (sgn P),sv (jL P),some (.ol (Jb B nb)),sv (.lst (kT K)),some (.ol hl),a7,a8,a9,eX,eM,eF,e9],m⟩
theorem u7(n:Nat){ns:Fh}{B K:Nat->Nat}{nb:Nat}{hl:FV}{cell:Int}{a8 eM eF:Option C}:∀(l:Bi)(x:Bi)(eX e9:Option C),(∀q∈l,q<10)->x.length+l.length<=1000 ->
  W (bZ (setG 10) (TQ (cN (n+1))) (l.map λq=>T.int (q:Nat)) (lS ns f P B K nb hl (sv (.int cell)) a8 (sv (.str x)) eX eM eF e9 m)) λp=>p.1=.nx/\∃z eX e9,p.2=lS ns f P B K nb hl (sv (.int cell)) a8 (sv (.str z)) eX eM eF e9 m/\z.length=x.length+l.length
 |[],x,eX,e9,_,_=>⟨_,rfl,rfl,x,eX,e9,rfl,rfl⟩
 |q::l,x,eX,e9,hq,sL=>by
  rw[eT]at sL;have h:=hq q (fY ..);obtain⟨i,hi⟩:∃i:Int,i=cell/24*48271 % 2147483647:=⟨_,rfl⟩;obtain⟨j,hj⟩:∃j:Int,j=61*(q:Nat)*(q:Nat)*(q:Nat):=⟨_,rfl⟩;have bq:(0:Int)<=61*(q:Nat)*(q:Nat)*(q:Nat)/\61*(q:Nat)*(q:Nat)*(q:Nat)<=(61000:Int):=by
   have h1:q*q<=10*10:=Jq (by omega) (by omega)
   have h2:q*q*q<=10*10*10:=Jq h1 (by omega)
   have e:(61:Int)*(q:Nat)*(q:Nat)*(q:Nat)=61*((q*q*q:Nat):Int):=by
    rw[JX,JX,BA,BA,BA]
   rw[e];omega
  obtain⟨c,ec⟩:=sign_eq n P (i/(1+j)) m;have ej:oA zI (bA (dP .Mult) (bA (dP .Mult) (bA (dP .Mult) (cI 61) (vF 10)) (vF 10)) (vF 10)) (lS ns f P B K nb hl (sv (.int cell)) a8 (sv (.str x)) (sv (.int q)) eM eF (sv (.int i)) m)=.ok (.int (1+j),lS ns f P B K nb hl (sv (.int cell)) a8 (sv (.str x)) (sv (.int q)) eM eF (sv (.int i)) m):=by
   have b:-(2^64)<(q:Int)/\(q:Int)<2^64:=⟨by omega,by omega⟩
   exact aD (u:=.int j) rfl (aD (u:=.int q) (aD (u:=.int q) (aD (u:=.int q) rfl rfl (Ja (.inr b))) rfl (Ja (.inr b))) rfl ((Ja (.inr b)).trans (by rw[hj]))) rfl
  refine fX (r:=(lS ns f P B K nb hl (sv (.int cell)) a8 (sv (.str x)) (sv (.int q)) eM eF e9 m).r) rfl (wS (t:=.int i) ?_ (W.of (fW (aD (t:=.str x) (u:=.str [c]) rfl (cE (ts:=[.int (i/(1+j)),sgn P]) (az (aD rfl ej (div_eq ⟨by omega,by omega⟩)) rfl) ec) (EG (by show _+1<=_;omega)))) ⟨rfl,(u7 n l (x++[c]) (sv (.int q)) (sv (.int i)) (λq Gb=>hq q (bW _ Gb)) (by rw[dg];show _+1+_<=_;omega)).mono λp hp=>?_⟩))
  ·rw[hi]
   exact md (aD (fd rfl (by decide)) rfl (Ja (.inr ⟨by decide,by decide⟩))) (by decide)
  ·obtain⟨h1,z,kR,kU,h2,h3⟩:=hp
   refine⟨h1,z,kR,kU,h2,?_⟩;simp only[dg,eT,A_]at h3 ⊢;omega
structure Rc where
 lg:Nat
 d:Nat
 s:US
 left:Bi
 room:Int
def RX(B k lg j:Nat):Prop:=BX B lg j\/j=k
structure Rn(c:Rc):Prop where
 b1:0<=c.room
 b2:(c.s.2.length:Int)+4*c.left.length+4*c.room<=240
 b3:(c.d:Int)+4*c.room<=240
structure LI(m:He)(P:PG)(B K:Nat->Nat)(nb:Nat)(cs:Nat->Rc):Prop where
 r:∀i,i<nb->PI m (B i) (K i) P (cs i).s (cs i).left (cs i).room (cs i).lg (cs i).d
 n:∀i,i<nb->Rn (cs i)
 ap:∀i,i<nb->∀j,j<nb->i≠j->∀a,RX (B i) (K i) (cs i).lg a->¬ RX (B j) (K j) (cs j).lg a
 o:∀i,nb<=i->i<3->m[K i]?=some (eE false [] [] 60)/\∀j,j<nb->¬ RX (B j) (K j) (cs j).lg (K i)
def PI.fr{m':He}{X:Nat->Prop}{B k:Nat}{s:US}{left:Bi}{room:Int}{lg d:Nat}(I:PI m B k P s left room lg d)(F:Fr X m m')(h:∀j,RX B k lg j->¬ X j):PI m' B k P s left room lg d:=by
 obtain⟨c,v,hv,Ib⟩:=I.bl;exact⟨⟨c,v,hv,Ib.rest F λj hj=>h j (.inl (by rw[<- hv];exact hj))⟩,F.get I.ow (h _ (.inr rfl)),I.ap,I.no⟩
def PI.lt{B k:Nat}{s:US}{left:Bi}{room:Int}{lg d:Nat}(I:PI m B k P s left room lg d){j:Nat}(h:RX B k lg j):j<m.length:=by
 obtain⟨c,v,hv,Ib⟩:=I.bl
 have:=Ib.n1
 have:=Ib.n2
 have:=(c_.mp I.ow).1
 rcases h with(h|h)|h<;>omega
theorem LI.fr{m':He}{X:Nat->Prop}{B K:Nat->Nat}{nb:Nat}{cs:Nat->Rc}(L:LI m P B K nb cs)(F:Fr X m m')(h:∀i,i<nb->∀j,RX (B i) (K i) (cs i).lg j->¬ X j)(h2:∀i,nb<=i->i<3->¬ X (K i)):LI m' P B K nb cs:=
 ⟨λi hi=>(L.r i hi).fr F (h i hi),L.n,L.ap,λi hi h3=>⟨F.get (L.o i hi h3).1 (h2 i hi h3),(L.o i hi h3).2⟩⟩
def jN(cs:Nat->Rc)(i:Nat)(c:Rc):Nat->Rc:=λj=>if j=i then c else cs j
def LI.put{m':He}{B K:Nat->Nat}{nb:Nat}{cs:Nat->Rc}(L:LI m P B K nb cs){i:Nat}(hi:i<nb){c:Rc}(I:PI m' (B i) (K i) P c.s c.left c.room c.lg c.d)(N:Rn c)(hl:m.length<=c.lg\/c.lg=(cs i).lg)(F:Fr (RX (B i) (K i) (cs i).lg) m m'):LI m' P B K nb (jN cs i c):=by
 have e:jN cs i c i=c:=if_pos rfl;have ne:∀j,j≠i->jN cs i c j=cs j:=λj h=>if_neg h;have up:∀a,a<m.length->RX (B i) (K i) c.lg a->RX (B i) (K i) (cs i).lg a:=λa ha h=>by
  rcases h with(h|h)|h
  ·exact .inl (.inl h)
  ·rcases hl with z|z
   ·omega
   ·exact .inl (.inr (by omega))
  ·exact .inr h
 refine⟨λj hj=>?_,λj hj=>?_,λj hj l sL n a ha hb=>?_,λj hj h3=>?_⟩
 ·by_cases z:j=i
  ·subst z;rw[e];exact I
  ·rw[ne j z]
   exact(L.r j hj).fr F λa ha=>L.ap j hj i hi z a ha
 ·by_cases z:j=i
  ·subst z;rw[e];exact N
  ·rw[ne j z];exact L.n j hj
 ·by_cases z:j=i
  ·subst z
   rw[e]at ha;rw[ne l (Ne.symm n)]at hb;exact L.ap l sL j hj (Ne.symm n) a hb (up a ((L.r l sL).lt hb) ha)
  ·rw[ne j z]at ha
   by_cases z2:l=i
   ·subst z2
    rw[e]at hb;exact L.ap j hj l sL n a ha (up a ((L.r j hj).lt ha) hb)
   ·rw[ne l z2]at hb
    exact L.ap j hj l sL n a ha hb
 ·obtain⟨a1,a2⟩:=L.o j hj h3
  refine⟨F.get a1 (a2 i hi),λl sL h=>?_⟩;by_cases z:l=i
  ·subst z
   rw[e]at h;exact a2 l sL (up _ (c_.mp a1).1 h)
  ·rw[ne l z]at h
   exact a2 l sL h
end
def ua(B:Nat->Nat)(i c:Nat):Nat->Nat:=λj=>if j=i then c else B j
abbrev pI(l:Ap):T:=.tup [.lst (l.map T.str),.lst (l.map T.str)]
abbrev O2(B:Nat)(P:PG):He:=[jr B 0 [] false,{u1 B P with wt:=true}.ob,lZ B P,aN,aN,aN,aN,c7 [],c7 [dC 0],c7 []]
section
variable{P:PG}{f:Int}{m:He}{B K:Nat->Nat}{nb:Nat}{cs:Nat->Rc}
theorem qC:∀(xs:Ap)(s:US),s.2.length+4*xs.length<=900->(P.rows s xs).1.length<=4000*xs.length
 |[],_,_=>bV _
 |x::xs,s,h=>by
  rw[eT]at h;have l1:=se (P:=P) (s:=s) (x:=x) (by omega)
  have l2:=r_ (P:=P) (s:=s) (x:=x)
  have:=qC xs (P.rw s x).2 (by omega)
  rw[PG.rows,eT];show((P.rw s x).1++(P.rows (P.rw s x).2 xs).1).length<=_;rw[dg];omega
def LI.add(L:LI m P B K 2 cs):LI (m++O2 m.length P) P (ua B 2 m.length) K 3 (jN cs 2 ⟨m.length+8,0,(false,[]),[],60⟩):=by
 obtain⟨m',v,hm,I,Vp⟩:=j_ P m;have F:Fr (λ_=>False) m m':=by rw[hm];exact Fr.app
 have hm:m++O2 m.length P=m':=hm.symm;rw[hm];obtain⟨o1,o2⟩:=L.o 2 (bV _) (by omega)
 have hK:=(c_.mp o1).1;have eC:jN cs 2 ⟨m.length+8,0,(false,[]),[],60⟩ 2=⟨m.length+8,0,(false,[]),[],60⟩:=if_pos rfl;have nC:∀j,j≠2->jN cs 2 ⟨m.length+8,0,(false,[]),[],60⟩ j=cs j:=λj h=>if_neg h;have eB:ua B 2 m.length 2=m.length:=if_pos rfl;have nB:∀j,j≠2->ua B 2 m.length j=B j:=λj h=>if_neg h;have Z5:∀j,j<2->∀a,RX (B j) (K j) (cs j).lg a->¬ RX m.length (K 2) (m.length+8) a:=λj hj a ha hb=>by
  have:=(L.r j hj).lt ha
  rcases hb with(h|h)|h
  ·omega
  ·omega
  ·rw[h]at ha;exact o2 j hj ha
 refine⟨λi hi=>?_,λi hi=>?_,λi hi j hj n a ha hb=>?_,λi hi h3=>by omega⟩
 ·by_cases z:i=2
  ·subst z
   rw[eC,eB];show PI m' m.length (K 2) P (false,[]) [] 60 (m.length+8) 0;exact⟨⟨0,v,Vp,I⟩,F.get o1 λz=>z,λz=>by rcases z with z|z<;>omega,λz=>by cases z⟩
  ·rw[nC i z,nB i z]
   exact(L.r i (by omega)).fr F λ_ _ z=>z
 ·by_cases z:i=2
  ·subst z
   rw[eC];exact⟨by show(0:Int)<=60;decide,by show(0:Int)+4*(0:Int)+4*60<=240;decide,by show(0:Int)+4*60<=240;decide⟩
  ·rw[nC i z];exact L.n i (by omega)
 ·by_cases z:i=2
  ·subst z
   rw[nC j (Ne.symm n),nB j (Ne.symm n)]at hb;rw[eC,eB]at ha;exact Z5 j (by omega) a hb ha
  ·rw[nC i z,nB i z]at ha
   by_cases z2:j=2
   ·subst z2
    rw[eC,eB]at hb;exact Z5 i (by omega) a ha hb
   ·rw[nC j z2,nB j z2]at hb
    exact L.ap i (by omega) j (by omega) n a ha hb
def EZ{i:Nat}(h:i<3):jf (.lst (kT K)) (.int i)=some (.own (K i)):=by
 obtain rfl|rfl|rfl:i=0\/i=1\/i=2:=by omega
 ·rfl
 ·rfl
 ·rfl
def Yo{s:S}{i:Nat}{b:FE}(h0:s.r[4]?=some (some (.ol (Jb B nb))))(hb:b s=.ok (.int i,s))(hi:i<nb):lU 4 b s=.ok (.own (B i),s):=by
 have e:GH (.lst (Jb B nb)) (.int i)=some (.own (B i)):=by
  rw[ZV (by rw[b_,jU];exact hi),JH,List.getElem_range]
 unfold lU;rw[h0];show Res.bind (b s) _=_;rw[hb];refine Eq.trans (bo _ _) ?_;dsimp only;rw[h0];show Res.bind (aT (GH (.lst (Jb B nb)) (.int i))) _=_;rw[e];rfl
def Vt{s:S}{i:Nat}{l:FV}{k:Nat}(h0:s.r[i]?=some (some (.ol l)))(hl:l.length=k):jk i s=.ok (.int k,s):=by
 unfold jk;rw[h0,<- hl];rfl
def my:(Jb B nb).length=nb:=by rw[b_,jU]
def z6{s:S}{i k:Nat}{ts:FV}(h:s.r[i]?=some (sv (.own k)))(hm:s.m[k]?=some (c7 ts)):wm M.bc i s=.ok (.lst ts,jR {s with m:=s.m.set k ⟨M.bc,[]⟩} i (.val (.lst ts))):=by
 unfold wm;rw[h];dsimp only;rw[jn hm];rfl
abbrev lX(ns:Fh)(f:Int)(P:PG)(B K:Nat->Nat)(nb:Nat)(held:List Ap)(cell:Int)(i:Nat)(x:Bi)(b c d e:Option C)(m:He):S:=lS ns f P B K nb (held.map pI) (sv (.int cell)) (sv (.int i)) (sv (.str x)) b c d e m
def O3(o:P.ok)(F:FP P f){ns:Fh}{cell:Int}{held:List Ap}{a8 a9 eX eM eF e9:Option C}(L:LI m P B K nb cs)(hn:(held.length<=6/\nb=2)\/(6<held.length/\nb=3))(hh:held.length<1000) :
  W (Ox (cN (n+15)) (lS ns f P B K nb (held.map pI) (sv (.int cell)) a8 a9 eX eM eF e9 m)) λp=>p.1=.nx/\∃m' B' nb' cs' rows a8 a9 eX eM eF e9,p.2=lS ns f P B' K nb' ((held++[rows]).map pI) (sv (.int cell)) a8 a9 eX eM eF e9 m'/\LI m' P B' K nb' cs'/\((held.length<6/\nb'=2)\/(6<=held.length/\nb'=3)):=by
 refine dJ (W.mono (Q:=λp=>p.1=.nx/\∃m1 B1 nb1 cs1,p.2=lS ns f P B1 K nb1 (held.map pI) (sv (.int cell)) a8 a9 eX eM eF e9 m1/\LI m1 P B1 K nb1 cs1/\((held.length<6/\nb1=2)\/(6<=held.length/\nb1=3))) ?_ λp hp=>⟨hp.1,?_⟩)
 ·have c1:bu (oE (jk 6) (cI 6)) (lS ns f P B K nb (held.map pI) (sv (.int cell)) a8 a9 eX eM eF e9 m)=.ok (decide (((held.length:Nat):Int)=6),lS ns f P B K nb (held.map pI) (sv (.int cell)) a8 a9 eX eM eF e9 m):=gz (aD (t:=.int held.length) (u:=.int 6) (Vt rfl (b_ ..)) rfl (uN _ _))
  by_cases h6:held.length=6
  ·rw[decide_eq_true (by omega)]at c1
   have h2:nb=2:=by omega
   subst h2;exact f9 c1 (W.of (As (i:=4) (KZ:=Jb B 2) (ts:=Jb B 2) (t:=.own m.length) (s1:=lS ns f P B K 2 (held.map pI) (sv (.int cell)) a8 a9 eX eM eF e9 (m++O2 m.length P)) rfl (Au (ts:=[jL P]) (s':=lS ns f P B K 2 (held.map pI) (sv (.int cell)) a8 a9 eX eM eF e9 m) rfl (oF (n+12) o)) rfl (by rw[my];decide)) ⟨rfl,_,ua B 2 m.length,3,_,rfl,L.add,by omega⟩)
  ·rw[decide_eq_false (by omega)]at c1
   exact bw c1 ⟨_,rfl,rfl,m,B,nb,cs,rfl,L,by omega⟩
 obtain⟨_,m,B,nb,cs,e,L,hn⟩:=hp;rw[e];clear e;have h3:nb<=3:=by omega
 obtain⟨i,hi⟩:∃i:Nat,cell % (nb:Nat)=(i:Nat):=⟨(cell % (nb:Nat)).toNat,by have:=By cell (show(nb:Int)≠0 by omega);omega⟩
 have sy:i<nb:=by have:=JW cell (show 0<(nb:Int) by omega);omega
 have I:=L.r i sy;obtain⟨N1,N2,N3⟩:=L.n i sy;obtain⟨c,hc⟩:∃c,c=cs i:=⟨_,rfl⟩;rw[<- hc]at I N1 N2 N3;refine wS (t:=.int i) ((aD (t:=.int cell) (u:=.int nb) rfl (Vt rfl my) (mod_eq (by omega))).trans (by rw[hi])) (wS (t:=.str []) rfl ?_)
 have eo:∀{hl:FV}{a9 eX eM eF e9:Option C}{m:He},oI (vF 5) (vF 8) (lS ns f P B K nb hl (sv (.int cell)) (sv (.int i)) a9 eX eM eF e9 m)=.ok (.own (K i),lS ns f P B K nb hl (sv (.int cell)) (sv (.int i)) a9 eX eM eF e9 m):=aD (t:=.lst (kT K)) (u:=.int i) rfl rfl (EZ (by omega))
 obtain⟨q,hq⟩:∃q:Nat,(if c.room<cell/6 % 4 then c.room else cell/6 % 4)=(q:Nat):=⟨(if c.room<cell/6 % 4 then c.room else cell/6 % 4).toNat,by split<;>omega⟩
 have Po:(q:Int)<=c.room:=by rw[<- hq];split<;>omega
 have hq2:(q:Int)<=3:=by rw[<- hq];split<;>omega
 refine dJ (fF (W.of (Ij (ts:=[.int q]) (az (dW (ts:=[.int (cell/6 % 4),.int c.room]) (az (md (fd rfl (by decide)) (by decide)) (az (EM I.ow eo) rfl)) (by show some (T.int (if c.room<cell/6 % 4 then c.room else cell/6 % 4))=_;rw[hq])) rfl) (UC q (by omega))) ?_))
 refine W.mono (u7 (n+14) (vt 0 q) [] eX e9 (λp hp=>by have:=(List.mem_range'_1.mp hp).2;omega) (by rw[JJ];show 0+_<=_;omega)) λp hp=>⟨hp.1,?_⟩
 obtain⟨_,x,kR,kU,e,hx⟩:=hp;rw[e];rw[JJ]at hx;have hx:x.length=0+q:=hx;obtain⟨m1,h1⟩:∃m1,m1=m.set (K i) (eE c.s.1 c.s.2 c.left (c.room-(x.length:Nat))):=⟨_,rfl⟩;have F1:Fr (λj=>j=K i) m m1:=by rw[h1];exact Fr.set rfl
 have l1:m1.length=m.length:=by rw[h1,fh]
 have I1:PI m1 (B i) (K i) P c.s c.left (c.room-(x.length:Nat)) c.lg c.d:=by
  obtain⟨c0,v,hv,Ib⟩:=I.bl;exact⟨⟨c0,v,hv,Ib.rest F1 λj hj z=>I.ap (by have z:j=K i:=z;rw[<- z,<- hv];exact hj)⟩,by rw[h1];exact cj (c_.mp I.ow).1,I.ap,I.no⟩
 refine dJ (W.of (a:=(Out.nx,lX ns f P B K nb held cell i x kR eM eF kU m1)) (by rw[h1];exact OX (s':=lX ns f P B K nb held cell i x kR eM eF kU m) (aD (t:=.int c.room) (u:=.int x.length) (EM I.ow eo) (dW (ts:=[.str x]) rfl rfl) rfl) eo I.ow) ⟨rfl,?_⟩)
 obtain⟨⟨t2,m2⟩,e2,kk,Ff,wR,b1,b2,b3,b4,I2,F2⟩:=EV (n+1) o F (x:=x) I1 (by omega) (by omega) (by omega) (by omega)
 have wR:t2=.own kk:=wR;subst wR;refine dJ (W.of (fW (cZ (ts:=[.own (B i),.own (K i),.str x,.int f,km P]) (s':=lX ns f P B K nb held cell i x kR eM eF kU m1) (az (Yo rfl rfl sy) (az eo rfl)) e2)) ⟨rfl,?_⟩);show W (af _ _ (lX ns f P B K nb held cell i x kR (sv (.own kk)) eF kU m2)) _;refine Lh (gz (aD (t:=.own kk) (u:=.non) rfl rfl rfl)) ?_;have co:=ja x c.left I.no;have rl:=kq (P:=P) (bg c.left x).1 c.s;have co1:=co.l1;have co2:=co.l2;obtain⟨c',BE⟩:∃c':Rc,c'=⟨Ff,c.d+4*(bg c.left x).1.length,(P.rows c.s (bg c.left x).1).2,(bg c.left x).2,c.room-(x.length:Nat)⟩:=⟨_,rfl⟩;have L2:LI m2 P B K nb (jN cs i c'):=by
  refine L.put sy (c:=c') (by rw[BE];exact I2) (by
   rw[BE];refine⟨?_,?_,?_⟩
   ·show 0<=c.room-(x.length:Nat)
    omega
   ·show(((P.rows c.s (bg c.left x).1).2.2.length:Nat):Int)+4*((bg c.left x).2.length:Nat)+4*(c.room-(x.length:Nat))<=240
    omega
   ·show((c.d+4*(bg c.left x).1.length:Nat):Int)+4*(c.room-(x.length:Nat))<=240
    omega) (.inl (by rw[BE];show m.length<=Ff;omega)) ?_
  rw[<- hc];exact(F1.mono λ_=>.inr).trans F2
 have Uy:∀j,j<nb->∀a,RX (B j) (K j) (jN cs i c' j).lg a->¬ a=kk:=λj hj a ha z=>by
  by_cases hji:j=i
  ·subst hji
   have e:jN cs j c' j=c':=if_pos rfl;rw[e,BE]at ha;rcases ha with(h|h)|h
   ·have:=I.lt (.inl (.inl h));omega
   ·have h:a=Ff:=h
    omega
   ·have:=I.lt (.inr h);omega
  ·have e:jN cs i c' j=cs j:=if_neg hji
   rw[e]at ha
   have:=(L.r j hj).lt ha
   omega
 have Z6:∀j,nb<=j->j<3->¬ K j=kk:=λj hj h3 z=>by
  have:=(c_.mp (L.o j hj h3).1).1
  omega
 have fin:∀(rows:Ap)(m3:He),m3[kk]?=some (c7 (rows.map T.str))->LI m3 P B K nb (jN cs i c')->W (iO 6 (bz gq (k2 (wm M.bc 11) (bz tW (k1 (vF 11))))) (lX ns f P B K nb held cell i x kR (sv (.own kk)) eF kU m3)) λp=>p.1=.nx/\∃m' B' nb' cs' rows a8 a9 eX eM eF e9,p.2=lS ns f P B' K nb' ((held++[rows]).map pI) (sv (.int cell)) a8 a9 eX eM eF e9 m'/\LI m' P B' K nb' cs'/\((held.length<6/\nb'=2)\/(6<=held.length/\nb'=3)):=λrows m3 hk L3=>by
  have L4:LI (m3.set kk ⟨M.bc,[]⟩) P B K nb (jN cs i c'):=L3.fr (Fr.set (X:=λj=>j=kk) rfl) Uy Z6;refine W.of (As (i:=6) (KZ:=held.map pI) (ts:=held.map pI) (t:=pI rows) (s1:=lX ns f P B K nb held cell i x kR (sv (.lst (rows.map T.str))) eF kU (m3.set kk ⟨M.bc,[]⟩)) rfl (dW (ts:=[.lst (rows.map T.str),.lst (rows.map T.str)]) (az (z6 rfl hk) (az (dW (ts:=[.lst (rows.map T.str)]) rfl rfl) rfl)) rfl) rfl (by rw[b_];omega)) ⟨rfl,m3.set kk ⟨M.bc,[]⟩,B,nb,_,rows,sv (.int i),sv (.str x),kR,sv (.lst (rows.map T.str)),eF,kU,?_,L4,hn⟩
  rw[jv];rfl
 have c1:bu (oE (oM (oD (vF 7) (cI 5)) (cI 3)) zI) (lX ns f P B K nb held cell i x kR (sv (.own kk)) eF kU m2)=.ok (decide (cell/5 % 3=1),lX ns f P B K nb held cell i x kR (sv (.own kk)) eF kU m2):=gz (aD (md (fd rfl (by decide)) (by decide)) rfl (uN _ _))
 by_cases h5:cell/5 % 3=1
 ·rw[decide_eq_true h5]at c1
  have rl1:((P.rows c.s (bg c.left x).1).1.map T.str).length<1000000:=by
   rw[b_]
   have:=qC (P:=P) (bg c.left x).1 c.s (by omega)
   omega
  refine dJ (f9 c1 (W.of (Ld (s1:=lX ns f P B K nb held cell i x kR (sv (.own kk)) eF kU m2) (s2:=lX ns f P B K nb held cell i x kR (sv (.own kk)) eF kU m2) rfl b1 rfl b1 rl1) ⟨rfl,?_⟩));rw[strs_snoc];exact fin _ _ (cj (c_.mp b1).1) (L2.fr (Fr.set (X:=λj=>j=kk) rfl) Uy Z6)
 ·rw[decide_eq_false h5]at c1
  exact Lh c1 (fin _ m2 b1 L2)
end
section
variable{P:PG}{f:Int}{K:Nat->Nat}
theorem E1(n:Nat)(o:P.ok)(F:FP P f){ns:Fh}:∀(cells:Fh){held:List Ap}{m:He}{B:Nat->Nat}{nb:Nat}{cs:Nat->Rc}{a7 a8 a9 eX eM eF e9:Option C},LI m P B K nb cs->((held.length<=6/\nb=2)\/(6<held.length/\nb=3))->held.length+cells.length<=900 ->
  W (bZ (setG 7) (Ox (cN (n+15))) (cells.map T.int) (lS ns f P B K nb (held.map pI) a7 a8 a9 eX eM eF e9 m)) λp=>p.1=.nx/\∃m' B' nb' cs',∃held':List Ap,∃a7 a8 a9 eX eM eF e9,p.2=lS ns f P B' K nb' (held'.map pI) a7 a8 a9 eX eM eF e9 m'/\LI m' P B' K nb' cs'/\(nb'=2\/nb'=3)/\held'.length<=900
 |[],held,m,B,nb,cs,a7,a8,a9,eX,eM,eF,e9,L,hn,hc=>⟨_,rfl,rfl,m,B,nb,cs,held,a7,a8,a9,eX,eM,eF,e9,rfl,L,by omega,by show held.length<=900;omega⟩
 |cell::cells,held,m,B,nb,cs,a7,a8,a9,eX,eM,eF,e9,L,hn,hc=>by
  rw[eT]at hc;refine fX (r:=(lS ns f P B K nb (held.map pI) (sv (.int cell)) a8 a9 eX eM eF e9 m).r) rfl ((O3 n o F L hn (by omega)).mono λp hp=>⟨hp.1,?_⟩)
  obtain⟨_,m2,B2,nb2,cs2,rows,b8,b9,b10,Vu,Vv,b13,e,L2,h2⟩:=hp;rw[e];exact E1 n o F cells L2 (by rw[dg,oN];omega) (by rw[dg,oN];omega)
structure LF(m:He)(P:PG)(B K:Nat->Nat)(w nb:Nat)(cs:Nat->Rc):Prop where
 r:∀i,w<=i->i<nb->PI m (B i) (K i) P (cs i).s (cs i).left (cs i).room (cs i).lg (cs i).d
 n:∀i,w<=i->i<nb->(cs i).s.2.length+4*(cs i).left.length<=240+10*w/\(cs i).d<=240+10*w
 ap:∀i,w<=i->i<nb->∀j,w<=j->j<nb->i≠j->∀a,RX (B i) (K i) (cs i).lg a->¬ RX (B j) (K j) (cs j).lg a
theorem E2(n:Nat)(o:P.ok)(F:FP P f){ns:Fh}{B:Nat->Nat}{nb:Nat}(h3:nb<=3){hl:FV}{a7 a9 eX e9:Option C}:∀(r:Nat){w:Nat}{m:He}{cs:Nat->Rc}{a8 eM eF:Option C},w+r=nb->LF m P B K w nb cs ->
  W (bZ (setG 8) (TR (cN (n+15))) ((vt w r).map λq=>T.int (q:Nat)) (lS ns f P B K nb hl a7 a8 a9 eX eM eF e9 m)) λp=>p.1=.nx/\∃a8 eM eF m',p.2=lS ns f P B K nb hl a7 a8 a9 eX eM eF e9 m'
 |0,w,m,cs,a8,eM,eF,_,_=>⟨_,rfl,rfl,a8,eM,eF,m,rfl⟩
 |r+1,w,m,cs,a8,eM,eF,hw,L=>by
  obtain⟨v,hv⟩:∃v:Nat,((w:Int)+1) % (nb:Nat)=(v:Nat):=⟨(((w:Int)+1) % (nb:Nat)).toNat,by have:=By ((w:Int)+1) (show(nb:Int)≠0 by omega);omega⟩
  have VX:(r=0/\v=0)\/(0<r/\v=w+1):=by
   by_cases hr:r=0
   ·have e:((w:Int)+1)=(nb:Nat):=by omega
    rw[e,Int.emod_self]at hv;omega
   ·rw[Int.emod_eq_of_lt (by omega) (by omega)]at hv
    omega
  have I:=L.r w (bV _) (by omega)
  obtain⟨N1,N2⟩:=L.n w (bV _) (by omega)
  have e12:oM (oA (vF 8) zI) (jk 4) (lS ns f P B K nb hl a7 (sv (.int w)) a9 eX eM eF e9 m)=.ok (.int v,lS ns f P B K nb hl a7 (sv (.int w)) a9 eX eM eF e9 m):=(aD (t:=.int ((w:Int)+1)) (u:=.int nb) rfl (Vt rfl my) (mod_eq (by omega))).trans (by rw[hv])
  have eo:∀{q:Nat}{a:FE}{a8 eM eF:Option C}{m:He},q<3->a (lS ns f P B K nb hl a7 a8 a9 eX eM eF e9 m)=.ok (.int q,lS ns f P B K nb hl a7 a8 a9 eX eM eF e9 m)->oI (vF 5) a (lS ns f P B K nb hl a7 a8 a9 eX eM eF e9 m)=.ok (.own (K q),lS ns f P B K nb hl a7 a8 a9 eX eM eF e9 m):=λhq ha=>aD (t:=.lst (kT K)) rfl ha (EZ hq);obtain⟨⟨t1,m1⟩,e1,ht,F1⟩:=u6 (n+1) o F I (by omega) (by omega) (by omega)
  have ht:t1=.bl true:=ht;subst ht;have keep:∀j,w+1<=j->j<nb->PI m1 (B j) (K j) P (cs j).s (cs j).left (cs j).room (cs j).lg (cs j).d:=λj h1 h2=>(L.r j (by omega) h2).fr F1 (L.ap j (by omega) h2 w (bV _) (by omega) (by omega))
  refine fX (r:=(lS ns f P B K nb hl a7 (sv (.int w)) a9 eX eM eF e9 m).r) rfl (wS e12 (dJ (bw (s':=lS ns f P B K nb hl a7 (sv (.int w)) a9 eX eM (sv (.int v)) e9 m1) (pG (X3 (cZ (ts:=[.own (B w),.own (K w),.int f,km P]) (s':=lS ns f P B K nb hl a7 (sv (.int w)) a9 eX eM (sv (.int v)) e9 m) (az (Yo rfl rfl (by omega)) (az (eo (by omega) rfl) rfl)) e1))) ⟨_,rfl,rfl,?_⟩)))
  have cg:bu (bA (aM .Gt) (vF 12) zO) (lS ns f P B K nb hl a7 (sv (.int w)) a9 eX eM (sv (.int v)) e9 m1)=.ok (decide (0<(v:Int)),lS ns f P B K nb hl a7 (sv (.int w)) a9 eX eM (sv (.int v)) e9 m1):=gz (aD rfl rfl (rP _ _));rcases VX with⟨hr,h0⟩|⟨hr,h1⟩
  ·rw[decide_eq_false (by omega)]at cg
   subst hr;exact bw cg ⟨_,rfl,rfl,_,rfl,rfl,_,_,_,_,rfl⟩
  ·rw[decide_eq_true (by omega)]at cg
   subst h1;have I1:=keep (w+1) (bV _) (by omega)
   obtain⟨M1,M2⟩:=L.n (w+1) (by omega) (by omega)
   obtain⟨c,hc⟩:∃c,c=cs (w+1):=⟨_,rfl⟩;rw[<- hc]at I1 M1 M2;obtain⟨⟨t2,m2⟩,e2,kk,Ff,wR,b1,b2,b3,b4,I2,F2⟩:=EV (n+1) o F (x:=[P.a,10]) I1 (by show _+2<=_;omega) (by show _+4*2<=_;omega) (by show 2<=100;decide) (by show _+4*2<_;omega)
   have wR:t2=.own kk:=wR;subst wR;have co:=ja [P.a,10] c.left I1.no;have rl:=kq (P:=P) (bg c.left [P.a,10]).1 c.s;have co1:_<=2:=co.l1;have co2:_<=c.left.length+2:=co.l2;obtain⟨c',BE⟩:∃c':Rc,c'=⟨Ff,c.d+4*(bg c.left [P.a,10]).1.length,(P.rows c.s (bg c.left [P.a,10]).1).2,(bg c.left [P.a,10]).2,c.room⟩:=⟨_,rfl⟩;have e:jN cs (w+1) c' (w+1)=c':=if_pos rfl;have ne:∀j,j≠w+1->jN cs (w+1) c' j=cs j:=λj h=>if_neg h;have up:∀a,a<m1.length->RX (B (w+1)) (K (w+1)) c'.lg a->RX (B (w+1)) (K (w+1)) (cs (w+1)).lg a:=λa ha h=>by
    rw[BE]at h;rcases h with(h|h)|h
    ·exact .inl (.inl h)
    ·have h:a=Ff:=h
     omega
    ·exact .inr h
   have L2:LF m2 P B K (w+1) nb (jN cs (w+1) c'):=by
    refine⟨λj h1 h2=>?_,λj h1 h2=>?_,λj h1 h2 l h3 h4 n' a ha hb=>?_⟩
    ·by_cases z:j=w+1
     ·subst z;rw[e,BE];exact I2
     ·rw[ne j z]
      refine(keep j h1 h2).fr F2 λa ha=>?_;rw[hc];exact L.ap j (by omega) h2 (w+1) (by omega) (by omega) z a ha
    ·by_cases z:j=w+1
     ·subst z
      rw[e,BE];constructor
      ·show(P.rows c.s (bg c.left [P.a,10]).1).2.2.length+4*(bg c.left [P.a,10]).2.length<=_
       omega
      ·show c.d+4*(bg c.left [P.a,10]).1.length<=_
       omega
     ·rw[ne j z]
      have:=L.n j (by omega) h2
      omega
    ·by_cases z:j=w+1
     ·subst z
      rw[e]at ha;rw[ne l (Ne.symm n')]at hb;exact L.ap l (by omega) h4 (w+1) (by omega) (by omega) (Ne.symm n') a hb (up a ((keep l h3 h4).lt hb) ha)
     ·rw[ne j z]at ha
      by_cases z2:l=w+1
      ·subst z2
       rw[e]at hb;exact L.ap j (by omega) h2 (w+1) (by omega) (by omega) n' a ha (up a ((keep j h1 h2).lt ha) hb)
      ·rw[ne l z2]at hb
       exact L.ap j (by omega) h2 l (by omega) h4 n' a ha hb
   refine f9 cg (dJ (W.of (fW (cZ (ts:=[.own (B (w+1)),.own (K (w+1)),.str [P.a,10],.int f,km P]) (s':=lS ns f P B K nb hl a7 (sv (.int w)) a9 eX eM (sv (.int ((w+1:Nat)))) e9 m1) (az (Yo rfl rfl (by omega)) (az (eo (by omega) rfl) (az (Fg (x:=[P.a]) (y:=[10]) (aD (t:=sgn P) (u:=.int 0) rfl rfl rfl) rfl (by show 1+1<=_;decide)) rfl))) e2)) ⟨rfl,bw (s':=lS ns f P B K nb hl a7 (sv (.int w)) a9 eX (sv (.own kk)) (sv (.int ((w+1:Nat)))) e9 m2) (gz (aD (t:=.own kk) (u:=.non) rfl rfl rfl)) ⟨_,rfl,rfl,?_⟩⟩))
   exact E2 n o F h3 r (by omega) L2
def LI.fin{B:Nat->Nat}{nb:Nat}{cs:Nat->Rc}(L:LI m P B K nb cs):LF m P B K 0 nb cs:=⟨λi _ h=>L.r i h,λi _ h=>by
 obtain⟨a,b,c⟩:=L.n i h;omega,λi _ h j _ h2=>L.ap i h j h2⟩
end
def O4{t:T}(h:shape 5 t t=true):aM .Eq t t=some (.bl true):=by
 have:aM .Eq t t=Ws t t:=by cases t<;>rfl
 rw[this];show gd (shape 5 t t=true) (T.bl (eqT t t))=_;rw[m_];exact lu h
noncomputable abbrev l0(ns:Fh)(f:Int)(P:PG)(a:Option C)(m:He):S:=⟨[sv (.scr ns),sv (.int f),sv (sgn P),sv (jL P),a,none,none,none,none,none,none,none,none,none],m⟩
def Yp{g:FG}{e:FE}{b b1 b2:FK}{t u:T}{ts us:FV}{m m1 m2:He}(h:g t b=some b1)(h2:e ⟨b1,m⟩=.ok (u,⟨b2,m1⟩))(k:dw g fm e b ts m1=.ok (us,m2)):dw g fm e b (t::ts) m=.ok (u::us,m2):=by
 rw[dw,h];refine Eq.trans (bo _ _) ?_;refine Eq.trans (bo _ _) ?_;show Res.bind (e ⟨b1,m⟩) _=_;rw[h2];refine Eq.trans (bo _ _) ?_;dsimp only;rw[k];rfl
def O5{ns:Fh}(hn:ns.length<=63):cN (n+16) 53 [.scr ns] []=.ok (.bl true,[]):=by
 rw[w53];obtain⟨f,hf⟩:∃f,f=cellAt ns 0:=⟨_,rfl⟩;have e0:=za (n+14) (ns:=ns) (k:=0) (m:=[]);have e1:=za (n+14) (ns:=ns) (k:=1) (m:=[]);rw[<- hf]at e0;obtain⟨a,b,c,⟨pa,pb,pc⟩,e2⟩:=EX (n+14) (cellAt ns 1) [];obtain⟨mo,Yn,okm⟩:=UA f;obtain⟨P,hP⟩:∃P:PG,P=⟨decide (f % 2=1),mo,a,b,c⟩:=⟨_,rfl⟩;have o:P.ok:=by rw[hP];exact⟨pa,pb,pc,okm⟩
 have hr:P.rv=decide (f % 2=1):=by rw[hP]
 have hm:Vq f P.mo:=by rw[hP];exact Yn
 have e2:cN (n+15) 43 [.int (cellAt ns 1)] []=.ok (sgn P,[]):=by rw[hP];exact e2
 have F:FP P f:=⟨hr,by
  rcases hm with⟨h,d,h1,_⟩|h
  ·exact .inl ⟨h,d,h1⟩
  ·exact .inr h⟩
 have tl:(ou P.mo P.a P.b).txt.length<=100:=by
  rcases hm with⟨_,d,h1,_⟩|⟨_,h1⟩
  ·have:=o.m
   rw[h1]at this ⊢;have h3:=this.1.hl;show d.length+1+26<=_;omega
  ·rw[h1];show 26<=100;decide
 have et:=I_ (n+14) (m:=[]) o hr hm tl;have pl:(AB P.rv P.mo P.a P.b P.c).length<=100000:=by
  have h1:(wM P.a P.b).txt.length=25:=rfl;have h2:(rZ P.c).txt.length=15:=rfl;unfold AB prog;cases P.rv<;>simp[cV]<;>omega
 have er:=AD n (m:=[]) (rv:=P.rv) o.a o.b o.c o.m pl;have ep:(.obj 0 [.lst (bC (prog P.rv P.mo P.a P.b P.c))]:T)=jL P:=by
  rw[P.prog,<- wV]
 rw[ep]at er;have epp:=EY (n+7) (m:=[]) o hr hm;refine sEq rfl rfl rfl (bS (cE (ts:=[.scr ns,.int 0]) rfl e0) (bS (cE (ts:=[.int (cellAt ns 1)]) (az (cE (ts:=[.scr ns,.int 1]) rfl e1) rfl) e2) (bS (cE (ts:=[.str (AB P.rv P.mo P.a P.b P.c)]) (az (cE (ts:=[.int f,sgn P]) rfl et) rfl) er) ?_)));have Yq:∀(B:FS)(G:T×He->Prop),WB B (l0 ns f P none []) G->WB (af (aR (bu (oE (oM (oD zB (cI 24)) (cI 2)) zI))
  (aI 3 (aw (cN (n+15) 46) [] (k2 zB zC)))
  aC) B) (l0 ns f P none []) G:=λB G h=>by
  have c1:bu (oE (oM (oD zB (cI 24)) (cI 2)) zI) (l0 ns f P none [])=.ok (decide (f/24 % 2=1),(l0 ns f P none [])):=gz (aD (md (fd rfl (by decide)) (by decide)) rfl (uN _ _))
  by_cases hd:f/24 % 2=1
  ·rw[decide_eq_true hd]at c1
   exact bI c1 (cE (ts:=[.int f,sgn P]) rfl epp) h
  ·rw[decide_eq_false hd]at c1
   exact bN c1 h
 refine Yq _ _ ?_;obtain⟨mA,vA,hA,IA,gA'⟩:=j_ P [];obtain⟨mB,vB,hB,IB,Z7⟩:=j_ P mA;have lA:mA.length=10:=by rw[hA];rfl
 have lB:mB.length=20:=by rw[hB,dg,lA];rfl
 have FB:Fr (λ_=>False) mA mB:=by rw[hB];exact Fr.app
 have nA:∀r:FK,iN 25 (cN (n+15) 84) (k1 zD) ⟨sv (.scr ns)::sv (.int f)::sv (sgn P)::sv (jL P)::r,[]⟩=.ok (.own 0,⟨sv (.scr ns)::sv (.int f)::sv (sgn P)::sv (jL P)::r,mA⟩):=λr=>Au (ts:=[jL P]) (s':=⟨sv (.scr ns)::sv (.int f)::sv (sgn P)::sv (jL P)::r,[]⟩) rfl ((oF (m:=[]) (n+12) o).trans (by rw[hA]))
 have nB:∀r:FK,iN 25 (cN (n+15) 84) (k1 zD) ⟨sv (.scr ns)::sv (.int f)::sv (sgn P)::sv (jL P)::r,mA⟩=.ok (.own 10,⟨sv (.scr ns)::sv (.int f)::sv (sgn P)::sv (jL P)::r,mB⟩):=λr=>by
  rw[<- lA];exact Au (ts:=[jL P]) (s':=⟨sv (.scr ns)::sv (.int f)::sv (sgn P)::sv (jL P)::r,mA⟩) (m':=mB) rfl ((oF (m:=mA) (n+12) o).trans (by rw[hB]))
 obtain⟨m3,h3⟩:∃m3,m3=mB++[eE false [] [] 60,eE false [] [] 60,eE false [] [] 60]:=⟨_,rfl⟩;refine b7 (W.of (a:=(Out.nx,l0 ns f P (some (.ol [.own 0,.own 10])) mB)) ?_ ⟨rfl,?_⟩)
 ·have e3:k2 (iN 25 (cN (n+15) 84) (k1 zD)) (iN 25 (cN (n+15) 84) (k1 zD)) (l0 ns f P none [])=.ok ([.own 0,.own 10],(l0 ns f P none mB)):=az (nA _) (az (nB _) rfl)
  unfold gX iR;refine Eq.trans (congrArg (λz=>Res.bind (Res.bind z _) _) e3) ?_;rfl
 have en:∀(m:He),cN (n+15) 47 [] m=.ok (.own m.length,m++[eE false [] [] 60]):=λm=>by
  rw[Ž];refine ee (s':=⟨[],m++[eE false [] [] 60]⟩) rfl (gI ?_) rfl;unfold Hs;have ea:Dn [cF (.bl false),bz dj ba,cS [],cI 60] ⟨[],m++[⟨M.bc,[.od [] []]⟩]⟩=.ok ([.bl false,.lst [],.str [],.int 60],⟨[],m++[⟨M.bc,[.od [] []]⟩]⟩):=rfl;refine Eq.trans (congrArg (λz=>Res.bind z _) ea) ?_;refine Eq.trans (bo _ _) ?_;dsimp only;rw[ly (ks:=[]) (ts:=[]) iZ];refine Eq.trans (bo _ _) ?_;dsimp only;unfold setB;dsimp only;rw[oB];rfl
 have e5:fq (cC (vR nj (k1 (cI 3))) 2 [] (setG 1) fm (aw (cN (n+15) 47) [] ba)) (l0 ns f P (some (.ol [.own 0,.own 10])) mB)=.ok (.lst [.own 20,.own 21,.own 22],(l0 ns f P (some (.ol [.own 0,.own 10])) m3)):=by
  have eg:dw (setG 1) fm (aw (cN (n+15) 47) [] ba) [none,none] [.int 0,.int 1,.int 2] mB=.ok ([.own mB.length,.own (mB++[eE false [] [] 60]).length,.own (mB++[eE false [] [] 60]++[eE false [] [] 60]).length],mB++[eE false [] [] 60]++[eE false [] [] 60]++[eE false [] [] 60]):=Yp (b1:=[none,sv (.int 0)]) rfl (cZ (ts:=[]) (s':=⟨[none,sv (.int 0)],mB⟩) rfl (en _)) (Yp (b1:=[none,sv (.int 1)]) rfl (cZ (ts:=[]) (s':=⟨[none,sv (.int 1)],mB++[eE false [] [] 60]⟩) rfl (en _)) (Yp (b1:=[none,sv (.int 2)]) rfl (cZ (ts:=[]) (s':=⟨[none,sv (.int 2)],mB++[eE false [] [] 60]++[eE false [] [] 60]⟩) rfl (en _)) rfl));rw[dg,dg,dg,lB,gQ,gQ]at eg;rw[h3];exact qv (qu (n:=2) (js:=[]) (ts:=[.int 0,.int 1,.int 2]) (s1:=(l0 ns f P (some (.ol [.own 0,.own 10])) mB)) (Ij (ts:=[.int 3]) rfl rfl) (by decide) eg)
 refine Tz e5 (b7 (W.of (a:=(Out.nx,lS ns f P (λi=>10*i) (λi=>20+i) 2 [] none none none none none none none m3)) rfl ⟨rfl,?_⟩));have l3:m3.length=23:=by rw[h3,dg,lB];rfl
 have F3:Fr (λ_=>False) mB m3:=by rw[h3];exact Fr.app
 have g3:∀i,i<3->m3[20+i]?=some (eE false [] [] 60):=λi hi=>by
  rw[h3,<- lB,gA]
  obtain rfl|rfl|rfl:i=0\/i=1\/i=2:=by omega
  ·rfl
  ·rfl
  ·rfl
 have L0:LI m3 P (λi=>10*i) (λi=>20+i) 2 (λi=>⟨10*i+8,0,(false,[]),[],60⟩):=by
  rw[lA]at IB Z7;refine⟨λi hi=>?_,λi _=>⟨by show(0:Int)<=60;decide,by show(0:Int)+4*(0:Int)+4*60<=240;decide,by show(0:Int)+4*60<=240;decide⟩,λi hi j hj n' a ha hb=>?_,λi h1 h2=>⟨g3 i h2,λj hj h=>?_⟩⟩
  ·obtain rfl|rfl:i=0\/i=1:=by omega
   ·exact⟨⟨0,vA,gA',IA.rest (FB.trans F3) λ_ _ z=>z⟩,g3 0 (by omega),(λz=>by
    have z:(10*0<=20+0/\20+0<10*0+10)\/20+0=10*0+8:=z;omega),λz=>by cases z⟩
   ·exact⟨⟨0,vB,Z7,IB.rest F3 λ_ _ z=>z⟩,g3 1 (by omega),(λz=>by
    have z:(10*1<=20+1/\20+1<10*1+10)\/20+1=10*1+8:=z;omega),λz=>by cases z⟩
  ·have ha:((10*i<=a/\a<10*i+10)\/a=10*i+8)\/a=20+i:=ha
   have hb:((10*j<=a/\a<10*j+10)\/a=10*j+8)\/a=20+j:=hb;omega
  ·have h:((10*j<=20+i/\20+i<10*j+10)\/20+i=10*j+8)\/20+i=20+j:=h
   omega
 obtain⟨cells,AJ⟩:∃cells,cells=cA ns (some 2) none:=⟨_,rfl⟩;have Q2:cells.length<=63:=by
  rw[AJ,EO (by decide),vn];omega
 refine b7 (fF (W.of (Oz (t:=.lst (cells.map T.int)) (Vm (t:=.scr ns) (x:=some 2) (y:=none) rfl rfl rfl (by rw[AJ];rfl)) rfl) ?_))
 refine W.mono (E1 n o F cells (held:=[]) L0 (.inl ⟨by show 0<=6;omega,rfl⟩) (by show 0+_<=_;omega)) λp hp=>⟨hp.1,?_⟩
 obtain⟨_,m4,B4,nb,cs4,held,a7,a8,a9,eX,eM,eF,e9,e4,L4,hnb,hhl⟩:=hp;rw[e4];refine b7 (fF (W.of (Ij (ts:=[.int nb]) (az (Vt rfl my) rfl) (UC nb (by omega))) ?_))
 refine W.mono (E2 n o F (ns:=ns) (by omega) nb (w:=0) (by omega) L4.fin) λp hp=>⟨hp.1,?_⟩
 obtain⟨_,b8,Vu,Vv,m5,e6⟩:=hp;rw[e6];have ec:cC (Ab (vF 6)) 3 [] (gG [1,2]) fm (oE zB zC) (lS ns f P B4 (λi=>20+i) nb (held.map pI) a7 b8 a9 eX Vu Vv e9 m5)=.ok ((held.map pI).map qw,⟨[sv (.scr ns),sv (.int f),sv (sgn P),sv (jL P),some (.ol (Jb B4 nb)),sv (.lst (kT λi=>20+i)),sv (.lst (held.map pI)),a7,b8,a9,eX,Vu,Vv,e9],m5⟩):=qu (n:=3) (js:=[]) (ts:=held.map pI) (s1:=⟨[sv (.scr ns),sv (.int f),sv (sgn P),sv (jL P),some (.ol (Jb B4 nb)),sv (.lst (kT λi=>20+i)),sv (.lst (held.map pI)),a7,b8,a9,eX,Vu,Vv,e9],m5⟩) rfl (by rw[b_];omega) (c5 λt ht=>by
  obtain⟨rows,_,rfl⟩:=jc.mp ht;exact⟨[none,sv (.lst (rows.map T.str)),sv (.lst (rows.map T.str))],[none,sv (.lst (rows.map T.str)),sv (.lst (rows.map T.str))],rfl,aD (t:=.lst (rows.map T.str)) (u:=.lst (rows.map T.str)) rfl rfl (O4 (y_ rows))⟩)
 refine yz (t:=.bl true) (dW (ts:=[.lst ((held.map pI).map qw)]) (az (qv ec) rfl) ?_) rfl;simp only[z8,GJ,all_true];simp
end K46
namespace K46
open PySem D L2
variable(n:Nat){m:List _root_.D.Ob}
set_option maxHeartbeats 0
def Jc:∀P,Om (KH.K P) M Ft It=true:=λP=>by kernel_rfl
def Jd:∀P,M.cs.all (Ie (KH.K P))=true:=λP=>by kernel_rfl
def Je:∀P,Ft.map (K7 (KH.K P))=Ft.map λe=>(K7 (KH.K P) e).map (DU e):=λP=>by kernel_rfl
set_option maxHeartbeats 0
def Z8:List Fe->Prop
 |[]=>True
 |e::r=>Bn e/\Z8 r
theorem Ll:∀{l:List Fe},Z8 l->∀e∈l,Bn e
 |e::r,h,x,hx=>by
  rcases gh.mp hx with z|z
  ·rw[z];exact h.1
  ·exact Ll h.2 x z
def Z9{P:Bz->Prop}(h:P []):∀us:Bz,us.length=0->P us
 |[],_=>h
 |_::_,e=>by cases e
def UD{n:Nat}{P:Bz->Prop}(h:∀a,∀us:Bz,us.length=n->P (a::us)):∀us:Bz,us.length=n+1->P us
 |[],e=>by cases e
 |a::us,e=>h a us (lI.inj e)
def Z_{P:Bz->Prop}(h:∀a,P [a]):∀us:Bz,us.length=1->P us:=UD λa=>Z9 (h a)
def À{P:Bz->Prop}(h:∀a b,P [a,b]):∀us:Bz,us.length=2->P us:=UD λa=>Z_ (h a)
def Á{P:Bz->Prop}(h:∀a b c,P [a,b,c]):∀us:Bz,us.length=3->P us:=UD λa=>À (h a)
def Â{P:Bz->Prop}(h:∀a b c d,P [a,b,c,d]):∀us:Bz,us.length=4->P us:=UD λa=>Á (h a)
def lz5{P:Bz->Prop}(h:∀a b c d e,P [a,b,c,d,e]):∀us:Bz,us.length=5->P us:=UD λa=>Â (h a)
def AF:Bn ⟨none,"stretch","stretch",top 63,["one","row","start","ends","begin"],["one","row","start"],[],true,[.int 0]⟩:=λ_ _ _ _ _ _ s a o gn n us ho hd hl O9=>by
 obtain⟨d,rfl⟩:=List.length_eq_one_iff.mp (show gn.length=1 from hl);have h:(us++[d]).length=3:=O9;rw[dg]at h
 match us,lI.inj h with
 |x::us,h=>
  match us,lI.inj h with
  |y::us,h=>
   cases List.eq_nil_of_length_eq_zero (lI.inj h);exact .of_defaults rfl ho hd rfl rfl
def bn:∀e∈Ft,Bn e:=Ll (by
 repeat' first|exact trivial|refine And.intro ?_ ?_
 all_goals first|exact λ_ _ _ _ _ _=>Z9 rfl|exact λ_ _ _ _ _ _=>Z_ λ_=>rfl|exact λ_ _ _ _ _ _=>À λ_ _=>rfl|exact λ_ _ _ _ _ _=>Á λ_ _ _=>rfl|exact λ_ _ _ _ _ _=>Â λ_ _ _ _=>rfl|exact λ_ _ _ _ _ _=>lz5 λ_ _ _ _ _=>rfl|exact AF)
end K46
end
open PySem PySem.W PyProof.Rows
set_option maxRecDepth 100000 in
set_option maxHeartbeats 0 in
theorem PySem.Challenge.cw_rowblade_k46_blades_side_by_side_holds : PySem.Challenge.rw_rowblade_k46_blades_side_by_side.Holds := by
 w_on
 refine holds_law (by
  unfold OpenLaw.wellSaid OpenRow.wellSaid OpenRow.partSaid looksOpen
  repeat' (with_reducible refine look_both ?_ ?_)
  all_goals decide +kernel) λaac=>?_
 refine holds_open (q:=KH.vw) (loose:=KH.lz) (Xt:=KH.Xt) (XP:=XL KH.vw []) (Yf:=Hook.obs (kHook KH.K KH.as KH.Pc)) (Ya:=Hook.val (kHook KH.K KH.as KH.Pc)) (YP:=Hook.says (kHook KH.K KH.as KH.Pc)) (N:=23608) KH.left (Hook.of (kHook KH.K KH.as KH.Pc)) (Hook.keeps (kHook KH.K KH.as KH.Pc)) (λs e=>xl_of s (Bool.and_eq_true_iff.mp e).1) XL.keeps (by rfl) (by rfl) (by rfl) (λs e=>recFacts_of (Bool.and_eq_true_iff.mp e).2) (by rfl) (by first|assumption|decide +kernel) (by decide +kernel) ⟨rfl,rfl,rfl,rfl,rfl,by decide +kernel⟩ ?hw ?hc
 (case hw=>w_witness2)
 k_fill
 refine _root_.D.Tu (l:=PySem.Challenge.rw_rowblade_k46_blades_side_by_side) (m:=63) (n:=16) (K:=KH.K) (M:=K46.M) (Ft:=K46.Ft) (It:=K46.It) (i:=53) rfl (by decide) rfl ⟨rfl,by decide,by decide⟩ (λw h Y=>PySem.W.kIn_of Y) rfl rfl rfl rfl rfl (λP=>⟨⟨K46.Jc P,K46.Je P,K46.bn⟩,K46.Jd P⟩) λns hn _=>⟨[],K46.O5 0 hn⟩
