import PyProof.Rows.All
import Wide.All
import OpenK.AllK
import Wide.FinOn
import Lean
import PyProof.EqAt
import PyProof.EqKinds
import PyProof.TupleCall
import PyProof.Rows.EnumRows
import PyProof.EnumMake
import KE.KIntText
import KE.KEqDict
import PySem.Challenge.RW_rowblade_k33_stretches_over_rows
set_option Elab.async false
set_option linter.all false
set_option maxRecDepth 100000
set_option compiler.extract_closed false
noncomputable section
abbrev Ap:=List (List Nat)
abbrev B1:=List Nat
abbrev B2:=List PySem.Value
abbrev Bi:=List PySem.Str
abbrev Bz:=List PySem.Expr
abbrev BM:=List PySem.Addr
abbrev D1:=Option PySem.Value
abbrev D2:=Option Int
abbrev Dx:=List Int
abbrev Ee:=List PySem.Stmt
abbrev Fh:=List Bool
namespace Z0
end Z0
open PySem.W renaming Frag→bu,findIn→gi,kia_one→mC,keepIn→oY,nsIn→oZ,emptyDict→qL,kitOne→qM,instObj→sV,fnOf→z7,plainGet→Bv,isFn→Bw,makesIn→Bx,lookIn→xS,hasDictIn→xT,specialIn→xU,takesIn→xV,mroIn→xW,methodObj→By,plainGet_of→BA,plainOver→BB,takerIn→BC,callWith_K→BD,callWith_K0→BE,codeIn→BG,kitAny→BH,handedIn→Ju,kitx_list→Jv,kitx_dict→Jw,kitx_own→Jx,methodCall_KW→Jy,cellsFrom_some→Jz,Dflts→JA
open List renaming length_map→bF,replicate→ck,length_append→cK,getElem?_eq_some_iff→dc,range→dZ,mem_cons_self→eg,mem_cons_of_mem→ez,length_cons→bz,size_toArray→bX,getElem?_eq_getElem→b8,mem_cons→cu,getElem?_set_ne→cy,map_cons→cU,append_assoc→c6,append_nil→dz,getElem?_map→dB,mem_singleton→dG,getElem?_set_self→dW,prefix_rfl→er,length_set→eA,getElem?_append_right→eS,mem_map→eU,all_cons→e9,getD_eq_getElem?_getD→fj,map_map→fQ,mem_range→gj,mem_append→gn,getElem?_append_left→gp,map_append→gy,all_eq_true→gz,length_replicate→iC,flatMap_append→iD,mem_of_getElem?→je,lookup_cons→jf,length_range→jg,zip_cons_cons→jh,replicate_succ→jF,nodup_cons→kq,range'→kr,lookup→lD,mem_append_right→mD,flatten→mG,drop_zero→mH,flatMap_cons→mJ,length_drop→o8,nil_append→o9,not_mem_nil→o_,drop_eq_getElem_cons→ph,any_cons→qN,length_nil→qO,length_zip→qP,getElem?_eq_none→qQ,getElem?_replicate→sW,flatten_cons→sX,ext_getElem?→sY,set→sZ,length_take→vU,getElem?_range→vV,length→z8,foldl_cons→z9,length_singleton→z_,map→Aa,find?_cons→Ab,map_congr_left→Ac,range'_succ→s_,getElem_mem→tm,of_mem_zip→xX,forIn_cons→xY,any_eq_true→xZ,take_of_length_le→x8,drop_length→x9,prefix_append→x_,drop_eq_nil_of_le→ya,length_range'→yb,filterMap_cons→BI,mem_filterMap→BJ,foldl→BK,map_nil→BL,range_succ_eq_map→BN,any_map→BO,map_drop→BP,getElem?_cons_succ→BQ,nodup_append→BR,cons_append→BS,reverse_cons→BU,length_reverse→BV,contains_iff_mem→BW,isEmpty_iff→BX,drop_left→BY,take_succ_cons→BZ,flatten_append→B0,set_append_right→B3,range_eq_range'→B4,length_zipIdx→B5,mem_filter→JB,mem_append_left→JC,all_map→JD,take_append_drop→JE,map_take→JF,idxOf?→JG,findIdx?_eq_some_iff_getElem→JH,zip_nil_right→JI,length_eq_zero_iff→JJ,all_nil→JK,Pairwise→JL,map_set→JM,map_replicate→JN,take_eq_take_iff→JO,getElem_map→JP,set_append_left→JQ,mem_flatMap→JR,mem_of_mem_take→JS,foldl_map→JT,take_length→JU,zipIdx_map_fst→JV,zipIdx_append→JW
open Nat renaming le_refl→cC,ne_of_lt→fk,le_trans→gA,lt_of_lt_of_le→iw,zero_le→i6,sub_self→i7,succ→lE,zero_add→pj,lt_irrefl→qR,lt_succ_self→vW,le_add_right→vX,min_eq_left→Ad,le_of_eq→tu,le_succ→tD,le_of_lt→yc,ne_of_gt→yd,lt_of_le_of_lt→ye,mul_le_mul→yf,min_self→B6,min_eq_right→B7,lt_of_succ_lt_succ→B8,succ_mul→JX,lt_succ_of_lt→JY,not_lt_zero→JZ
open Bool renaming and_eq_true→cO,false_ne_true→bZ,and_eq_true_iff→tF,true_and→Ae,and_true→tG,false_and→yh,beq_eq_decide_eq→B9,and_false→B_,eq_iff_iff→Cb,false_or→J0,eq_false_or_eq_true→J1,or_eq_true→J2,not_true→J3,false_eq_true→J4
open Option renaming bind_eq_some_iff→ba,map_eq_some_iff→cz,some→ku,isSome_iff_exists→Cc,isSome_map→Cd,getD_none→J5,none→J7
open Int renaming ofNat→lF,toNat_natCast→qS,emod_nonneg→Af,emod_lt_of_pos→Ag,zero_add→yi
open PyProof.Rows renaming callWith_type1→Ah,boot_list→tH,boot_isinstance→Ce,recsOf→J8,drecsOf→J9,boot_enumerate→J_,boot_str→Ka,boot_int→Kc,envOfC→Kd
namespace Z1
end Z1
abbrev c7:=List (PySem.Addr×PySem.Obj)
abbrev bW(x:PySem.Str):Prop:=(x == ("__debug__":PySem.Str))=false
abbrev iE(x:PySem.Str):Prop:=(x == ("__classdict__":PySem.Str))=false
namespace L2
open PySem PySem.Spec PyProof.Rows
abbrev Key:=Sum Int Str
def pX:Key->Value->Bool
 |.inl k,v=>Value.isInt k v
 |.inr x,v=>Value.isStrOf x v
def VW(w:World):Key->Int
 |.inl k=>hashInt k
 |.inr x=>hashStr w x
theorem bL:∀{k:Key}{v:Value},pX k v=true->(∃i t,k=Sum.inl i/\v=Value.int i t)\/(∃x t,k=Sum.inr x/\v=Value.str x t)
 |.inl i,v,h=>by
  obtain⟨t,e⟩:=Value.isInt_shape (k:=i) (v:=v) h;exact .inl ⟨i,t,rfl,e⟩
 |.inr x,v,h=>by
  obtain⟨t,e⟩:=Value.isStrOf_shape (x:=x) (v:=v) h;exact .inr ⟨x,t,rfl,e⟩
theorem Ai(i:Int)(t:Tok):pX (.inl i) (.int i t)=true:=by simp[pX,Value.isInt]
theorem Aj(x:Str)(t:Tok):pX (.inr x) (.str x t)=true:=by simp[pX,Value.isStrOf]
theorem LD(a b:Int):decide ((Sum.inl a:Key)=Sum.inl b)=(a == b):=by
 by_cases e:a=b
 ·subst e;simp
 ·have h:¬ (Sum.inl a:Key)=Sum.inl b:=λq=>e (Sum.inl.inj q)
  rw[decide_eq_false h];exact(beq_eq_false_iff_ne.mpr e).symm
theorem LG(a b:Str):decide ((Sum.inr a:Key)=Sum.inr b)=decide (a=b):=by
 by_cases e:a=b
 ·subst e;simp
 ·have h:¬ (Sum.inr a:Key)=Sum.inr b:=λq=>e (Sum.inr.inj q)
  rw[decide_eq_false h,decide_eq_false e]
theorem LH(a:Int)(b:Str):decide ((Sum.inl a:Key)=Sum.inr b)=false:=decide_eq_false (λq=>nomatch q)
theorem LI(a:Str)(b:Int):decide ((Sum.inr a:Key)=Sum.inl b)=false:=decide_eq_false (λq=>nomatch q)
def bw(prog:Program)(w:World):PySem.KeyKind prog w Key where
 is:=pX
 hash:=VW w
 inj:=λv a b ha hb=>by
  rcases bL ha with⟨i,t,rfl,rfl⟩|⟨x,t,rfl,rfl⟩
  ·rcases bL hb with⟨j,u,rfl,e⟩|⟨y,u,rfl,e⟩
   ·injection e with e1 _;rw[e1]
   ·exact nomatch e
  ·rcases bL hb with⟨j,u,rfl,e⟩|⟨y,u,rfl,e⟩
   ·exact nomatch e
   ·injection e with e1 _;rw[e1]
 byValue:=λk v h=>by
  rcases bL h with⟨i,t,rfl,rfl⟩|⟨x,t,rfl,rfl⟩<;>rfl
 pyHash:=λhv h=>by
  rcases bL hv with⟨i,t,rfl,rfl⟩|⟨x,t,rfl,rfl⟩
  ·exact wpAny_pyHash_int h
  ·exact wpAny_pyHash_str h
 eqBool:=λhu hv h=>by
  rcases bL hu with⟨i,t,rfl,rfl⟩|⟨x,t,rfl,rfl⟩
  ·rcases bL hv with⟨j,u,rfl,rfl⟩|⟨y,u,rfl,rfl⟩
   ·rw[LD]at h;exact wpAny_eqBool_int h
   ·rw[LH]at h;exact SeqAt.EqAt.int_str i t y u _ _ _ _ h
  ·rcases bL hv with⟨j,u,rfl,rfl⟩|⟨y,u,rfl,rfl⟩
   ·rw[LI]at h;exact SeqAt.EqAt.str_int x t j u _ _ _ _ h
   ·rw[LG]at h;exact wpAny_eqBool_str h
 «strs»:=λk x t v h=>by
  rcases bL h with⟨i,u,rfl,e⟩|⟨y,u,rfl,e⟩
  ·exact nomatch e
  ·injection e with e1 _
   subst e1;cases v<;>rfl
theorem tK(prog:Program)(w:World)(i:Int)(t:Tok):(bw prog w).is (.inl i) (.int i t)=true:=Ai i t
theorem tL(prog:Program)(w:World)(x:Str)(t:Tok):(bw prog w).is (.inr x) (.str x t)=true:=Aj x t
inductive V where
 |non|bl (b:Bool)|int (i:Int)|str (x:Str)|byt (b:Array UInt8)|flt (b:UInt64)|ref (a:Addr)|ty (n:String)
 deriving DecidableEq
def RelV:V->Value->Prop
 |.non,u=>u=Value.none
 |.bl b,u=>u=Value.bool b
 |.int i,u=>∃t,u=Value.int i t
 |.str x,u=>∃t,u=Value.str x t
 |.byt b,u=>∃t,u=Value.bytes b t
 |.flt b,u=>∃t,u=Value.float b t
 |.ref a,u=>u=Value.ref a
 |.ty n,u=>u=Value.type n
abbrev Vals:List V->B2->Prop:=Paired RelV
theorem Vals.length{xs:List V}{us:B2}(r:Vals xs us):xs.length=us.length:=Paired.length r
theorem Vals.get:∀{xs:List V}{us:B2}{i:Nat}{x:V},Vals xs us->xs[i]?=some x->∃u,us[i]?=some u/\RelV x u
 |_,_,_,_,.nil,e=>by simp at e
 |_,_,0,_,.cons r _,e=>by simp at e;subst e;exact⟨_,rfl,r⟩
 |_,_,i+1,x,.cons _ t,e=>by
  obtain⟨u,h1,h2⟩:=Vals.get (i:=i) (x:=x) t (by simpa using e)
  exact⟨u,by simpa using h1,h2⟩
theorem Vals.set{x:V}{u:Value}(r:RelV x u):∀{xs:List V}{us:B2}(i:Nat),Vals xs us->Vals (xs.set i x) (us.set i u)
 |_,_,_,.nil=>.nil
 |_,_,0,.cons _ t=>.cons r t
 |_,_,i+1,.cons q t=>.cons q (Vals.set r i t)
theorem Vals.append:∀{xs ys:List V}{us ws:B2},Vals xs us->Vals ys ws->Vals (xs++ys) (us++ws)
 |_,_,_,_,.nil,s=>s
 |_,_,_,_,.cons r t,s=>.cons r (Vals.append t s)
theorem Vals.take:∀{xs:List V}{us:B2}(n:Nat),Vals xs us->Vals (xs.take n) (us.take n)
 |_,_,0,_=>.nil
 |_,_,_+1,.nil=>.nil
 |_,_,n+1,.cons r t=>.cons r (Vals.take n t)
theorem Vals.drop:∀{xs:List V}{us:B2}(n:Nat),Vals xs us->Vals (xs.drop n) (us.drop n)
 |_,_,0,r=>r
 |_,_,_+1,.nil=>.nil
 |_,_,n+1,.cons _ t=>Vals.drop n t
def iy:Option V->D1->Prop
 |some v,some u=>RelV v u
 |none,none=>True
 |_,_=>False
def KV{κ:Type}:List (κ×V)->List (κ×Value)->Prop:=Paired λ(p:κ×V) (q:κ×Value)=>p.1=q.1/\RelV p.2 q.2
def kV:Key->V
 |.inl i=>.int i
 |.inr x=>.str x
inductive HO where
 |lst (xs:List V)
 |tup (xs:List V)
 |dK (aF:List (Key×V))|dT (aF:List (List Key×V))
 |set (S:Int->Bool) (n:Nat)
 |ins (C dx:Addr) (fs:List (Str×V))
 |own (x:Addr)
 |xd (fs:List (Str×V))
 |met (f x:Addr)
 |iT (lo hi:Int)
 |iU (o:Obj) (u:HO)
 |tbl (ps:Array Value)
 |ext (φ:Heap->Prop)
abbrev Hp:=Addr->Option HO
def upd(H:Hp)(a:Addr)(o:HO):Hp:=λb=>if b=a then some o else H b
theorem ah{H:Hp}{a:Addr}{o:HO}:upd H a o a=some o:=by unfold upd;rw[if_pos rfl]
theorem aq{H:Hp}{a b:Addr}{o:HO}(h:b≠a):upd H a o b=H b:=by unfold upd;rw[if_neg h]
theorem qT{H:Hp}{a:Addr}{o u:HO}:upd (upd H a o) a u=upd H a u:=by
 funext b;unfold upd;split<;>rfl
theorem P7{H:Hp}{a b:Addr}{o u:HO}(h:H a=some o)(h':H b=some u)(d:o≠u):a≠b:=by
 intro e;subst e;rw[h]at h';exact d (ku.inj h')
theorem aG{H:Hp}{a b:Addr}{o:HO}(h:H a=some o)(h':H b=none):a≠b:=by
 intro e;subst e;rw[h]at h';cases h'
section
variable(P:Program)(w:World)
def bQ(H:Hp)(h:Heap)(a:Addr):HO->Prop
 |.lst xs=>xs.length<=sizeLine/\∃(its:B2)(n:Nat),Vals xs its/\h.get? a=some {cls:=.type "list",data:=.seq its.toArray n}
 |.tup xs=>xs.length<=sizeLine/\∃its:B2,Vals xs its/\IsTup h a its.toArray
 |.dK aF=>aF.length<=sizeLine/\(a == sysModules)=false/\∃vs,KV aF vs/\h.DictOf (bw P w) a vs
 |.dT aF=>aF.length<=sizeLine/\(a == sysModules)=false/\∃xs:List (List Key×Addr×Value),
   Paired (λ(p:List Key×V) (q:List Key×Addr×Value)=>p.1=q.1/\H q.2.1=some (.tup (p.1.map kV))/\RelV p.2 q.2.2) aF xs /\
   ∃o es ep,h.get? a=some o/\o.ExactDict/\o.data=.dict es ep/\es.toList=xs.map (entryOfKey (tupleKind (bw P w)))/\(xs.map (·.1)).Nodup
 |.set S n=>h.SetOf (intKind P w) a S n
 |.ins C dx fs=>H dx=some (.own a)/\fs.length<=1000/\dx≠a/\h.get? a=some (sV C dx) /\
   ∃mA,h.Ns1 dx mA/\(∀f,iy (fs.lookup f) (mA f))/\PySem.Within mA (fs.map (·.1))
 |.own _=>∃o,h.get? a=some o
 |.xd fs=>∃mA,h.Ns1 a mA/\∀f,iy (fs.lookup f) (mA f)
 |.iT lo hi=>∃t u v,h.get? a=some {cls:=.type "range",data:=.fields #[.int lo t,.int hi u,.int 1 v]}
 |.iU o u=>h.get? a=some o/\bQ H h a u
 |.tbl ps=>h.get? a=some {cls:=.none,data:=.fields ps}
 |.met f x=>h.get? a=some (By (.ref f) (.ref x))
 |.ext φ=>φ h/\(∃o,h.get? a=some o)/\∀h1 h2:Heap,φ h1->(∀o,h1.get? a=some o->h2.get? a=some o)->φ h2
def jC(H:Hp)(h:Heap):Prop:=∀a o,H a=some o->bQ P w H h a o
end
variable{C a dx f x:Addr}{A:Around}{b e o:Expr}{h h':Heap}{H H':Hp}{aa:c7}{es:Bz}{p pos:Pos}{P:Program}{s:Shared}{E:Value->Shared->Prop}{w:World}
section
variable{o:HO}
theorem bQ.lt(x:bQ P w H h a o):a<h.objs.size:=by
 cases o with
 |lst xs=>obtain⟨_,_,_,_,e⟩:=x;exact Heap.lt_size e
 |tup xs=>obtain⟨_,_,_,p⟩:=x;exact p.lt
 |dK aF=>obtain⟨_,_,_,_,o,_,_,e,_⟩:=x;exact Heap.lt_size e
 |dT aF=>obtain⟨_,_,_,_,o,_,_,e,_⟩:=x;exact Heap.lt_size e
 |set S n=>obtain⟨o,_,_,_,e,_⟩:=x;exact Heap.lt_size e
 |ins C dx fs=>obtain⟨_,_,_,e,_⟩:=x;exact Heap.lt_size e
 |own y=>obtain⟨_,e⟩:=x;exact Heap.lt_size e
 |xd fs=>obtain⟨_,⟨_,_,_,e,_⟩,_⟩:=x;exact Heap.lt_size e
 |iT lo hi=>obtain⟨_,_,_,e⟩:=x;exact Heap.lt_size e
 |iU ob u=>obtain⟨e,_⟩:=x;exact Heap.lt_size e
 |tbl ps=>exact Heap.lt_size (show h.get? a=some _ from x)
 |met f y=>exact Heap.lt_size (show h.get? a=some _ from x)
 |ext φ=>obtain⟨_,⟨_,e⟩,_⟩:=x;exact Heap.lt_size e
theorem Paired.LJ{α β:Type}{F G:α->β->Prop}:∀{l₁:List α}{l₂:List β},Paired F l₁ l₂->(∀a b,F a b->G a b)->Paired G l₁ l₂
 |_,_,.nil,_=>.nil
 |_,_,.cons r t,f=>.cons (f _ _ r) (Paired.LJ t f)
theorem bQ.vY(x:bQ P w H h a o)(k:∀b u,(b=a\/H b=some (.own a))->h.get? b=some u->h'.get? b=some u)
  (ho:∀b,H b=some (.own a)->H' b=some (.own a)) (ht:∀b xs,H b=some (.tup xs)->H' b=some (.tup xs)):bQ P w H' h' a o:=by
 induction o with
 |lst xs=>obtain⟨z,its,n,r,e⟩:=x;exact⟨z,its,n,r,k _ _ (.inl rfl) e⟩
 |tup xs=>obtain⟨z,its,r,ob,e,c⟩:=x;exact⟨z,its,r,ob,k _ _ (.inl rfl) e,c⟩
 |dK aF=>obtain⟨z,y,vs,r,ob,es,ep,e,c⟩:=x;exact⟨z,y,vs,r,ob,es,ep,k _ _ (.inl rfl) e,c⟩
 |dT aF=>
  obtain⟨z,y,xs,r,ob,es,ep,e,c⟩:=x;exact⟨z,y,xs,Paired.LJ r λp q z=>⟨z.1,ht _ _ z.2.1,z.2.2⟩,ob,es,ep,k _ _ (.inl rfl) e,c⟩
 |set S n=>obtain⟨ob,es,ep,t,e,c⟩:=x;exact⟨ob,es,ep,t,k _ _ (.inl rfl) e,c⟩
 |ins C dx fs=>
  obtain⟨d,z,ne,e,mA,⟨od,es,ep,e2,c⟩,r⟩:=x;exact⟨ho _ d,z,ne,k _ _ (.inl rfl) e,mA,⟨od,es,ep,k _ _ (.inr d) e2,c⟩,r⟩
 |own y=>obtain⟨ob,e⟩:=x;exact⟨ob,k _ _ (.inl rfl) e⟩
 |xd fs=>obtain⟨mA,⟨od,es,ep,e,c⟩,r⟩:=x;exact⟨mA,⟨od,es,ep,k _ _ (.inl rfl) e,c⟩,r⟩
 |iT lo hi=>obtain⟨t,u,v,e⟩:=x;exact⟨t,u,v,k _ _ (.inl rfl) e⟩
 |iU ob u ih=>obtain⟨e,q⟩:=x;exact⟨k _ _ (.inl rfl) e,ih q⟩
 |tbl ps=>
  have e:h.get? a=some {cls:=.none,data:=.fields ps}:=x;show h'.get? a=some {cls:=.none,data:=.fields ps};exact k a _ (.inl rfl) e
 |met f y=>
  have e:h.get? a=some (By (.ref f) (.ref y)):=x;show h'.get? a=some (By (.ref f) (.ref y));exact k a _ (.inl rfl) e
 |ext φ=>obtain⟨p,⟨o,e⟩,st⟩:=x;exact⟨st _ _ p λo q=>k _ _ (.inl rfl) q,⟨o,k _ _ (.inl rfl) e⟩,st⟩
theorem jC.lt(x:jC P w H h)(e:H a=some o):a<h.objs.size:=(x a o e).lt
theorem jC.fresh(x:jC P w H h)(e:h.objs.size<=a):H a=none:=by
 cases q:H a with
 |none=>rfl
 |some u=>exact absurd (iw (x.lt q) e) (qR _)
theorem jC.kept(x:jC P w H h)(k:∀b u,h.get? b=some u->h'.get? b=some u):jC P w H h':=λa o e=>
 (x a o e).vY (λb u _ q=>k b u q) (λ_ q=>q) λ_ _ q=>q
theorem jC.laid(x:jC P w H h)(k:∀b u,h.get? b=some u->h'.get? b=some u)(hp:h.objs.size<=a)(new:bQ P w (upd H a o) h' a o):jC P w (upd H a o) h':=λb u e=>by
 have hn:=x.fresh hp;by_cases hb:b=a
 ·subst hb;rw[ah]at e;cases e;exact new
 ·rw[aq hb]at e
  exact(x b u e).vY (λc v _ q=>k c v q) (λc q=>by rw[aq (aG q hn)];exact q) λc xs q=>by rw[aq (aG q hn)];exact q
end
def Rd(H:Hp)(a:Addr)(u:HO):Prop:=H a=some u\/∃o,H a=some (.iU o u)
theorem Rd.ok{P:Program}{w:World}{H:Hp}{h:Heap}{a:Addr}{u:HO}(r:Rd H a u)(x:jC P w H h):bQ P w H h a u:=by
 rcases r with r|⟨o,r⟩
 ·exact x a u r
 ·obtain⟨_,q⟩:=x a _ r
  exact q
def P8:Option HO->Prop
 |some (.lst _)=>True
 |some (.dK _)=>True
 |some (.dT _)=>True
 |some (.set _ _)=>True
 |some (.ins _ _ _)=>True
 |some (.ext _)=>True
 |_=>False
section
variable{e:Addr}{o':HO}
theorem jC.write(ok:jC P w H h)(mu:P8 (H x))(he:e=x\/H e=some (.own x))(k:∀b u,b≠e->h.get? b=some u->h'.get? b=some u)(PK:∃u,h'.get? e=some u)
  (new:bQ P w (upd H x o') h' x o'):jC P w (upd H x o') h':=λb u q=>by
 have P9:∀c y,H c=some (.own y)->c≠x:=λc y r z=>by subst z;rw[r]at mu;exact mu
 have VX:∀c xs,H c=some (.tup xs)->c≠x:=λc xs r z=>by subst z;rw[r]at mu;exact mu
 by_cases hb:b=x
 ·subst hb;rw[ah]at q;cases q;exact new
 ·rw[aq hb]at q
  by_cases hbe:b=e
  ·have q':H b=some (.own x):=by
    rcases he with z|z
    ·exact absurd (hbe.trans z) hb
    ·rw[hbe];exact z
   rw[q]at q';cases q';obtain⟨v,hv⟩:=PK;exact⟨v,by rw[hbe];exact hv⟩
  ·refine(ok b u q).vY (λc v hc r=>k c v ?_ r) (λc r=>by rw[aq (P9 c b r)];exact r) λc xs r=>by rw[aq (VX c xs r)];exact r
   rcases hc with rfl|hc
   ·exact hbe
   ·rintro rfl
    rcases he with z|z
    ·exact P9 c b hc z
    ·rw[hc]at z;cases z;exact hb rfl
end
structure Un(fs ex:BM)(H H':Hp)(h h':Heap):Prop where
 keep:∀b o,h.get? b=some o->H b=none->b∉fs->b∉ex->h'.get? b=some o
 slot:∀b o,h.get? b=some o->H b=none->b∈fs->b∉ex->∃sl,h'.get? b=some {o with slots:=sl}
 free:∀b o,h.get? b=some o->H b=none->b∉ex->H' b=none
 there:∀b o,h.get? b=some o->b∉ex->∃o',h'.get? b=some o'
 tM:∀b xs,H b=some (.tup xs)->H' b=some (.tup xs)
 qU:∀b o u,H b=some (.iU o u)->H' b=some (.iU o u)
 tN:∀b ps,H b=some (.tbl ps)->∃more,H' b=some (.tbl (ps++more))
section
variable{fs pY ex ex':BM}{H1 H2:Hp}{h1 h2:Heap}{e:Addr}{o:HO}
theorem Un.any(u:Un fs ex H H1 h h1){b:Addr}{ob:Obj}(q:h.get? b=some ob)(n:H b=none)(hx:b∉ex):∃sl,h1.get? b=some {ob with slots:=sl}:=by
 by_cases hb:b∈fs
 ·exact u.slot b ob q n hb hx
 ·exact⟨ob.slots,u.keep b ob q n hb hx⟩
theorem Un.kept(k:∀b u,h.get? b=some u->h'.get? b=some u):Un fs ex H H h h':=
 ⟨λb ob q _ _ _=>k b ob q,λb ob q _ _ _=>⟨ob.slots,k b ob q⟩,λ_ _ _ n _=>n,λb ob q _=>⟨ob,k b ob q⟩,λ_ _ q=>q,λ_ _ _ q=>q,λ_ ps q=>⟨#[],by rw[q];simp⟩⟩
theorem Un.refl:Un fs ex H H h h:=Un.kept λ_ _ q=>q
theorem Un.laid(k:∀b u,h.get? b=some u->h'.get? b=some u)(hp:h.objs.size<=a)(hn:H a=none):Un fs ex H (upd H a o) h h' where
 keep:=λb u q _ _ _=>k b u q
 slot:=λb u q _ _ _=>⟨u.slots,k b u q⟩
 free:=λb u q n _=>by rw[aq (fk (iw (Heap.lt_size q) hp))];exact n
 there:=λb u q _=>⟨u,k b u q⟩
 tM:=λb xs q=>by rw[aq (aG q hn)];exact q
 qU:=λb u xs q=>by rw[aq (aG q hn)];exact q
 tN:=λb ps q=>⟨#[],by rw[aq (aG q hn),q];simp⟩
theorem Un.write(mu:P8 (H x))(he:e=x\/H e=some (.own x))(k:∀b u,b≠e->h.get? b=some u->h'.get? b=some u)(PK:∃u,h'.get? e=some u):Un fs ex H (upd H x o) h h':=by
 have hx:∀b,H b=none->b≠x:=λb n z=>by subst z;rw[n]at mu;exact mu
 have hb:∀b,H b=none->b≠e:=λb n z=>by
  subst z;rcases he with r|r
  ·exact hx b n r
  ·rw[n]at r;cases r
 have hm:∀b u,H b=some u->¬ P8 (some u)->b≠x:=λb u q nm z=>by subst z;rw[q]at mu;exact nm mu
 refine⟨λb u q n _ _=>k b u (hb b n) q,λb u q n _ _=>⟨u.slots,k b u (hb b n) q⟩,λb u q n _=>by rw[aq (hx b n)];exact n,λb u q _=>?_,
  λb xs q=>by rw[aq (hm b _ q λz=>z)];exact q,λb u xs q=>by rw[aq (hm b _ q λz=>z)];exact q,λb ps q=>⟨#[],by rw[aq (hm b _ q λz=>z),q];simp⟩⟩
 by_cases hbe:b=e
 ·subst hbe;exact PK
 ·exact⟨u,k b u hbe q⟩
end
def U_(h:Heap)(H:Hp):BM:=(dZ h.objs.size).filter λa=>(H a).isSome
def qV(h:Heap)(H:Hp):Heap:=PySem.W.hideAll h (U_ h H)
theorem Ak(h:Heap)(H:Hp):(qV h H).objs.size=h.objs.size:=PySem.W.hideAll_size _ _
theorem Cf{h:Heap}{H:Hp}{b:Addr}{o:Obj}(e:h.get? b=some o)(n:H b=none):(qV h H).get? b=some o:=
 PySem.W.hideAll_get _ e λhm=>by
  have q:(H b).isSome=true:=(JB.mp hm).2;rw[n]at q;simp at q
theorem Gn{h:Heap}{H:Hp}{b:Addr}{o:Obj}(e:(qV h H).get? b=some o):h.get? b=some o/\H b=none:=by
 have e':h.get? b=some o:=PySem.W.of_hideAll (U_ h H) e;refine⟨e',?_⟩;cases q:H b with
 |none=>rfl
 |some x=>
  have hm:b∈U_ h H:=JB.mpr ⟨gj.mpr (Heap.lt_size e'),by simp[q]⟩
  have z:(qV h H).get? b=none:=PySem.W.hideAll_none (U_ h H) hm;rw[z]at e;cases e
def Gp(g h:Heap)(L:Addr):c7:=(dZ h.objs.size).filterMap λa=>if a=L\/(g.get? a).isSome=true then none else(h.get? a).map λo=>(a,o)
def rest(g h:Heap)(L d:Addr):c7:=(Gp g h L).filter λp=>decide (p.1≠d)
structure Mod(K:bu)(mg:Str->D1)(base:Heap):Prop where
 kin:K.In base
 glob:base.Ns mainGlobals mg
 blt:∃mb,base.Ns builtinsNs mb/\∀x:Str,x ≠ "__name__" -> mb x=bootBuiltins x
 nolimit:base.NoLimit
structure Cx where
 prog:Program
 w:World
 K:bu
 mg:Str->D1
 base:Heap
 A:Around
 N:Bi
 s₀:Shared
 H₀:Hp
 env:Env
 outer:List Env
 stack:List Env
 ex:BM
 fn:Str->Bool
 calm:Bool
 pn:c7
 xe:Value->Shared->Prop
def Cg(l:List Env):BM:=l.filterMap (·.frame)
abbrev Cx.fs(X:Cx):BM:=Cg X.outer
def sN(sc:Scope)(x:Str):Prop:=sc.names.lookup x=some .local\/sc.names.lookup x=some .cell\/sc.names.lookup x=some .free
def Loc(sc:Scope)(x:Str):Prop:=sc.names.lookup x=some .local\/sc.names.lookup x=some .cell
def Look(env:Env)(h:Heap)(m:Str->D1)(x:Str)(u:Value):Prop:=
 (env.kindOf x=some .local/\m x=some u)\/((env.kindOf x=some .cell\/env.kindOf x=some .free)/\∃c,env.cells.lookup x=some c/\h.IsCell c (some u))
structure Cx.Ok(X:Cx):Prop where
 mod:Mod X.K X.mg X.base
 kind:X.env.scope.kind=.function
 glob:X.env.globals=mainGlobals
 blt:X.env.builtins=builtinsNs
 above:X.s₀.heap.objs.size<=X.env.locals
 inj:∀x y c,X.env.cells.lookup x=some c->X.env.cells.lookup y=some c->x=y
 has:∀x,(X.env.kindOf x=some .cell\/X.env.kindOf x=some .free)->∃c,X.env.cells.lookup x=some c
 cab:∀x c,X.fn x=true->X.env.cells.lookup x=some c->X.s₀.heap.objs.size<=c
 hd:X.calm=true->X.A.handled=none
 frames:X.A.frames=some X.stack
 stk:X.stack=X.outer\/(X.stack=X.env::X.outer/\X.env.frame=some X.env.locals)
 exf:∀b∈X.ex,b≠X.env.locals/\∀x c,X.env.cells.lookup x=some c->c≠b
 bs:∀b o,X.base.get? b=some o->X.s₀.heap.get? b=some o/\X.H₀ b=none
 bsz:X.base.objs.size<=X.s₀.heap.objs.size
 noex:∀b o,X.base.get? b=some o->b∉X.ex
 exfs:∀b∈X.ex,b∉X.fs
 lG:X.s₀.heap.FunFrames X.base X.outer
 frf:∀b∈X.fs,X.H₀ b=none
structure Inv(X:Cx)(aa:c7)(σ:List (Option V))(H:Hp)(s:Shared):Prop where
 ok:X.Ok
 os:s.os=X.s₀.os
 bare:AllBare s.gens
 base:Un X.fs X.ex X.H₀ H X.s₀.heap s.heap
 loc:∃m,s.heap.Ns X.env.locals m/\∀(i:Nat)(x:Str)(v:V),X.N[i]?=some x->σ[i]?=some (some v)->sN X.env.scope x->∃u,RelV v u/\Look X.env s.heap m x u
 cell:∀x c,X.env.cells.lookup x=some c->∃v,s.heap.IsCell c v
 free:H X.env.locals=none
 freeC:∀x c,X.env.cells.lookup x=some c->H c=none
 pin:∀p∈X.pn++aa,s.heap.get? p.1=some p.2/\H p.1=none/\p.1≠X.env.locals/\p.1∉X.fs/\∀v,p.2.data≠.cell v
 bx:jC X.prog X.w H s.heap
 len:σ.length=X.N.length
section
variable{X:Cx}{σ:List (Option V)}
theorem Cx.Ok.VY(ok:X.Ok){b:Addr}{o:Obj}(e:X.base.get? b=some o):b∉X.fs:=λhb=>by
 have:=(ok.lG.mem hb).1
 rw[e]at this;cases this
theorem Inv.bs(I:Inv X aa σ H s):∀b o,X.base.get? b=some o->s.heap.get? b=some o/\H b=none:=λb o e=>
 ⟨I.base.keep b o (I.ok.bs b o e).1 (I.ok.bs b o e).2 (I.ok.VY e) (I.ok.noex b o e),I.base.free b o (I.ok.bs b o e).1 (I.ok.bs b o e).2 (I.ok.noex b o e)⟩
theorem Inv.bk(I:Inv X aa σ H s):∀b o,X.base.get? b=some o->s.heap.get? b=some o:=λb o e=>(I.bs b o e).1
theorem Inv.mod(I:Inv X aa σ H s):Mod X.K X.mg X.base:=I.ok.mod
theorem Inv.jG(I:Inv X aa σ H s):X.K.In s.heap:=I.ok.mod.kin.keeps I.bk
theorem Inv.lt(I:Inv X aa σ H s):X.env.locals<s.heap.objs.size:=let⟨_,hn,_⟩:=I.loc;hn.lt
theorem Inv.sz(I:Inv X aa σ H s):X.s₀.heap.objs.size<=s.heap.objs.size:=gA I.ok.above (yc I.lt)
theorem Inv.VZ(I:Inv X aa σ H s){a:Addr}(h:s.heap.objs.size<=a):a∉X.fs:=λhb=>by
 obtain⟨_,o,ho,_⟩:=I.ok.lG.mem hb;exact absurd (iw (Heap.lt_size ho) (gA I.sz h)) (qR _)
theorem Inv.LK(I:Inv X aa σ H s):∀x c,X.env.cells.lookup x=some c->c≠X.env.locals:=λx c e z=>by
 obtain⟨v,o,ho,hd⟩:=I.cell x c e;obtain⟨m,⟨o',es,ep,LL,PL,_⟩,_⟩:=I.loc;rw[z,LL]at ho;cases ho;rw[PL]at hd;cases hd
theorem Inv.lG(I:Inv X aa σ H s):s.heap.FunFrames X.base X.outer:=by
 have all:∀(l:List Env),(∀b∈Cg l,b∈X.fs)->X.s₀.heap.FunFrames X.base l->s.heap.FunFrames X.base l:=by
  intro l
  induction l with
  |nil=>intro _ _;trivial
  |cons env r ih=>
   intro hs hl;obtain⟨hk,⟨L,o,hf,hn,ho,hd⟩,hr⟩:=hl;have hL:L∈X.fs:=hs L (by unfold Cg;rw[BI,hf];exact eg)
   obtain⟨sl,e⟩:=I.base.slot L o ho (I.ok.frf L hL) hL λz=>I.ok.exfs L z hL;exact⟨hk,⟨L,_,hf,hn,e,hd⟩,ih (λb hb=>hs b (by unfold Cg;rw[BI,hf];exact ez _ hb)) hr⟩
 exact all X.outer (λ_ hb=>hb) I.ok.lG
theorem Inv.stack(I:Inv X aa σ H s):s.heap.FunFrames X.base X.stack:=by
 rcases I.ok.stk with e|⟨e,hf⟩
 ·rw[e];exact I.lG
 ·rw[e]
  obtain⟨m,hn,_⟩:=I.loc;refine .cons (by rw[I.ok.kind];decide) hf hn ?_ I.lG
  exact Heap.get?_none_of_le (gA I.ok.bsz I.ok.above)
theorem Inv.qW(I:Inv X aa σ H s):∀b∈Cg X.stack,b∈X.env.locals::X.fs:=λb hb=>by
 rcases I.ok.stk with e|⟨e,hf⟩
 ·rw[e]at hb;exact ez _ hb
 ·rw[e]at hb
  unfold Cg at hb;rw[BI,hf]at hb;exact hb
theorem Inv.yj(I:Inv X aa σ H s):∀b∈Cg X.stack,H b=none:=λb hb=>by
 rcases cu.mp (I.qW b hb)with e|hb
 ·rw[e];exact I.free
 ·obtain⟨_,o,ho,_⟩:=I.ok.lG.mem hb
  exact I.base.free b o ho (I.ok.frf b hb) λz=>I.ok.exfs b z hb
theorem Inv.step{g':Array GenState}{t':Nat}{d':Drawn}{ch:BM}(I:Inv X aa σ H s)
  (Bo:∀b∈ch,(b∈X.ex\/X.s₀.heap.objs.size<=b)/\b≠X.env.locals/\(∀x c,X.env.cells.lookup x=some c->c≠b)/\∀p∈X.pn++aa,p.1≠b)
  (keep:∀b o,b≠X.env.locals->b∉X.fs->b∉ch->s.heap.get? b=some o->H b=none->h'.get? b=some o)
  (slot:∀b o,b≠X.env.locals->b∈X.fs->b∉ch->s.heap.get? b=some o->H b=none->∃sl,h'.get? b=some {o with slots:=sl}) (free:∀b o,b∉ch->s.heap.get? b=some o->H b=none->H' b=none)
  (there:∀b o,b∉ch->s.heap.get? b=some o->∃o',h'.get? b=some o')
  (tM:∀b xs,H b=some (.tup xs)->H' b=some (.tup xs)) (qU:∀b o u,H b=some (.iU o u)->H' b=some (.iU o u)) (tN:∀b ps,H b=some (.tbl ps)->∃more,H' b=some (.tbl (ps++more)))
  (ns:∀m,s.heap.Ns X.env.locals m->h'.Ns X.env.locals m) (bx:jC X.prog X.w H' h') (hg:AllBare g') :
  Inv X aa σ H' {s with heap:=h',gens:=g',drawn:=d',toks:=t'}:=by
 have Za:∀b o,X.s₀.heap.get? b=some o->b≠X.env.locals:=λb o e=>fk (iw (Heap.lt_size e) I.ok.above);have Va:∀b o,X.s₀.heap.get? b=some o->b∉X.ex->b∉ch:=λb o e hx hb=>by
  rcases(Bo b hb).1 with z|z
  ·exact hx z
  ·exact absurd (iw (Heap.lt_size e) z) (qR _)
 have cellK:∀x c,X.env.cells.lookup x=some c->∀v,s.heap.IsCell c v->h'.IsCell c v:=λx c e v zz=>by
  obtain⟨o,ho,hd⟩:=zz;have P_:c∉ch:=λz=>(Bo c z).2.2.1 x c e rfl;by_cases hc:c∈X.fs
  ·obtain⟨sl,q⟩:=slot c o (I.LK x c e) hc P_ ho (I.freeC x c e)
   exact⟨_,q,hd⟩
  ·exact⟨o,keep c o (I.LK x c e) hc P_ ho (I.freeC x c e),hd⟩
 refine⟨I.ok,I.os,hg,⟨λb o e n hb hx=>?_,λb o e n hb hx=>?_,λb o e n hx=>?_,λb o e hx=>?_,λb xs e=>tM b xs (I.base.tM b xs e),λb o xs e=>qU b o xs (I.base.qU b o xs e),λb ps e=>?_⟩,?_,λx c e=>?_,?_,λx c e=>?_,λp hp=>?_,bx,I.len⟩
 ·exact keep b o (Za b o e) hb (Va b o e hx) (I.base.keep b o e n hb hx) (I.base.free b o e n hx)
 ·obtain⟨sl,e1⟩:=I.base.slot b o e n hb hx
  obtain⟨Vb,e2⟩:=slot b _ (Za b o e) hb (Va b o e hx) e1 (I.base.free b o e n hx);exact⟨Vb,e2⟩
 ·obtain⟨o',e1⟩:=I.base.there b o e hx
  exact free b o' (Va b o e hx) e1 (I.base.free b o e n hx)
 ·obtain⟨o',e1⟩:=I.base.there b o e hx
  exact there b o' (Va b o e hx) e1
 ·obtain⟨m1,e1⟩:=I.base.tN b ps e
  obtain⟨m2,e2⟩:=tN b _ e1;exact⟨m1++m2,by rw[e2,Array.append_assoc]⟩
 ·obtain⟨m,hn,hl⟩:=I.loc
  refine⟨m,ns m hn,λi x v e1 e2 e3=>?_⟩;obtain⟨u,r,l⟩:=hl i x v e1 e2 e3;refine⟨u,r,?_⟩;rcases l with l|⟨k,c,e,z⟩
  ·exact .inl l
  ·exact .inr ⟨k,c,e,cellK x c e _ z⟩
 ·obtain⟨v,z⟩:=I.cell x c e
  exact⟨v,cellK x c e v z⟩
 ·obtain⟨m,⟨o,_,_,ho,_⟩,_⟩:=I.loc
  exact free _ o (λz=>(Bo _ z).2.1 rfl) ho I.free
 ·obtain⟨v,o,ho,hd⟩:=I.cell x c e
  exact free c o (λz=>(Bo c z).2.2.1 x c e rfl) ho (I.freeC x c e)
 ·obtain⟨e,n,ne,nf,d⟩:=I.pin p hp
  have P_:p.1∉ch:=λz=>(Bo p.1 z).2.2.2 p hp rfl;exact⟨keep p.1 p.2 ne nf P_ e n,free p.1 p.2 P_ e n,ne,nf,d⟩
theorem Inv.un{t':Nat}(I:Inv X aa σ H s)(u:Un X.fs [] H H' s.heap h')(bx:jC X.prog X.w H' h'):Inv X aa σ H' {s with heap:=h',toks:=t'}:=by
 obtain⟨m,⟨o,es,ep,ho,r⟩,_⟩:=id I.loc;obtain⟨sl,hL⟩:=u.any ho I.free (by simp)
 exact I.step (g':=s.gens) (d':=s.drawn) (ch:=[]) (λ_ z=>nomatch z) (λb o _ hb _ e n=>u.keep b o e n hb (by simp)) (λb o _ hb _ e n=>u.slot b o e n hb (by simp)) (λb o _ e n=>u.free b o e n (by simp)) (λb o _ e=>u.there b o e (by simp)) u.tM u.qU u.tN (λm' hm=>by
  obtain⟨o',V0,V1,LL,r'⟩:=hm;rw[ho]at LL;cases LL;exact⟨_,V0,V1,hL,r'⟩) bx I.bare
theorem Inv.call{g':Array GenState}{t':Nat}{d':Drawn}{ch:BM}(I:Inv X aa σ H s)(u:Un (Cg X.stack) ch H H' s.heap h')(bx:jC X.prog X.w H' h')(hg:AllBare g')
  (Bo:∀b∈ch,(b∈X.ex\/X.s₀.heap.objs.size<=b)/\b≠X.env.locals/\(∀x c,X.env.cells.lookup x=some c->c≠b)/\∀p∈X.pn++aa,p.1≠b) :
  Inv X aa σ H' {s with heap:=h',gens:=g',drawn:=d',toks:=t'}:=by
 obtain⟨m,⟨o,es,ep,ho,r⟩,_⟩:=id I.loc;obtain⟨sl,hL⟩:=u.any ho I.free λz=>(Bo _ z).2.1 rfl;exact I.step (ch:=ch) Bo (λb o hL hb hc e n=>u.keep b o e n (λz=>(cu.mp (I.qW b z)).elim hL hb) hc) (λb o _ _ hc e n=>u.any e n hc) (λb o hc e n=>u.free b o e n hc) (λb o hc e=>u.there b o e hc) u.tM u.qU u.tN (λm' hm=>by
  obtain⟨o',V0,V1,LL,r'⟩:=hm;rw[ho]at LL;cases LL;exact⟨_,V0,V1,hL,r'⟩) bx hg
theorem Inv.turned{t':Nat}{it:Addr}(I:Inv X aa σ H s)(k:∀b o,b≠it->s.heap.get? b=some o->h'.get? b=some o)(hn:H it=none)(hL:it≠X.env.locals)
  (h1:it∈X.ex\/X.s₀.heap.objs.size<=it) (h2:∀x c,X.env.cells.lookup x=some c->c≠it) (h3:∀p∈X.pn++aa,p.1≠it):Inv X aa σ H {s with heap:=h',toks:=t'}:=by
 have Zb:∀b u,H b=some u->b≠it:=λb u e z=>by rw[z,hn]at e;cases e
 refine I.step (g':=s.gens) (d':=s.drawn) (ch:=[it]) (λb hb=>?_) (λb o _ _ hc e _=>k b o (λz=>hc (by simp[z])) e) (λb o _ _ hc e _=>⟨o.slots,k b o (λz=>hc (by simp[z])) e⟩) (λ_ _ _ _ n=>n)
  (λb o hc e=>⟨o,k b o (λz=>hc (by simp[z])) e⟩) (λ_ _ e=>e) (λ_ _ _ e=>e) (λb ps e=>⟨#[],by rw[e];simp⟩) (λm hm=>?_) (λb u e=>?_) I.bare
 ·have e:b=it:=by simpa using hb
  subst e;exact⟨h1,hL,h2,h3⟩
 ·obtain⟨o,es,ep,ho,r⟩:=hm
  exact⟨o,es,ep,k _ o (Ne.symm hL) ho,r⟩
 ·refine(I.bx b u e).vY (λc v hc q=>k c v ?_ q) (λ_ q=>q) λ_ _ q=>q
  rcases hc with z|z
  ·rw[z];exact Zb b u e
  ·exact Zb c _ z
theorem Inv.tok(I:Inv X aa σ H s)(t:Nat):Inv X aa σ H {s with toks:=t}:=I.un (h':=s.heap) (t':=t) Un.refl I.bx
theorem Inv.kept{t':Nat}(I:Inv X aa σ H s)(k:∀b u,s.heap.get? b=some u->h'.get? b=some u):Inv X aa σ H {s with heap:=h',toks:=t'}:=I.un (Un.kept k) (I.bx.kept k)
theorem Inv.laid{a:Addr}{o:HO}{t':Nat}(I:Inv X aa σ H s)(k:∀b u,s.heap.get? b=some u->h'.get? b=some u)(hp:s.heap.objs.size<=a)(new:bQ X.prog X.w (upd H a o) h' a o) :
  Inv X aa σ (upd H a o) {s with heap:=h',toks:=t'}:=I.un (Un.laid k hp (I.bx.fresh hp)) (I.bx.laid k hp new)
theorem Inv.write{x e:Addr}{o:HO}{t':Nat}(I:Inv X aa σ H s)(mu:P8 (H x))(he:e=x\/H e=some (.own x))(k:∀b u,b≠e->s.heap.get? b=some u->h'.get? b=some u)(PK:∃u,h'.get? e=some u)
  (new:bQ X.prog X.w (upd H x o) h' x o):Inv X aa σ (upd H x o) {s with heap:=h',toks:=t'}:=I.un (Un.write mu he k PK) (I.bx.write mu he k PK new)
theorem Inv.weak{σ':List (Option V)}(I:Inv X aa σ H s)(hl:σ'.length=σ.length)(w:∀(i:Nat)v,σ'[i]?=some (some v)->σ[i]?=some (some v)):Inv X aa σ' H s:=
 ⟨I.ok,I.os,I.bare,I.base,let⟨m,hn,qX⟩:=I.loc;⟨m,hn,λi x v e1 e2 e3=>qX i x v e1 (w i v e2) e3⟩,I.cell,I.free,I.freeC,I.pin,I.bx,hl.trans I.len⟩
theorem Inv.yk{Ke:c7}(I:Inv X aa σ H s)(h:∀p∈Ke,s.heap.get? p.1=some p.2/\H p.1=none/\p.1≠X.env.locals/\p.1∉X.fs/\∀v,p.2.data≠.cell v):Inv X Ke σ H s:=
 ⟨I.ok,I.os,I.bare,I.base,I.loc,I.cell,I.free,I.freeC,λp hp=>(gn.mp hp).elim (λz=>I.pin p (JC _ z)) (h p),I.bx,I.len⟩
theorem tQ{N:Bi}(hN:N.Nodup){i j:Nat}{x:Str}(a:N[i]?=some x)(b:N[j]?=some x):i=j:=by
 obtain⟨h1,e1⟩:=dc.mp a;obtain⟨h2,e2⟩:=dc.mp b;exact(List.getElem_inj hN).mp (e1.trans e2.symm)
theorem pZ{M:Model}{A:Around}{E:Value->Shared->Prop}{i:Nat}{x:Str}{v:V}{u:Value}{Q:Unit->Shared->Prop}(I:Inv X aa σ H s)(hN:X.N.Nodup)(hi:X.N[i]?=some x)(hx:Loc X.env.scope x)(r:RelV v u)
  (h:∀s',Inv X aa (σ.set i (some v)) H s'->(∃a,Heap.SameBut a s.heap s'.heap/\(a=X.env.locals\/X.env.cells.lookup x=some a))->Q () s') (hf:X.fn x=true\/X.env.scope.names.lookup x=some .local:=by first|exact .inl rfl|exact .inr rfl|assumption):wpAny M A (storeName X.env x u) Q E s:=by
 obtain⟨m,hn,hl⟩:=id I.loc;have V2:(X.env.scope.kind == .class ||(X.env.scope.kind == .module&&X.env.locals != X.env.globals))=false:=by rw[I.ok.kind];rfl
 have hiσ:i<σ.length:=by rw[I.len];exact(dc.mp hi).1
 have LK:=I.LK;have tracked:∀{a:Addr}{h':Heap},(∃o,s.heap.get? a=some o/\H a=none)->Heap.SameBut a s.heap h'->jC X.prog X.w H h':=λ{a h'} ha hs b ob e=>by
  obtain⟨_,_,p9⟩:=ha;refine(I.bx b ob e).vY (λc w' hc q=>(hs.2 c ?_).trans q) (λ_ q=>q) λ_ _ q=>q
  rintro rfl
  rcases hc with rfl|hc
  ·rw[p9]at e;cases e
  ·rw[p9]at hc;cases hc
 rcases hx with hk|hk
 ·refine wpAny_storeName_local hk hn (λh' hn' hs=>?_) V2
  obtain⟨oL,_,_,hoL,_⟩:=id hn;refine h _ ⟨I.ok,I.os,I.bare,⟨λb o e n hb hx=>?_,λb o e n hb hx=>?_,I.base.free,λb o e hx=>?_,I.base.tM,I.base.qU,I.base.tN⟩,⟨_,hn',λj y v' e1 e2 e3=>?_⟩,λy c e=>?_,I.free,I.freeC,λp hp=>?_,tracked ⟨oL,hoL,I.free⟩ hs,by simpa using I.len⟩ ⟨_,hs,.inl rfl⟩
  ·exact(hs.2 b (fk (iw (Heap.lt_size e) I.ok.above))).trans (I.base.keep b o e n hb hx)
  ·obtain⟨sl,e1⟩:=I.base.slot b o e n hb hx
   exact⟨sl,(hs.2 b (fk (iw (Heap.lt_size e) I.ok.above))).trans e1⟩
  ·obtain⟨o',e1⟩:=I.base.there b o e hx
   exact⟨o',(hs.2 b (fk (iw (Heap.lt_size e) I.ok.above))).trans e1⟩
  ·by_cases hj:j=i
   ·subst hj
    rw[hi]at e1;cases e1;rw[dW hiσ]at e2;cases e2;exact⟨u,r,.inl ⟨hk,by simp⟩⟩
   ·rw[cy (Ne.symm hj)]at e2
    obtain⟨u',r',q⟩:=hl j y v' e1 e2 e3;refine⟨u',r',?_⟩;rcases q with⟨k,e⟩|⟨k,c,e,z⟩
    ·refine .inl ⟨k,?_⟩
     have:y≠x:=λe=>hj (tQ hN e1 (e▸hi))
     simp[this,e]
    ·exact .inr ⟨k,c,e,z.sameBut hs (LK y c e)⟩
  ·obtain⟨w',z⟩:=I.cell y c e
   exact⟨w',z.sameBut hs (LK y c e)⟩
  ·obtain⟨e,n,ne,nf,d⟩:=I.pin p hp
   exact⟨(hs.2 p.1 ne).trans e,n,ne,nf,d⟩
 ·have Qa:X.fn x=true:=by
   rcases hf with z|z
   ·exact z
   ·rw[z]at hk;cases hk
  obtain⟨c,hc⟩:=I.ok.has x (.inl hk);obtain⟨w',z⟩:=I.cell x c hc;refine wpAny_storeName_cell I.ok.kind hk hc z (λh' Zc hs=>?_);obtain⟨oc,Zd,V3⟩:=id z;refine h {s with heap:=h'} ⟨I.ok,I.os,I.bare,⟨λb o e n hb hx=>?_,λb o e n hb hx=>?_,I.base.free,λb o e hx=>?_,I.base.tM,I.base.qU,I.base.tN⟩,⟨m,hn.sameBut hs (Ne.symm (LK x c hc)),λj y v' e1 e2 e3=>?_⟩,λy c' e=>?_,I.free,I.freeC,λp hp=>?_,tracked ⟨oc,Zd,I.freeC x c hc⟩ hs,by simpa using I.len⟩ ⟨c,hs,.inr hc⟩
  ·exact(hs.2 b (fk (iw (Heap.lt_size e) (I.ok.cab x c Qa hc)))).trans (I.base.keep b o e n hb hx)
  ·obtain⟨sl,e1⟩:=I.base.slot b o e n hb hx
   exact⟨sl,(hs.2 b (fk (iw (Heap.lt_size e) (I.ok.cab x c Qa hc)))).trans e1⟩
  ·obtain⟨o',e1⟩:=I.base.there b o e hx
   exact⟨o',(hs.2 b (fk (iw (Heap.lt_size e) (I.ok.cab x c Qa hc)))).trans e1⟩
  ·by_cases hj:j=i
   ·subst hj
    rw[hi]at e1;cases e1;rw[dW hiσ]at e2;cases e2;exact⟨u,r,.inr ⟨.inl hk,c,hc,Zc⟩⟩
   ·rw[cy (Ne.symm hj)]at e2
    obtain⟨u',r',q⟩:=hl j y v' e1 e2 e3;refine⟨u',r',?_⟩;rcases q with q|⟨k,c',e,z'⟩
    ·exact .inl q
    ·refine .inr ⟨k,c',e,z'.sameBut hs ?_⟩
     rintro rfl
     exact hj (tQ hN e1 (I.ok.inj _ _ _ e hc▸hi))
  ·by_cases PM:c'=c
   ·subst PM;exact⟨_,Zc⟩
   ·obtain⟨w2,z2⟩:=I.cell y c' e
    exact⟨w2,z2.sameBut hs PM⟩
  ·obtain⟨e,n,ne,nf,d⟩:=I.pin p hp
   refine⟨(hs.2 p.1 ?_).trans e,n,ne,nf,d⟩;intro q;rw[q,Zd]at e;have q':oc=p.2:=ku.inj e;exact d w' (by rw[<- q'];exact V3)
theorem mK{M:Model}{A:Around}{E:Value->Shared->Prop}{i:Nat}{x:Str}{v:V}{u:Value}{Q:Unit->Shared->Prop}(I:Inv X aa σ H s)(hN:X.N.Nodup)(hi:X.N[i]?=some x)(hx:Loc X.env.scope x)(r:RelV v u)
  (h:∀s',Inv X aa (σ.set i (some v)) H s'->Q () s') (hf:X.fn x=true\/X.env.scope.names.lookup x=some .local:=by first|exact .inl rfl|exact .inr rfl|assumption):wpAny M A (storeName X.env x u) Q E s:=
 pZ I hN hi hx r (λs' I' _=>h s' I') hf
theorem Inv.Qc{s':Shared}{ch:BM}(I:Inv X aa σ H s)(ho:s'.os=s.os)(u:Un (Cg X.stack) ch H H' s.heap s'.heap)(bx:jC X.prog X.w H' s'.heap)(hg:AllBare s'.gens)
  (Bo:∀b∈ch,(b∈X.ex\/X.s₀.heap.objs.size<=b)/\b≠X.env.locals/\(∀x c,X.env.cells.lookup x=some c->c≠b)/\∀p∈X.pn++aa,p.1≠b):Inv X aa σ H' s':=by
 obtain⟨h',g',d',t',o'⟩:=s';have e:o'=s.os:=ho;subst e;exact I.call (g':=g') (t':=t') (d':=d') u bx hg Bo
end
abbrev XK:=Value->Option Addr->Hp->Prop
abbrev St:=List (Option V)
abbrev VK:=V->Hp->Prop
abbrev TE:=St->Hp->VK->Prop
abbrev TT:=St->Hp->(Bool->Hp->Prop)->Prop
abbrev TA:=St->Hp->(List V->Hp->Prop)->Prop
structure Ends where
 nx:St->Hp->Prop
 rt:VK
 bk:St->Hp->Prop:=λ_ _=>False
 ct:St->Hp->Prop:=λ_ _=>False
abbrev TS:=Ends->St->Hp->Prop
def EP(X:Cx)(aa:c7)(σ:St)(Q:VK)(u:Value)(s':Shared):Prop:=∃v H',Inv X aa σ H' s'/\RelV v u/\Q v H'
def TP(X:Cx)(aa:c7)(σ:St)(Q:Bool->Hp->Prop)(b:Bool)(s':Shared):Prop:=∃H',Inv X aa σ H' s'/\Q b H'
def AP(X:Cx)(aa:c7)(σ:St)(Q:List V->Hp->Prop)(us:B2)(s':Shared):Prop:=∃vs H',Inv X aa σ H' s'/\Vals vs us/\Q vs H'
def SP(X:Cx)(aa:c7)(D:Ends)(f:Flow)(s':Shared):Prop:=
 match f with
 |.next=>∃σ' H',Inv X aa σ' H' s'/\D.nx σ' H'
 |.brk=>∃σ' H',Inv X aa σ' H' s'/\D.bk σ' H'
 |.cont=>∃σ' H',Inv X aa σ' H' s'/\D.ct σ' H'
 |.ret u=>∃v σ' H',Inv X aa σ' H' s'/\RelV v u/\D.rt v H'
def PE(X:Cx)(e:Expr)(t:TE):Prop:=
 ∀(aa:c7)(s:Shared)(σ:St)(H:Hp)(Q:VK),Inv X aa σ H s->t σ H Q->wpAny (model X.prog X.w) X.A (eval e X.env) (EP X aa σ Q) X.xe s
def PT(X:Cx)(e:Expr)(t:TT):Prop:=
 ∀(aa:c7)(s:Shared)(σ:St)(H:Hp)(Q:Bool->Hp->Prop),Inv X aa σ H s->t σ H Q->wpAny (model X.prog X.w) X.A (isTrue e X.env (eval e X.env)) (TP X aa σ Q) X.xe s
def PW(X:Cx)(e:Expr)(t:TT):Prop:=
 ∀(fW:Sem Value)(aa:c7)(s:Shared)(σ:St)(H:Hp)(Q:Bool->Hp->Prop),Inv X aa σ H s->t σ H Q->wpAny (model X.prog X.w) X.A (isTrue e X.env fW) (TP X aa σ Q) X.xe s
theorem PW.pt{X:Cx}{e:Expr}{t:TT}(h:PW X e t):PT X e t:=h _
def PA(X:Cx)(es:Bz)(t:TA):Prop:=
 ∀(pos:Pos)(aa:c7)(s:Shared)(σ:St)(H:Hp)(Q:List V->Hp->Prop),Inv X aa σ H s->t σ H Q->wpAny (model X.prog X.w) X.A (spliced (backTo pos (starEach es X.env))) (AP X aa σ Q) X.xe s
def PS(X:Cx)(st:Stmt)(t:TS):Prop:=
 ∀(aa:c7)(s:Shared)(σ:St)(H:Hp)(D:Ends),Inv X aa σ H s->t D σ H->wpAny (model X.prog X.w) X.A (exec st X.env) (SP X aa D) X.xe s
def jH(X:Cx)(st:Ee)(t:TS):Prop:=
 ∀(aa:c7)(s:Shared)(σ:St)(H:Hp)(D:Ends),Inv X aa σ H s->t D σ H->wpAny (model X.prog X.w) X.A (execs st X.env) (SP X aa D) X.xe s
theorem bJ{α:Type}{t:Sem α}{Q Q':α->Shared->Prop}{M:Model}{A:Around}{E:Value->Shared->Prop}{s:Shared}(h:wpAny M A t Q E s)(hQ:∀a s,Q a s->Q' a s):wpAny M A t Q' E s:=wpAny_mono h hQ λ_ _ x=>x
section
variable{X:Cx}
def vZ(i:Nat):TE:=λσ H Q=>∃v,σ[i]?=some (some v)/\Q v H
def tC(v:V):TE:=λ_ H Q=>Q v H
theorem dJ{i:Nat}{x:Str}{pos:Pos}(hN:X.N[i]?=some x)(hv:sN X.env.scope x)(hd:bW x:=by decide)(jI:iE x:=by decide):PE X (.Name x pos) (vZ i):=by
 intro aa s σ H Q I h;obtain⟨v,e,h⟩:=h;obtain⟨m,hn,hl⟩:=I.loc;obtain⟨u,r,l⟩:=hl i x v hN e hv;have fin:EP X aa σ Q u s:=⟨v,H,I,r,h⟩;rcases l with⟨hk,hm⟩|⟨hk,c,hc,hcell⟩
 ·exact wpAny_Name (wpAny_loadName_local I.ok.kind hk hn hm fin) hd
 ·rcases hk with hk|hk
  ·exact wpAny_Name (wpAny_loadName_cell I.ok.kind hk hc hcell fin) hd
  ·exact wpAny_Name (wpAny_loadName_free I.ok.kind hk hc hcell fin jI) hd
theorem LO{i j pos}:PE X (.Constant (.int i) j pos) (tC (.int i)):=λ_ _ _ H _ I h=>wpAny_Constant_int ⟨.int i,H,I.tok _,⟨_,rfl⟩,h⟩
theorem Qd{b j pos}:PE X (.Constant (.bool b) j pos) (tC (.bl b)):=λ_ _ _ H _ I h=>Constant_bool ⟨.bl b,H,I,rfl,h⟩
theorem LP{j pos}:PE X (.Constant .none j pos) (tC .non):=λ_ _ _ H _ I h=>Constant_none ⟨.non,H,I,rfl,h⟩
theorem v5{x j pos}:PE X (.Constant (.str x) j pos) (tC (.str x)):=λ_ _ _ H _ I h=>Calls.Constant_str ⟨.str x,H,I.tok _,⟨_,rfl⟩,h⟩
def Gl(X:Cx)(x:Str):Prop:=X.env.kindOf x=some .globalImplicit
theorem jJ{E:Value->Shared->Prop}{aa:c7}{s:Shared}{σ:St}{H:Hp}{x:Str}{u:Value}{pos:Pos}{Q:Value->Shared->Prop}(I:Inv X aa σ H s)(hg:Gl X x)(hm:X.mg x=some u)(h:Q u s)
  (hd:bW x:=by decide):wpAny (model X.prog X.w) X.A (eval (.Name x pos) X.env) Q E s:=
 Calls.Name_function_global I.ok.kind hg (Calls.loadGlobal_global (by rw[I.ok.glob];exact I.mod.glob.keeps I.bk) hm h) hd
theorem gI{E:Value->Shared->Prop}{aa:c7}{s:Shared}{σ:St}{H:Hp}{x:Str}{u:Value}{pos:Pos}{Q:Value->Shared->Prop}(I:Inv X aa σ H s)(hg:Gl X x)(hm:X.mg x=none)(hv:bootBuiltins x=some u)(h:Q u s)
  (hn:x ≠ "__name__" := by decide) (hd:bW x:=by decide):wpAny (model X.prog X.w) X.A (eval (.Name x pos) X.env) Q E s:=by
 obtain⟨mb,h1,h2⟩:=I.mod.blt;exact Calls.Name_function_global I.ok.kind hg (Calls.loadGlobal_builtin (by rw[I.ok.glob];exact I.mod.glob.keeps I.bk) hm (by rw[I.ok.blt];exact h1.keeps I.bk) ((h2 x hn).trans hv) h) hd
theorem qY{x:Str}{v:V}{u:Value}{pos:Pos}(hg:Gl X x)(hm:X.mg x=some u)(r:RelV v u)(hd:bW x:=by decide):PE X (.Name x pos) (tC v):=
 λ_ _ _ H _ I h=>jJ I hg hm ⟨v,H,I,r,h⟩ hd
theorem Gq{x:Str}{v:V}{u:Value}{pos:Pos}(hg:Gl X x)(hm:X.mg x=none)(hv:bootBuiltins x=some u)(r:RelV v u)(hn:x ≠ "__name__" := by decide)(hd:bW x:=by decide):PE X (.Name x pos) (tC v):=
 λ_ _ _ H _ I h=>gI I hg hm hv ⟨v,H,I,r,h⟩ hn hd
variable{a:Expr}{ta tb:TE}
def PC(X:Cx)(op:CmpOp)(a b:Expr)(t:TE):Prop:=
 ∀(aa:c7)(s:Shared)(σ:St)(H:Hp)(Q:VK),Inv X aa σ H s->t σ H Q ->
  wpAny (model X.prog X.w) X.A (eval a X.env) (λv s₁=>wpAny (model X.prog X.w) X.A (eval b X.env) (λu s₂=>wpAny (model X.prog X.w) X.A (compareOp op v u) (EP X aa σ Q) X.xe s₂) X.xe s₁) X.xe s
def tB(t:TE):TT:=λσ H Q=>t σ H λx H1=>∃c,x=.bl c/\Q c H1
variable{tA Vc:TT}{rest:Bz}
def V4(t u:TT):TT:=λσ H Q=>t σ H λc H1=>if c=true then u σ H1 Q else Q false H1
def tOr(t u:TT):TT:=λσ H Q=>t σ H λc H1=>if c=true then Q true H1 else u σ H1 Q
def V5(t:TT):TT:=λσ H Q=>t σ H λc H1=>Q (!c) H1
theorem Gu(ha:PT X a tA):PW X (.BoolOp .And [a] pos) tA:=by
 intro wh aa s σ H Q I h;refine isTrue_and (bJ (ha aa s σ H Q I h) λc s1 e=>?_);cases c with
 |true=>exact isTrue_and_nil e
 |false=>exact e
theorem LQ(ha:PT X a tA):PW X (.BoolOp .Or [a] pos) tA:=by
 intro wh aa s σ H Q I h;refine isTrue_or (bJ (ha aa s σ H Q I h) λc s1 e=>?_);cases c with
 |false=>exact isTrue_or_nil e
 |true=>exact e
theorem LR(ha:PT X a tA)(hb:PW X (.BoolOp .And (b::rest) pos) Vc):PW X (.BoolOp .And (a::b::rest) pos) (V4 tA Vc):=by
 intro wh aa s σ H Q I h;refine isTrue_and (bJ (ha aa s σ H _ I h) λc s1 zz=>?_);obtain⟨H1,I1,q1⟩:=zz;cases c with
 |true=>exact hb wh aa s1 σ H1 Q I1 q1
 |false=>exact⟨H1,I1,q1⟩
theorem Qe(ha:PT X a tA)(hb:PW X (.BoolOp .Or (b::rest) pos) Vc):PW X (.BoolOp .Or (a::b::rest) pos) (tOr tA Vc):=by
 intro wh aa s σ H Q I h;refine isTrue_or (bJ (ha aa s σ H _ I h) λc s1 zz=>?_);obtain⟨H1,I1,q1⟩:=zz;cases c with
 |true=>exact⟨H1,I1,q1⟩
 |false=>exact hb wh aa s1 σ H1 Q I1 q1
theorem LS(ha:PT X a tA):PT X (.UnaryOp .Not a pos) (V5 tA):=by
 intro aa s σ H Q I h;exact isTrue_not (ha aa s σ H (λc H1=>Q (!c) H1) I h)
def Qf(ta tb:TE):TE:=λσ H Q=>ta σ H λx H1=>∃c,x=.bl c/\if c=true then tb σ H1 Q else Q (.bl false) H1
def Qg(ta:TE):TE:=λσ H Q=>ta σ H λx H1=>∃c,x=.bl c/\Q (.bl (!c)) H1
theorem LU{op}{t:TE}(h:PE X a t):PE X (.BoolOp op [a] pos) t:=λaa s σ H Q I hw=>BoolOp_one (h aa s σ H Q I hw)
theorem LV(ha:PE X a ta)(hb:PE X (.BoolOp .And (b::rest) pos) tb):PE X (.BoolOp .And (a::b::rest) pos) (Qf ta tb):=by
 intro aa s σ H Q I h;refine BoolOp_and (bJ (ha aa s σ H _ I h) λv s1 zz=>?_);obtain⟨x,H1,I1,r1,q1⟩:=zz;obtain⟨c,rfl,q1⟩:=q1;cases r1;refine wpAny_truthy_bool ?_;cases c with
 |true=>exact hb aa s1 σ H1 Q I1 q1
 |false=>exact⟨.bl false,H1,I1,rfl,q1⟩
theorem LW(ha:PE X a ta):PE X (.UnaryOp .Not a pos) (Qg ta):=by
 intro aa s σ H Q I h;refine UnaryOp_ (bJ (ha aa s σ H _ I h) λv s1 zz=>?_);obtain⟨x,H1,I1,r1,q1⟩:=zz;obtain⟨c,rfl,q1⟩:=q1;cases r1;exact not_of (wpAny_truthy_bool ⟨.bl (!c),H1,I1,rfl,q1⟩)
def tIf(t:TT)(ta tb:TE):TE:=λσ H Q=>t σ H λc H1=>if c=true then ta σ H1 Q else tb σ H1 Q
theorem tR{c:Expr}(hc:PT X c tA)(ha:PE X a ta)(hb:PE X b tb):PE X (.IfExp c a b pos) (tIf tA ta tb):=by
 intro aa s σ H Q I h;refine wpAny_IfExp (bJ (hc aa s σ H _ I h) λd s1 zz=>?_);obtain⟨H1,I1,q1⟩:=zz;cases d with
 |true=>exact ha aa s1 σ H1 Q I1 q1
 |false=>exact hb aa s1 σ H1 Q I1 q1
end
def dh(K:bu)(H:Hp)(a:Addr)(xs:List V):Prop:=
 Rd H a (.lst xs) \/
  ∃(o:Obj)(its:Array Value)(n:Nat),K.lookup a=some o/\o.cls=.type "list" /\ o.dict=none/\o.data=.seq its n/\its.size<=sizeLine/\Vals xs its.toList
def k7(K:bu)(H:Hp)(a:Addr)(xs:List V):Prop:=
 Rd H a (.tup xs) \/
  ∃(o:Obj)(its:Array Value)(n:Nat),K.lookup a=some o/\o.cls=.type "tuple" /\ o.data=.seq its n/\its.size<=sizeLine/\Vals xs its.toList
def V6:Value->Option V
 |.none=>some .non
 |.bool b=>some (.bl b)
 |.int i _=>some (.int i)
 |.str x _=>some (.str x)
 |.bytes b _=>some (.byt b)
 |.float b _=>some (.flt b)
 |.ref a=>some (.ref a)
 |.type n=>some (.ty n)
 |_=>none
theorem RelV.abs{x:V}{u:Value}(r:RelV x u):V6 u=some x:=by
 cases x with
 |non=>cases r;rfl
 |bl _=>cases r;rfl
 |int _=>obtain⟨t,rfl⟩:=r;rfl
 |str _=>obtain⟨t,rfl⟩:=r;rfl
 |byt _=>obtain⟨t,rfl⟩:=r;rfl
 |flt _=>obtain⟨t,rfl⟩:=r;rfl
 |ref _=>cases r;rfl
 |ty _=>cases r;rfl
theorem RelV.inj{x y:V}{u:Value}(r:RelV x u)(q:RelV y u):x=y:=ku.inj (r.abs.symm.trans q.abs)
theorem Vals.inj:∀{xs ys:List V}{us:B2},Vals xs us->Vals ys us->xs=ys
 |_,_,_,.nil,.nil=>rfl
 |_,_,_,.cons r t,.cons r' t'=>by rw[r.inj r',Vals.inj t t']
section
variable{X:Cx}{σ:St}{xs ys:List V}
theorem dh.of{K:bu}(h:H a=some (.lst xs)):dh K H a xs:=.inl (.inl h)
theorem k7.of{K:bu}(h:H a=some (.tup xs)):k7 K H a xs:=.inl (.inl h)
theorem Inv.list(I:Inv X aa σ H s)(h:dh X.K H a xs):∃its:B2,Vals xs its/\PlainL s.heap a its.toArray/\xs.length<=sizeLine:=by
 rcases h with h|⟨o,its,n,hk,hc,hd,hs,hz,r⟩
 ·obtain⟨z,its,n,r,e⟩:=h.ok I.bx
  exact⟨its,r,⟨_,n,e,rfl,rfl,rfl⟩,z⟩
 ·refine⟨its.toList,r,⟨o,n,I.jG a o hk,hc,hd,by simpa using hs⟩,?_⟩
  have e:=r.length;simp only[Array.length_toList]at e;omega
theorem Inv.tuple(I:Inv X aa σ H s)(h:k7 X.K H a xs):∃its:B2,Vals xs its/\IsTup s.heap a its.toArray/\xs.length<=sizeLine:=by
 rcases h with h|⟨o,its,n,hk,hc,hs,hz,r⟩
 ·obtain⟨z,its,r,p⟩:=h.ok I.bx
  exact⟨its,r,p,z⟩
 ·refine⟨its.toList,r,⟨o,I.jG a o hk,hc,n,by simpa using hs⟩,?_⟩
  have e:=r.length;simp only[Array.length_toList]at e;omega
theorem Inv.Ci(I:Inv X aa σ H s)(h:dh X.K H a xs)(h':dh X.K H a ys):xs=ys:=by
 obtain⟨its,r,⟨o,n,e,_,_,d⟩,_⟩:=I.list h;obtain⟨its',r',⟨o',n',e',_,_,d'⟩,_⟩:=I.list h';rw[e]at e';cases e';rw[d]at d';injection d' with d1 _
 have:its=its':=by simpa using congrArg Array.toList d1
 subst this;exact r.inj r'
theorem Inv.p_(I:Inv X aa σ H s)(h:k7 X.K H a xs)(h':k7 X.K H a ys):xs=ys:=by
 obtain⟨its,r,⟨o,e,_,n,d⟩,_⟩:=I.tuple h;obtain⟨its',r',⟨o',e',_,n',d'⟩,_⟩:=I.tuple h';rw[e]at e';cases e';rw[d]at d';injection d' with d1 _
 have:its=its':=by simpa using congrArg Array.toList d1
 subst this;exact r.inj r'
end
abbrev Cx.pA(X:Cx)(E:Value->Shared->Prop):Cx:={X with xe:=E}
abbrev Cx.Kf(X:Cx):Cx:=X.pA λ_ _=>False
theorem Cx.Ok.pA{X:Cx}(ok:X.Ok)(E:Value->Shared->Prop):(X.pA E).Ok:=
 ⟨ok.mod,ok.kind,ok.glob,ok.blt,ok.above,ok.inj,ok.has,ok.cab,ok.hd,ok.frames,ok.stk,ok.exf,ok.bs,ok.bsz,ok.noex,ok.exfs,ok.lG,ok.frf⟩
theorem Cx.Ok.iF{X:Cx}{E:Value->Shared->Prop}(ok:(X.pA E).Ok):X.Ok:=
 ⟨ok.mod,ok.kind,ok.glob,ok.blt,ok.above,ok.inj,ok.has,ok.cab,ok.hd,ok.frames,ok.stk,ok.exf,ok.bs,ok.bsz,ok.noex,ok.exfs,ok.lG,ok.frf⟩
section
variable{X:Cx}{σ:St}
theorem Inv.pA(I:Inv X aa σ H s)(E:Value->Shared->Prop):Inv (X.pA E) aa σ H s:=⟨I.ok.pA E,I.os,I.bare,I.base,I.loc,I.cell,I.free,I.freeC,I.pin,I.bx,I.len⟩
theorem Inv.iF(I:Inv (X.pA E) aa σ H s):Inv X aa σ H s:=⟨I.ok.iF,I.os,I.bare,I.base,I.loc,I.cell,I.free,I.freeC,I.pin,I.bx,I.len⟩
theorem SP.iF{D:Ends}{f:Flow}{s':Shared}(h:SP (X.pA E) aa D f s'):SP X aa D f s':=by
 cases f with
 |next=>obtain⟨σ',H',I,q⟩:=h;exact⟨σ',H',I.iF,q⟩
 |brk=>obtain⟨σ',H',I,q⟩:=h;exact⟨σ',H',I.iF,q⟩
 |cont=>obtain⟨σ',H',I,q⟩:=h;exact⟨σ',H',I.iF,q⟩
 |ret u=>obtain⟨v,σ',H',I,r,q⟩:=h;exact⟨v,σ',H',I.iF,r,q⟩
theorem jH.Kf{st:Ee}{t:TS}(h:jH X.Kf st t):jH X st t:=λaa s σ H D I hw=>
 wpAny_mono (h aa s σ H D (I.pA _) hw) (λ_ _ q=>q.iF) λ_ _ z=>False.elim z
end
section
variable{X:Cx}{st:Stmt}{rest:Ee}{t u:TS}{te:TE}
def Cj:TS:=λD σ H=>D.nx σ H
def Qh(t u:TS):TS:=λD σ H=>t {D with nx:=u D} σ H
theorem yl:jH X [] Cj:=λ_ _ σ H _ I h=>wpAny_execs_nil ⟨σ,H,I,h⟩
theorem tU(h1:PS X st t)(h2:jH X rest u):jH X (st::rest) (Qh t u):=by
 intro aa s σ H D I h;refine wpAny_execs_cons (bJ (h1 aa s σ H {D with nx:=u D} I h) λf s1 q=>?_)
 cases f with
 |next=>
  obtain⟨σ',H',I',q⟩:=q;exact h2 aa s1 σ' H' D I' q
 |ret v=>exact q
 |brk=>exact q
 |cont=>exact q
theorem ym(h1:PS X st t):jH X [st] t:=by
 intro aa s σ H D I h;refine wpAny_execs_cons (bJ (h1 aa s σ H D I h) λf s1 q=>?_);cases f with
 |next=>exact wpAny_execs_nil q
 |ret v=>exact q
 |brk=>exact q
 |cont=>exact q
def LX:TS:=λD σ H=>D.bk σ H
def Qi:TS:=λD σ H=>D.ct σ H
theorem Gv:PS X (.Pass pos) Cj:=λ_ _ σ H _ I h=>wpAny_Pass ⟨σ,H,I,h⟩
theorem Cm:PS X (.Break pos) LX:=λ_ _ σ H _ I h=>wpAny_Break ⟨σ,H,I,h⟩
theorem tW:PS X (.Continue pos) Qi:=λ_ _ σ H _ I h=>wpAny_Continue ⟨σ,H,I,h⟩
theorem Inv.quiet{aa:c7}{σ:St}{H:Hp}{s:Shared}(I:Inv X aa σ H s):interactive X.env=false:=by simp[interactive,I.ok.kind]
def Qj(te:TE):TS:=λD σ H=>te σ H λ_ H1=>D.nx σ H1
theorem qZ(he:PE X e te)(hs:swapsWith e none pos.line X.env=pure false:=by rfl):PS X (.Expr e pos) (Qj te):=by
 intro aa s σ H D I h;exact wpAny_Expr_any (bJ (he aa s σ H _ I h) λv s1 ⟨x,H1,I1,r1,q1⟩=>⟨σ,H1,I1,q1⟩) I.quiet hs
def V7(te:TE):TS:=λD σ H=>te σ H D.rt
theorem LY(he:PE X e te):PS X (.Return (some e) pos) (V7 te):=by
 intro aa s σ H D I h;exact wpAny_Return_some (bJ (he aa s σ H _ I h) λv s1 ⟨x,H1,I1,r1,q1⟩=>⟨x,σ,H1,I1,r1,q1⟩)
def Qk:TS:=λD _ H=>D.rt .non H
theorem Gw:PS X (.Return none pos) Qk:=λ_ _ σ H _ I h=>wpAny_Return_none ⟨.non,σ,H,I,rfl,h⟩
def V8(c:TT)(t u:TS):TS:=λD σ H=>c σ H λb H1=>if b=true then t D σ H1 else u D σ H1
theorem Ql{c:Expr}{a b:Ee}{tc:TT}(hc:PT X c tc)(ha:jH X a t)(hb:jH X b u):PS X (.If c a b pos) (V8 tc t u):=by
 intro aa s σ H D I h;refine wpAny_If (bJ (hc aa s σ H _ I h) λd s1 zz=>?_);obtain⟨H1,I1,q1⟩:=zz;cases d with
 |true=>exact ha aa s1 σ H1 D I1 q1
 |false=>exact hb aa s1 σ H1 D I1 q1
end
abbrev TG:=V->St->Hp->(St->Hp->Prop)->Prop
abbrev Kg:=List V->St->Hp->(St->Hp->Prop)->Prop
def PG(X:Cx)(target:Expr)(t:TG):Prop:=
 ∀(aa:c7)(s:Shared)(σ:St)(H:Hp)(v:V)(u:Value)(Q:St->Hp->Prop),Inv X aa σ H s->RelV v u->t v σ H Q ->
  wpAny (model X.prog X.w) X.A (assign target X.env u) (λ_ s'=>∃σ' H',Inv X aa σ' H' s'/\Q σ' H') X.xe s
def Qm(X:Cx)(ts:Bz)(t:Kg):Prop:=
 ∀(aa:c7)(s:Shared)(σ:St)(H:Hp)(vs:List V)(us:B2)(Q:St->Hp->Prop),Inv X aa σ H s->Vals vs us->t vs σ H Q ->
  wpAny (model X.prog X.w) X.A (assignInOrder ((assignEach ts X.env).map (·.2)) us) (λ_ s'=>∃σ' H',Inv X aa σ' H' s'/\Q σ' H') X.xe s
abbrev LZ:=V->V->V->Hp->(Hp->Prop)->Prop
def Qn(X:Cx)(t:LZ):Prop:=
 ∀(aa:c7)(s:Shared)(σ:St)(H:Hp)(o i v:V)(ov iv u:Value)(Q:Hp->Prop),Inv X aa σ H s->RelV o ov->RelV i iv->RelV v u->t o i v H Q ->
  wpAny (model X.prog X.w) X.A (setItem ov iv u) (λ_ s'=>∃H',Inv X aa σ H' s'/\Q H') X.xe s
abbrev Vd:=V->V->Hp->VK->Prop
def Ze(X:Cx)(op:Operator)(t:Vd):Prop:=
 ∀(aa:c7)(s:Shared)(σ:St)(H:Hp)(x y:V)(v u:Value)(Q:VK),Inv X aa σ H s->RelV x v->RelV y u->t x y H Q ->
  wpAny (model X.prog X.w) X.A (inplaceOp op v u) (EP X aa σ Q) X.xe s
section
variable{X:Cx}
def yn(i:Nat):TG:=λv σ H Q=>Q (σ.set i (some v)) H
theorem q_{i:Nat}{x:Str}(hN:X.N.Nodup)(hi:X.N[i]?=some x)(hx:Loc X.env.scope x)(hf:X.fn x=true\/X.env.scope.names.lookup x=some .local:=by first|exact .inl rfl|exact .inr rfl|assumption):PG X (.Name x pos) (yn i):=by
 intro aa s σ H v u Q I r h;exact wpAny_assign_Name (mK I hN hi hx r (λs' I'=>⟨_,H,I',h⟩) hf)
def Qp:Kg:=λvs σ H Q=>vs=[]/\Q σ H
def Kh(t:TG)(u:Kg):Kg:=λvs σ H Q=>∃v r,vs=v::r/\t v σ H λσ' H'=>u r σ' H' Q
theorem Gx:Qm X [] Qp:=by
 intro aa s σ H vs us Q I r h;obtain⟨e,h⟩:=h;subst e;cases r;exact assignInOrder_nil ⟨σ,H,I,h⟩
theorem Cn{e:Expr}{es:Bz}{t:TG}{u:Kg}(h1:PG X e t)(h2:Qm X es u)
  (hs:(assignEach (e::es) X.env).map (·.2)=assign e X.env::(assignEach es X.env).map (·.2):=by rfl):Qm X (e::es) (Kh t u):=by
 intro aa s σ H vs us Q I r h;obtain⟨v,vr,e1,h⟩:=h;subst e1;cases r with
 |cons r rr=>
  rw[hs];refine assignInOrder_cons (bJ (h1 aa s σ H _ _ _ I r h) λ_ s1 zz=>?_);obtain⟨σ1,H1,I1,q1⟩:=zz;exact h2 aa s1 σ1 H1 _ _ Q I1 rr q1
def L0(K:bu)(n:Nat)(t:Kg):TG:=λv σ H Q=>∃a xs,v=.ref a/\k7 K H a xs/\xs.length=n/\t xs σ H Q
theorem Co{es:Bz}{k:Nat}{t:Kg}{n:Nat}(hc:X.calm=true)(h:Qm X es t)
  (hn:(assignEach es X.env).length=n:=by rfl) (Qq:(assignEach es X.env).findIdx? (·.1)=none:=by rfl):PG X (.Tuple es k pos) (L0 X.K n t):=by
 intro aa s σ H v u Q I r hw;obtain⟨a,xs,e1,hq,hl,hw⟩:=hw;subst e1;cases r;obtain⟨its,rv,ht,hz⟩:=I.tuple hq;refine assign_Tuple_tuple (I.ok.hd hc) ht (by simp[hn,<- hl,rv.length]) Qq λh' hx=>?_
 have I1:Inv X aa σ H {s with heap:=h'}:=I.kept (t':=s.toks) λb o e=>hx b o (fk (Heap.lt_size e)) e
 exact h aa _ σ H xs _ Q I1 (by simpa using rv) hw
def V9(to ti:TE)(t:LZ):TG:=λv σ H Q=>to σ H λo H1=>ti σ H1 λi H2=>t o i v H2 λH3=>Q σ H3
theorem L3{o i:Expr}{to ti:TE}{t:LZ}(ho:PE X o to)(hi:PE X i ti)(hs:Qn X t)
  (ha:∀v,assign (.Subscript o i pos) X.env v=(do
   let ov <- holding [v] (eval o X.env)
   let iv <- holding [v,ov] (eval i X.env)
   standAt pos
   holding [v,ov,iv] (setItem ov iv v)
   release [v,ov,iv] []):=by intro _;rfl):PG X (.Subscript o i pos) (V9 to ti t):=by
 intro aa s σ H v u Q I r h;rw[ha];refine wpAny_bind (wpAny_holding (bJ (ho aa s σ H _ I h) λov s1 zz=>?_));obtain⟨x,H1,I1,r1,q1⟩:=zz;refine wpAny_bind (wpAny_holding (bJ (hi aa s1 σ H1 _ I1 q1) λiv s2 zz=>?_));obtain⟨y,H2,I2,r2,q2⟩:=zz;refine wpAny_bind (wpAny_standAt (wpAny_bind (wpAny_holding (bJ (hs aa s2 σ H2 x y v ov iv u _ I2 r1 r2 r q2) λ_ s3 zz=>?_))));obtain⟨H3,I3,q3⟩:=zz;exact wpAny_release ⟨σ,H3,I3,q3⟩
def Qs(te:TE)(g:TG):TS:=λD σ H=>te σ H λx H1=>g x σ H1 D.nx
theorem L4{tg e:Expr}{te:TE}{g:TG}(he:PE X e te)(hg:PG X tg g)(hs:swapsWithSole [tg] e pos.line X.env=pure false:=by rfl)(hw:swappedStores [tg] e X.env=pure none:=by rfl)
  (h1:(assignEach [tg] X.env).map (·.2)=[assign tg X.env]:=by rfl):PS X (.Assign [tg] e pos) (Qs te g):=by
 intro aa s σ H D I h;refine wpAny_Assign_stores (bJ (he aa s σ H _ I h) λv s1 ⟨x,H1,I1,r1,q1⟩=>?_) hs hw;rw[h1];exact bJ (hg aa s1 σ H1 x v _ I1 r1 q1) λ_ s2 q=>q
theorem v_{i:Nat}{x:Str}{e:Expr}{te:TE}{b9:Pos}(hN:X.N.Nodup)(hi:X.N[i]?=some x)(hx:Loc X.env.scope x)(he:PE X e te)(hs:swapsWith e (some (.Name x b9)) pos.line X.env=pure false:=by rfl)(hf:X.fn x=true\/X.env.scope.names.lookup x=some .local:=by first|exact .inl rfl|exact .inr rfl|assumption) :
  PS X (.Assign [.Name x b9] e pos) (Qs te (yn i)):=by
 intro aa s σ H D I h;refine wpAny_Assign_Name (bJ (he aa s σ H _ I h) λv s1 ⟨y,H1,I1,r1,q1⟩=>?_) hs;exact mK I1 hN hi hx r1 (λs2 I2=>⟨_,H1,I2,q1⟩) hf
def V_(i:Nat)(te:TE)(ti:Vd):TS:=λD σ H=>∃x,σ[i]?=some (some x)/\te σ H λy H1=>ti x y H1 λz H2=>D.nx (σ.set i (some z)) H2
theorem L5{i:Nat}{x:Str}{e:Expr}{te:TE}{op:Operator}{ti:Vd}{b9:Pos}(hN:X.N.Nodup)(hi:X.N[i]?=some x)(hx:Loc X.env.scope x)(he:PE X e te)(ho:Ze X op ti)(hf:X.fn x=true\/X.env.scope.names.lookup x=some .local:=by first|exact .inl rfl|exact .inr rfl|assumption) :
  PS X (.AugAssign (.Name x b9) op e pos) (V_ i te ti):=by
 intro aa s σ H D I h;obtain⟨v,e1,h⟩:=h;obtain⟨m,hn,hl⟩:=I.loc;have vis:sN X.env.scope x:=by rcases hx with k|k;exact .inl k;exact .inr (.inl k)
 obtain⟨u,r,l⟩:=hl i x v hi e1 vis;refine wpAny_AugAssign_Name ?_;have go:wpAny (model X.prog X.w) X.A (eval e X.env) (λw s₂=>wpAny (model X.prog X.w) X.A (inplaceOp op u w) (λr s₃=>wpAny (model X.prog X.w) X.A (storeName X.env x r) (λ_=>SP X aa D .next) X.xe s₃) X.xe s₂) X.xe s:=by
  refine bJ (he aa s σ H _ I h) λw s1 zz=>?_;obtain⟨y,H1,I1,r1,q1⟩:=zz;refine bJ (ho aa s1 σ H1 v y u w _ I1 r r1 q1) λz s2 zz=>?_;obtain⟨zv,H2,I2,r2,q2⟩:=zz;exact mK I2 hN hi hx r2 (λs3 I3=>⟨_,H2,I3,q2⟩) hf
 rcases l with⟨hk,hm⟩|⟨hk,c,hc,hcell⟩
 ·exact wpAny_loadName_local I.ok.kind hk hn hm go
 ·rcases hk with hk|hk
  ·exact wpAny_loadName_cell I.ok.kind hk hc hcell go
  ·rcases hx with k|k
   ·have:X.env.scope.names.lookup x=some .free:=hk
    rw[k]at this;cases this
   ·have:X.env.scope.names.lookup x=some .free:=hk
    rw[k]at this;cases this
def ipI(f:Int->Int->Int):Vd:=λx y H Q=>∃i j,x=.int i/\y=.int j/\Q (.int (f i j)) H
theorem L6:Ze X .Add (ipI λi j=>i+j):=by
 intro aa s σ H x y v u Q I r1 r2 h;obtain⟨i,j,e1,e2,q⟩:=h;subst e1;subst e2;obtain⟨t,rfl⟩:=r1;obtain⟨t',rfl⟩:=r2;exact iadd_int ⟨.int _,H,I.tok _,⟨_,rfl⟩,q⟩
end
section
variable{X:Cx}
def L7(c:TT)(tb:TS):TS:=λD σ H=>∃W:Nat->St->Hp->Prop,(∃m,W m σ H)/\∀m σ H,W m σ H ->
 c σ H λb H1=>if b=true then ∃N:St->Hp->Prop,(∀σ' H',N σ' H'->∃m',m'<m/\W m' σ' H')/\tb {D with nx:=N,ct:=N,bk:=D.nx} σ H1 else D.nx σ H1
theorem Cp{c:Expr}{body:Ee}{tc:TT}{tb:TS}(hp:PassesOwn (model X.prog X.w) X.A X.env X.xe)(hc:PT X c tc)(hb:jH X body tb):PS X (.While c body [] pos) (L7 tc tb):=by
 intro aa s σ H D I h;obtain⟨W,⟨m0,w0⟩,turn⟩:=h;refine wpAny_While (codeAny_whileLoop (λn s'=>∃σ' H',Inv X aa σ' H' s'/\W n σ' H') ?_ m0 ⟨σ,H,I,w0⟩)
 rintro n s1 ⟨σ1,H1,I1,w1⟩
 refine wpAny_passesOwn hp (bJ (hc aa s1 σ1 H1 _ I1 (turn n σ1 H1 w1)) λb s2 zz=>?_);obtain⟨H2,I2,q2⟩:=zz;cases b with
 |true=>
  obtain⟨N,hN,q2⟩:=q2;rw[if_pos rfl];refine wpAny_passesOwn hp (bJ (hb aa s2 σ1 H2 _ I2 q2) λf s3 q3=>?_);cases f with
  |next=>
   obtain⟨σ3,H3,I3,n3⟩:=q3;obtain⟨m',hm,w3⟩:=hN σ3 H3 n3;exact⟨m',hm,σ3,H3,I3,w3⟩
  |cont=>
   obtain⟨σ3,H3,I3,n3⟩:=q3;obtain⟨m',hm,w3⟩:=hN σ3 H3 n3;exact⟨m',hm,σ3,H3,I3,w3⟩
  |brk=>exact q3
  |ret v=>exact q3
 |false=>
  rw[if_neg bZ];exact wpAny_execs_nil ⟨σ1,H2,I2,q2⟩
end
structure It where
 go:Nat->Hp->Prop
 yld:Nat->Hp->V->Hp->Prop
 stop:Nat->Hp->Prop
def mL(X:Cx)(aa:c7)(H:Hp)(b:Addr):Prop:=
 H b=none/\b≠X.env.locals/\b∉X.fs/\(b∈X.ex\/X.s₀.heap.objs.size<=b)/\(∀x c,X.env.cells.lookup x=some c->c≠b)/\∀p∈X.pn++aa,p.1≠b
theorem Inv.rf{X:Cx}{aa:c7}{σ:St}{H H':Hp}{s:Shared}{b:Addr}(I:Inv X aa σ H s)(hb:s.heap.objs.size<=b)(hn:H' b=none):mL X aa H' b:=by
 refine⟨hn,yd (iw I.lt hb),I.VZ hb,.inr (gA I.sz hb),λx c e z=>?_,λp hp z=>?_⟩
 ·obtain⟨v,q⟩:=I.cell x c e
  exact absurd (iw q.lt (by rw[z];exact hb)) (qR _)
 ·exact absurd (iw (Heap.lt_size (I.pin p hp).1) (by rw[z];exact hb)) (qR _)
structure Turn(P:Program)(w:World)(K:bu)(tg:Expr)(J:It)(fp:BM)(it:Addr)(tn:Nat->Heap->Prop):Prop where
 mem:it∈fp
 obj:∀i h,tn i h->∀b∈fp,∃o,h.get? b=some o/\∀v,o.data≠.cell v
 keep:∀i h h',tn i h->(∀b∈fp,∀o,h.get? b=some o->h'.get? b=some o)->tn i h'
 item:∀(X:Cx),X.prog=P->X.w=w->X.K=K->X.calm=true->∀(i:Nat)(aa:c7)(s:Shared)(σ:St)(H:Hp)(E:Value->Shared->Prop),Inv X aa σ H s->(∀b∈fp,mL X aa H b)->tn i s.heap->J.go i H ->
  wpAny (model P w) X.A (pyNext (.ref it)) (λr s1=>∃u,r=some u /\
   wpAny (model P w) X.A (letOwnedTupleGo tg (.ref it) u) (λ_ s2=>∃x H',Inv X aa σ H' s2/\RelV x u/\J.yld i H x H'/\tn (i+1) s2.heap/\∀b∈fp,H' b=none) E s1) E s
 done:∀(X:Cx),X.prog=P->X.w=w->X.K=K->X.calm=true->∀(i:Nat)(aa:c7)(s:Shared)(σ:St)(H:Hp)(E:Value->Shared->Prop),Inv X aa σ H s->(∀b∈fp,mL X aa H b)->tn i s.heap->J.stop i H ->
  wpAny (model P w) X.A (pyNext (.ref it)) (λr s1=>r=none/\Inv X aa σ H s1) E s
 self:∀(A:Around)(i:Nat)(s:Shared)(Q:Value->Shared->Prop)(E:Value->Shared->Prop),tn i s.heap->Q (.ref it) s->wpAny (model P w) A (pyIter (.ref it)) Q E s
abbrev TI:=St->Hp->(It->Hp->Prop)->Prop
def Zf(X:Cx)(aa:c7)(σ:St)(tg:Expr)(R:It->Hp->Prop)(Wa:Value)(s2:Shared):Prop:=
 ∃(it:Addr)(fp:BM)(tn:Nat->Heap->Prop)(J:It)(H':Hp),Wa=.ref it/\Inv X aa σ H' s2/\Turn X.prog X.w X.K tg J fp it tn/\tn 0 s2.heap/\(∀b∈fp,mL X aa H' b)/\R J H'
def PI(X:Cx)(tg iter:Expr)(wi:TI):Prop:=
 ∀(aa:c7)(s:Shared)(σ:St)(H:Hp)(R:It->Hp->Prop),Inv X aa σ H s->wi σ H R ->
  wpAny (model X.prog X.w) X.A (eval iter X.env) (λv s1=>wpAny (model X.prog X.w) X.A (pyIter v) (Zf X aa σ tg R) X.xe s1) X.xe s
theorem tX{M:Model}{A:Around}{E:Value->Shared->Prop}{s:Shared}{tg:Expr}{it:Addr}{u:Value}{o:Obj}{n:String}{vs:Array Value}{Q:Unit->Shared->Prop}(ho:s.heap.get? it=some o)(hc:o.cls=.type n)(hd:o.data=.fields vs)
  (hn:["enumerate","zip","dict_itemiterator","dict_reverseitemiterator","odict_iterator","itertools.zip_longest","itertools.pairwise"].contains n=false) (hQ:Q () s):wpAny M A (letOwnedTupleGo tg (.ref it) u) Q E s:=by
 unfold letOwnedTupleGo;cases tg<;>first
  |exact wpAny_pure hQ
  | (cases u<;>first
    |exact wpAny_pure hQ
    | (refine wpAny_bind (wpAny_load ho ?_)
       rw[hc,hd];show wpAny M A (if(["enumerate","zip","dict_itemiterator","dict_reverseitemiterator","odict_iterator","itertools.zip_longest","itertools.pairwise"].contains n&&vs[0]? == some (rawInt _))=true then _ else _) Q E s
       rw[if_neg (by intro h;rw[hn,yh]at h;cases h)]
       exact wpAny_pure hQ))
def Ve(K:bu)(a:Addr):It:=
 ⟨λi H=>∃xs x,dh K H a xs/\xs[i]?=some x,λi H x H'=>H'=H/\∀xs,dh K H a xs->xs[i]?=some x,λi H=>∃xs,dh K H a xs/\xs.length<=i⟩
def Wb(K:bu)(a:Addr):It:=
 ⟨λi H=>∃xs x,k7 K H a xs/\xs[i]?=some x,λi H x H'=>H'=H/\∀xs,k7 K H a xs->xs[i]?=some x,λi H=>∃xs,k7 K H a xs/\xs.length<=i⟩
def Qt(lo:Int)(n:Nat):It:=⟨λi _=>i<n,λi H x H'=>H'=H/\x=.int (lo+i),λi _=>n<=i⟩
theorem Al{P:Program}{w:World}{K:bu}{tg:Expr}(a it:Addr):Turn P w K tg (Ve K a) [it] it (λi h=>h.IsListIter it a i) where
 mem:=by simp
 obj:=λi h st b hb=>by
  have e:b=it:=by simpa using hb
  subst e;obtain⟨o,e,c,d⟩:=st;exact⟨o,e,λv z=>by rw[d]at z;cases z⟩
 keep:=λi h h' st k=>st.at λo e=>k it (by simp) o e
 item:=by
  intro X hP hw hK hc i aa s σ H E I hf st hg;subst hP hw hK;obtain⟨xs,x,hq,hx⟩:=hg;obtain⟨its,rv,p,hz⟩:=I.list hq;obtain⟨u,hu,ru⟩:=rv.get hx;obtain⟨f0,f1,f2,f3,f4,f5⟩:=hf it (by simp)
  refine wpAny_pyNext_list_item st p.isList (x:=u) (by simpa using hu) λh' rh sb=>?_
  have I1:Inv X aa σ H {s with heap:=h'}:=I.turned (t':=s.toks) (λb o hb e=>(sb.2 b hb).trans e) f0 f1 f3 f4 f5
  obtain⟨o,e,c,d⟩:=id rh;exact⟨u,rfl,tX (s:={s with heap:=h'}) e c d (by decide) ⟨x,H,I1,ru,⟨rfl,λys hy=>by rw[I.Ci hy hq];exact hx⟩,rh,λb hb=>(hf b hb).1⟩⟩
 done:=by
  intro X hP hw hK hc i aa s σ H E I hf st hg;subst hP hw hK;obtain⟨xs,hq,hx⟩:=hg;obtain⟨its,rv,p,hz⟩:=I.list hq;obtain⟨f0,f1,f2,f3,f4,f5⟩:=hf it (by simp)
  have hl:=rv.length;exact wpAny_pyNext_list_end (I.ok.hd hc) st p.isList (by simp;omega) λh' eb=>⟨rfl,I.turned (t':=s.toks) (λb o hb e=>eb b o hb e) f0 f1 f3 f4 f5⟩
 self:=λ_ _ _ _ _ st h=>wpAny_pyIter_listiter st h
theorem wa{P:Program}{w:World}{K:bu}{tg:Expr}(a it:Addr):Turn P w K tg (Wb K a) [it] it (λi h=>h.IsTupleIter it a i) where
 mem:=by simp
 obj:=λi h st b hb=>by
  have e:b=it:=by simpa using hb
  subst e;obtain⟨o,e,c,d⟩:=st;exact⟨o,e,λv z=>by rw[d]at z;cases z⟩
 keep:=λi h h' st k=>st.at λo e=>k it (by simp) o e
 item:=by
  intro X hP hw hK hc i aa s σ H E I hf st hg;subst hP hw hK;obtain⟨xs,x,hq,hx⟩:=hg;obtain⟨its,rv,p,hz⟩:=I.tuple hq;obtain⟨u,hu,ru⟩:=rv.get hx;obtain⟨f0,f1,f2,f3,f4,f5⟩:=hf it (by simp)
  refine wpAny_pyNext_tuple_item st (show s.heap.IsTuple a its.toArray from p) (x:=u) (by simpa using hu) λh' rh sb=>?_
  have I1:Inv X aa σ H {s with heap:=h'}:=I.turned (t':=s.toks) (λb o hb e=>(sb.2 b hb).trans e) f0 f1 f3 f4 f5
  obtain⟨o,e,c,d⟩:=id rh;exact⟨u,rfl,tX (s:={s with heap:=h'}) e c d (by decide) ⟨x,H,I1,ru,⟨rfl,λys hy=>by rw[I.p_ hy hq];exact hx⟩,rh,λb hb=>(hf b hb).1⟩⟩
 done:=by
  intro X hP hw hK hc i aa s σ H E I hf st hg;subst hP hw hK;obtain⟨xs,hq,hx⟩:=hg;obtain⟨its,rv,p,hz⟩:=I.tuple hq;obtain⟨f0,f1,f2,f3,f4,f5⟩:=hf it (by simp)
  have hl:=rv.length;exact wpAny_pyNext_tuple_end (I.ok.hd hc) st (show s.heap.IsTuple a its.toArray from p) (by simp;omega) λh' eb=>⟨rfl,I.turned (t':=s.toks) (λb o hb e=>eb b o hb e) f0 f1 f3 f4 f5⟩
 self:=λ_ _ _ _ _ st h=>wpAny_pyIter_tupleiter st h
theorem wb{P:Program}{w:World}{K:bu}{tg:Expr}(it:Addr)(lo:Int)(n:Nat):Turn P w K tg (Qt lo n) [it] it (λi h=>IsRangeIter h it (lo+(i:Nat)*1) ((n:Int)-(i:Nat)) 1) where
 mem:=by simp
 obj:=λi h st b hb=>by
  have e:b=it:=by simpa using hb
  subst e;exact⟨_,st,λv z=>by
   have z':Data.fields _=Data.cell v:=z;cases z'⟩
 keep:=λi h h' st k=>k it (by simp) _ st
 item:=by
  intro X hP hw hK hc i aa s σ H E I hf st hg;subst hP hw hK;obtain⟨f0,f1,f2,f3,f4,f5⟩:=hf it (by simp)
  have W:=Walks.range (prog:=X.prog) (w:=X.w) (I.ok.hd hc) it lo 1 n;refine W.item i s _ _ hg st λv h' tk hv rh kk=>?_;obtain⟨t,rfl⟩:=hv;have I1:Inv X aa σ H {s with heap:=h',toks:=tk}:=I.turned (λb o hb e=>kk b o (by simpa using hb) e) f0 f1 f3 f4 f5
  refine⟨_,rfl,tX (s:={s with heap:=h',toks:=tk}) (n := "range_iterator") rh rfl rfl (by decide) ⟨.int (lo+i),H,I1,⟨t,?_⟩,⟨rfl,rfl⟩,rh,λb hb=>(hf b hb).1⟩⟩
  rw[Int.mul_one]
 done:=by
  intro X hP hw hK hc i aa s σ H E I hf st hg;subst hP hw hK;obtain⟨f0,f1,f2,f3,f4,f5⟩:=hf it (by simp)
  exact wpAny_pyNext_range_end (I.ok.hd hc) st (by have:n<=i:=hg;omega) λh' eb=>⟨rfl,I.turned (t':=s.toks) (λb o hb e=>eb b o hb e) f0 f1 f3 f4 f5⟩
 self:=λ_ _ _ _ _ st h=>wpAny_pyIter_rangeiter st h
section
variable{X:Cx}{tg:Expr}
def Qu(K:bu)(tl:TE):TI:=λσ H R=>tl σ H λx H1=>∃a,x=.ref a/\(∃xs,dh K H1 a xs)/\R (Ve K a) H1
def Wc(K:bu)(tl:TE):TI:=λσ H R=>tl σ H λx H1=>∃a,x=.ref a/\(∃xs,k7 K H1 a xs)/\R (Wb K a) H1
theorem Gy{l:Expr}{tl:TE}(hl:PE X l tl):PI X tg l (Qu X.K tl):=by
 intro aa s σ H R I h;refine bJ (hl aa s σ H _ I h) λv s1 zz=>?_;obtain⟨x,H1,I1,r1,q1⟩:=zz;obtain⟨a,e,⟨xs,hq⟩,q⟩:=q1;subst e;cases r1;obtain⟨its,rv,p,hz⟩:=I1.list hq;refine wpAny_pyIter_list p.isList ?_;refine⟨s1.heap.objs.size,[s1.heap.objs.size],_,_,H1,rfl,I1.kept (t':=s1.toks) λb o e=>Heap.get?_push_of_some _ e,Al a _,⟨_,Heap.get?_push_size _ rfl,rfl,rfl⟩,λb hb=>?_,q⟩;have e:b=s1.heap.objs.size:=by simpa using hb
 subst e;exact I1.rf (cC _) (I1.bx.fresh (cC _))
theorem L8{l:Expr}{tl:TE}(hl:PE X l tl):PI X tg l (Wc X.K tl):=by
 intro aa s σ H R I h;refine bJ (hl aa s σ H _ I h) λv s1 zz=>?_;obtain⟨x,H1,I1,r1,q1⟩:=zz;obtain⟨a,e,⟨xs,hq⟩,q⟩:=q1;subst e;cases r1;obtain⟨its,rv,p,hz⟩:=I1.tuple hq;refine wpAny_pyIter_tuple (show s1.heap.IsTuple a its.toArray from p) ?_;refine⟨s1.heap.objs.size,[s1.heap.objs.size],_,_,H1,rfl,I1.kept (t':=s1.toks) λb o e=>Heap.get?_push_of_some _ e,wa a _,⟨_,Heap.get?_push_size _ rfl,rfl,rfl⟩,λb hb=>?_,q⟩;have e:b=s1.heap.objs.size:=by simpa using hb
 subst e;exact I1.rf (cC _) (I1.bx.fresh (cC _))
theorem tY{aa:c7}{σ:St}{H:Hp}{s:Shared}{R:It->Hp->Prop}{E:Value->Shared->Prop}{lo hi:Int}{t u v:Tok}{tk:Nat}(I:Inv X aa σ H s)(h1:-(2^62)<=lo)(h2:lo<2^62)(h3:-(2^62)<=hi)(h4:hi<2^62)
  (q:R (Qt lo (hi-lo).toNat) H):wpAny (model X.prog X.w) X.A (pyIter (.ref s.heap.objs.size)) (Zf X aa σ tg R) E {s with heap:=s.heap.push {cls:=.type "range",data:=.fields #[.int lo t,.int hi u,.int 1 v]},toks:=tk}:=by
 refine wpAny_pyIter_range (IsRange.new ..) (small_one h1 h2 h3 h4) ?_;have I1:Inv X aa σ H {s with heap:=s.heap.push {cls:=.type "range",data:=.fields #[.int lo t,.int hi u,.int 1 v]},toks:=tk}:=I.kept λb o e=>Heap.get?_push_of_some _ e
 refine⟨(s.heap.push {cls:=.type "range",data:=.fields #[.int lo t,.int hi u,.int 1 v]}).objs.size,[(s.heap.push {cls:=.type "range",data:=.fields #[.int lo t,.int hi u,.int 1 v]}).objs.size],_,_,H,rfl,
  I1.kept (t':=tk) λb o e=>Heap.get?_push_of_some _ e,wb _ lo (hi-lo).toNat,?_,λb hb=>?_,q⟩
 ·have e1:lo+((0:Nat):Int)*1=lo:=by simp
  have e2:(((hi-lo).toNat:Nat):Int)-((0:Nat):Int)=Builtin.Range.rangeSize lo hi 1:=by rw[rangeSize_one];split<;>omega
  show IsRangeIter _ _ (lo+((0:Nat):Int)*1) ((((hi-lo).toNat:Nat):Int)-((0:Nat):Int)) 1;rw[e1,e2];exact Heap.get?_push_size _ rfl
 ·have e:b=(s.heap.push {cls:=.type "range",data:=.fields #[.int lo t,.int hi u,.int 1 v]}).objs.size:=by simpa using hb
  subst e;exact I1.rf (cC _) (I1.bx.fresh (cC _))
def Qv(ta:TA):TI:=λσ H R=>ta σ H λvs H1=>∃j:Int,vs=[.int j]/\-(2^62)<=j/\j<2^62/\R (Qt 0 j.toNat) H1
def Qw(ta:TA):TI:=λσ H R=>ta σ H λvs H1=>∃i j:Int,vs=[.int i,.int j]/\(-(2^62)<=i/\i<2^62/\-(2^62)<=j/\j<2^62)/\R (Qt i (j-i).toNat) H1
theorem Am{a:Expr}{ta:TA}{p pos:Pos}(hg:Gl X "range")(hm:X.mg "range" = none)(ha:PA X [a] ta)(hs:starEach [a] X.env=[(false,eval a X.env)]:=by rfl):PI X tg (.Call (.Name "range" p) [a] [] pos) (Qv ta):=by
 intro aa s σ H R I h;refine Call_ (gI I hg hm boot_range (Ah (bJ (ha pos aa s σ H _ I h) λus s1 ⟨vs,H1,I1,r1,q1⟩=>?_) hs rfl));obtain⟨j,e,q1,q2,q⟩:=q1;subst e;cases r1 with
 |cons r rr=>
  cases rr;obtain⟨t,rfl⟩:=r;exact call_range_1 (tY I1 (by omega) (by omega) q1 q2 (by simpa using q))
theorem An{a b:Expr}{ta:TA}{p pos:Pos}(hg:Gl X "range")(hm:X.mg "range" = none)(ha:PA X [a,b] ta)(hs:starEach [a,b] X.env=[(false,eval a X.env),(false,eval b X.env)]:=by rfl)(yo:starEach [b] X.env=[(false,eval b X.env)]:=by rfl) :
  PI X tg (.Call (.Name "range" p) [a,b] [] pos) (Qw ta):=by
 intro aa s σ H R I h;refine Call_ (gI I hg hm boot_range (Ah (bJ (ha pos aa s σ H _ I h) λus s1 ⟨vs,H1,I1,r1,q1⟩=>?_) (by rw[hs,yo]) (by rw[yo];rfl)))
 obtain⟨i,j,e,⟨q1,q2,q3,q4⟩,q⟩:=q1;subst e;cases r1 with
 |cons r rr=>
  cases rr with
  |cons r' rr=>
   cases rr;obtain⟨t,rfl⟩:=r;obtain⟨t',rfl⟩:=r';exact call_range_2 (tY I1 q1 q2 q3 q4 q)
def Wd(wi:TI)(g:TG)(tb:TS):TS:=λD σ H=>wi σ H λJ H1=>∃W:Nat->Nat->St->Hp->Prop,(∃m,W 0 m σ H1)/\∀i m σ H,W i m σ H ->
 (J.stop i H/\D.nx σ H)\/(J.go i H/\∃N:St->Hp->Prop,(∀σ' H',N σ' H'->∃m',m'<m/\W (i+1) m' σ' H')/\∀x H',J.yld i H x H'->g x σ H' λσ2 H2=>tb {D with nx:=N,ct:=N,bk:=D.nx} σ2 H2)
def mO(fp:BM)(h:Heap):c7:=fp.filterMap λb=>(h.get? b).map λo=>(b,o)
theorem gJ{fp:BM}{h:Heap}{b:Addr}{o:Obj}(hb:b∈fp)(e:h.get? b=some o):(b,o)∈mO fp h:=BJ.mpr ⟨b,hb,by rw[e];rfl⟩
theorem Ao{fp:BM}{h:Heap}{p:Addr×Obj}(hp:p∈mO fp h):p.1∈fp/\h.get? p.1=some p.2:=by
 obtain⟨b,hb,e⟩:=BJ.mp hp;cases q:h.get? b with
 |none=>rw[q]at e;cases e
 |some o=>
  rw[q]at e;have e':(b,o)=p:=ku.inj e;subst e';exact⟨hb,q⟩
theorem Inv.pinned{aa:c7}{σ:St}{H:Hp}{s:Shared}{fp:BM}(I:Inv X aa σ H s)(hf:∀b∈fp,mL X aa H b)(ho:∀b∈fp,∃o,s.heap.get? b=some o/\∀v,o.data≠.cell v):Inv X (aa++mO fp s.heap) σ H s:=
 I.yk λp hp=>(gn.mp hp).elim (λz=>I.pin p (mD _ z)) λz=>by
  obtain⟨hb,e⟩:=Ao z;obtain⟨f0,f1,f2,_⟩:=hf p.1 hb;obtain⟨o,e',d⟩:=ho p.1 hb;rw[e]at e';cases e';exact⟨e,f0,f1,f2,d⟩
theorem Inv.jK{aa pl:c7}{σ:St}{H:Hp}{s:Shared}(I:Inv X (aa++pl) σ H s):Inv X aa σ H s:=I.yk λp hp=>I.pin p (mD _ (JC _ hp))
theorem L_{iter:Expr}{body:Ee}{wi:TI}{g:TG}{tb:TS}{pos:Pos}(hp:PassesOwn (model X.prog X.w) X.A X.env X.xe)(hc:X.calm=true)(hi:PI X tg iter wi)(hg:PG X tg g)(hb:jH X body tb)
  (hs:∀x,foldedSetIterable iter X.env x=pure x:=by intro _;rfl):PS X (.For tg iter body [] pos) (Wd wi g tb):=by
 intro aa s σ H D I h;refine wpAny_For (bJ (hi aa s σ H _ I h) λv s1 h1=>bJ h1 λWa s2 h2=>?_) hs;obtain⟨it,fp,tn,J,H2,e,I2,T,Qx,f2,W,⟨m0,w0⟩,turn⟩:=h2;subst e;have wc:∀{H':Hp},(∀b∈fp,H' b=none)->∀b∈fp,mL X aa H' b:=λhn b hb=>⟨hn b hb,(f2 b hb).2⟩;refine codeAny_forLoop_any (λn s'=>∃i σ' H',Inv X aa σ' H' s'/\tn i s'.heap/\(∀b∈fp,H' b=none)/\W i n σ' H') ?_ m0 ⟨0,σ,H2,I2,Qx,λb hb=>(f2 b hb).1,w0⟩
 rintro n s3 ⟨i,σ3,H3,I3,st3,fr3,w3⟩
 rcases turn i n σ3 H3 w3 with⟨stop,qn⟩|⟨go,N,hN,step⟩
 ·refine wpAny_passesOwn hp (bJ (T.done X rfl rfl rfl hc i aa s3 σ3 H3 X.xe I3 (wc fr3) st3 stop) λr s4 zz=>?_)
  obtain⟨hr,I4⟩:=zz;subst hr;exact wpAny_execs_nil ⟨σ3,H3,I4,qn⟩
 ·refine wpAny_passesOwn hp (bJ (T.item X rfl rfl rfl hc i aa s3 σ3 H3 X.xe I3 (wc fr3) st3 go) λr s4 zz=>?_)
  obtain⟨u,hr,h4⟩:=zz;subst hr;refine wpAny_passesOwn hp (bJ h4 λ_ s5 zz=>?_);obtain⟨x,H5,I5,r5,y5,Gz,Vf⟩:=zz;have I5':=I5.pinned (wc Vf) (T.obj _ _ Gz);refine wpAny_passesOwn hp (bJ (hg _ s5 σ3 H5 x u _ I5' r5 (step x H5 y5)) λ_ s6 zz=>?_);obtain⟨σ6,H6,I6,q6⟩:=zz;refine wpAny_passesOwn hp (bJ (hb _ s6 σ6 H6 _ I6 q6) λf s7 q7=>?_);have again:∀{σ7:St}{H7:Hp},Inv X (aa++mO fp s5.heap) σ7 H7 s7->N σ7 H7->∃m,m<n/\∃i σ' H',Inv X aa σ' H' s7/\tn i s7.heap/\(∀b∈fp,H' b=none)/\W i m σ' H':=λ{σ7 H7} I7 n7=>by
   obtain⟨m',hm,w7⟩:=hN σ7 H7 n7;refine⟨m',hm,i+1,σ7,H7,I7.jK,T.keep _ _ _ Gz λb hb o e=>(I7.pin (b,o) (mD _ (mD _ (gJ hb e)))).1,λb hb=>?_,w7⟩;obtain⟨o,e,d⟩:=T.obj _ _ Gz b hb;exact(I7.pin (b,o) (mD _ (mD _ (gJ hb e)))).2.1
  cases f with
  |next=>obtain⟨σ7,H7,I7,n7⟩:=q7;exact again I7 n7
  |cont=>obtain⟨σ7,H7,I7,n7⟩:=q7;exact again I7 n7
  |brk=>obtain⟨σ7,H7,I7,q7⟩:=q7;exact⟨σ7,H7,I7.jK,q7⟩
  |ret v=>obtain⟨x7,σ7,H7,I7,r7,q7⟩:=q7;exact⟨x7,σ7,H7,I7.jK,r7,q7⟩
end
abbrev R2:=V->V->Hp->VK->Prop
def fR(X:Cx)(f:Value->Value->Sem Value)(r:R2):Prop:=
 ∀(aa:c7)(s:Shared)(σ:St)(H:Hp)(x y:V)(v u:Value)(Q:VK),Inv X aa σ H s->RelV x v->RelV y u->r x y H Q ->
  wpAny (model X.prog X.w) X.A (f v u) (EP X aa σ Q) X.xe s
def We(X:Cx)(f:Value->Sem Value)(r:V->Hp->VK->Prop):Prop:=
 ∀(aa:c7)(s:Shared)(σ:St)(H:Hp)(x:V)(v:Value)(Q:VK),Inv X aa σ H s->RelV x v->r x H Q ->
  wpAny (model X.prog X.w) X.A (f v) (EP X aa σ Q) X.xe s
def eY(X:Cx)(f:Value)(r:List V->Hp->VK->Prop):Prop:=
 ∀(aa:c7)(s:Shared)(σ:St)(H:Hp)(xs:List V)(us:B2)(Q:VK),Inv X aa σ H s->Vals xs us->r xs H Q ->
  wpAny (model X.prog X.w) X.A (call f us) (EP X aa σ Q) X.xe s
def Wf(X:Cx)(r:V->Hp->(Bool->Hp->Prop)->Prop):Prop:=
 ∀(aa:c7)(s:Shared)(σ:St)(H:Hp)(x:V)(v:Value)(Q:Bool->Hp->Prop),Inv X aa σ H s->RelV x v->r x H Q ->
  wpAny (model X.prog X.w) X.A (truthy v) (TP X aa σ Q) X.xe s
def Cq(r:R2)(ta tb:TE):TE:=λσ H Q=>ta σ H λx H1=>tb σ H1 λy H2=>r x y H2 Q
def Zg(r:V->Hp->VK->Prop)(ta:TE):TE:=λσ H Q=>ta σ H λx H1=>r x H1 Q
def rI(C:Int->Int->Prop)(g:Int->Int->V):R2:=λx y H Q=>∃i j,x=.int i/\y=.int j/\C i j/\Q (g i j) H
def Bp(g:Int->Int->V):R2:=λx y H Q=>∃i j,x=.int i/\y=.int j/\Q (g i j) H
def rU(g:Int->V):V->Hp->VK->Prop:=λx H Q=>∃i,x=.int i/\Q (g i) H
section
variable{X:Cx}{a c:Expr}{ta tb tc:TE}
theorem Ma(ha:PE X a ta)(hb:PE X b tb){aa:c7}{s:Shared}{σ:St}{H:Hp}{R:V->V->Hp->Prop}(I:Inv X aa σ H s)
  (h:ta σ H λx H1=>tb σ H1 λy H2=>R x y H2) {Q:Value->Shared->Prop} {f:Value->Value->Sem Value}
  (hf:∀v u s2 x y H2,Inv X aa σ H2 s2->RelV x v->RelV y u->R x y H2->wpAny (model X.prog X.w) X.A (f v u) Q X.xe s2) :
  wpAny (model X.prog X.w) X.A (eval a X.env) (λv s₁=>wpAny (model X.prog X.w) X.A (eval b X.env) (λu s₂=>wpAny (model X.prog X.w) X.A (f v u) Q X.xe s₂) X.xe s₁) X.xe s:=by
 refine bJ (ha aa s σ H _ I h) λv s1 zz=>?_;obtain⟨x,H1,I1,r1,q1⟩:=zz;refine bJ (hb aa s1 σ H1 _ I1 q1) λu s2 zz=>?_;obtain⟨y,H2,I2,r2,q2⟩:=zz;exact hf v u s2 x y H2 I2 r1 r2 q2
theorem mQ{op:Operator}{r:R2}(ho:fR X (binaryOp op) r)(ha:PE X a ta)(hb:PE X b tb):PE X (.BinOp a op b pos) (Cq r ta tb):=by
 intro aa s σ H Q I h;exact wpAny_BinOp (Ma ha hb I h λv u s2 x y H2 I2 rx ry q=>ho aa s2 σ H2 x y v u Q I2 rx ry q)
theorem Qy{op:UnaryOp}{r:V->Hp->VK->Prop}(ho:We X (unaryOp op) r)(ha:PE X a ta):PE X (.UnaryOp op a pos) (Zg r ta):=by
 intro aa s σ H Q I h;exact UnaryOp_ (bJ (ha aa s σ H _ I h) λv s1 ⟨x,H1,I1,r1,q1⟩=>ho aa s1 σ H1 x v Q I1 r1 q1)
theorem Vg{f:Value->Value->Sem Value}{C:Int->Int->Prop}{g:Int->Int->Int}
  (rule:∀(i j:Int)(t u:Tok)(s:Shared)(Q:Value->Shared->Prop)(E:Value->Shared->Prop),C i j->Q (.int (g i j) s.toks) {s with toks:=s.toks+1}->wpAny (model X.prog X.w) X.A (f (.int i t) (.int j u)) Q E s) :
  fR X f (rI C λi j=>.int (g i j)):=by
 intro aa s σ H x y v u Q I rx ry h;obtain⟨i,j,rfl,rfl,hc,q⟩:=h;obtain⟨t,rfl⟩:=rx;obtain⟨t',rfl⟩:=ry;exact rule i j t t' s _ _ hc ⟨.int (g i j),H,I.tok _,⟨_,rfl⟩,q⟩
theorem Qz{f:Value->Value->Sem Value}{g:Int->Int->Int}
  (rule:∀(i j:Int)(t u:Tok)(s:Shared)(Q:Value->Shared->Prop)(E:Value->Shared->Prop),Q (.int (g i j) s.toks) {s with toks:=s.toks+1}->wpAny (model X.prog X.w) X.A (f (.int i t) (.int j u)) Q E s) :
  fR X f (Bp λi j=>.int (g i j)):=by
 intro aa s σ H x y v u Q I rx ry h;obtain⟨i,j,rfl,rfl,q⟩:=h;obtain⟨t,rfl⟩:=rx;obtain⟨t',rfl⟩:=ry;exact rule i j t t' s _ _ ⟨.int (g i j),H,I.tok _,⟨_,rfl⟩,q⟩
theorem GA{f:Value->Value->Sem Value}{g:Int->Int->Bool}
  (rule:∀(i j:Int)(t u:Tok)(s:Shared)(Q:Value->Shared->Prop)(E:Value->Shared->Prop),Q (.bool (g i j)) s->wpAny (model X.prog X.w) X.A (f (.int i t) (.int j u)) Q E s) :
  fR X f (Bp λi j=>.bl (g i j)):=by
 intro aa s σ H x y v u Q I rx ry h;obtain⟨i,j,rfl,rfl,q⟩:=h;obtain⟨t,rfl⟩:=rx;obtain⟨t',rfl⟩:=ry;exact rule i j t t' s _ _ ⟨.bl (g i j),H,I,rfl,q⟩
def QA(i j:Int):Prop:=0<j/\j<1073741824
def QC(i j:Int):Prop:=0<=j/\j<=1000000/\i.natAbs<2^64
def Mb(i j:Int):Prop:=(-(2^64)<i/\i<2^64)\/(-(2^64)<j/\j<2^64)
theorem Mb.ok{i j:Int}(h:Mb i j):IntMulOk i j:=by
 rcases h with⟨h1,h2⟩|⟨h1,h2⟩
 ·exact .of_left (intBits_le_64 h1 h2)
 ·exact .of_right (intBits_le_64 h1 h2)
theorem Mc:fR X (binaryOp .Add) (Bp λi j=>.int (i+j)):=Qz λ_ _ _ _ _ _ _ q=>add_int q
theorem Me:fR X (binaryOp .Sub) (Bp λi j=>.int (i-j)):=Qz λ_ _ _ _ _ _ _ q=>sub_int q
theorem GC:fR X (binaryOp .FloorDiv) (rI QA λi j=>.int (i/j)):=Vg λi j _ _ _ _ _ hc q=>by
 have h1:(0:Int)<j:=hc.1;have h2:j<1073741824:=hc.2;exact floordiv_int (by omega) (by rw[Int.fdiv_eq_ediv_of_nonneg i (by omega)];exact q) (.inl (PyProof.noPylong_small (by omega)))
theorem Mf:fR X (binaryOp .Mod) (rI (λ_ j=>0<j) λi j=>.int (i % j)):=Vg λi j _ _ _ _ _ hc q=>by
 have h1:(0:Int)<j:=hc;exact mod_int' (by omega) (by rw[Int.fmod_eq_emod_of_nonneg i (by omega)];exact q)
theorem Mg:fR X (binaryOp .Pow) (rI QC λi j=>.int (i^j.toNat)):=Vg λ_ _ _ _ _ _ _ hc q=>pow_int_small hc.1 hc.2.1 hc.2.2 q
theorem unI{f:Value->Sem Value}{g:Int->Int}
  (rule:∀(i:Int)(t:Tok)(s:Shared)(Q:Value->Shared->Prop)(E:Value->Shared->Prop),Q (.int (g i) s.toks) {s with toks:=s.toks+1}->wpAny (model X.prog X.w) X.A (f (.int i t)) Q E s) :
  We X f (rU λi=>.int (g i)):=by
 intro aa s σ H x v Q I rx h;obtain⟨i,rfl,q⟩:=h;obtain⟨t,rfl⟩:=rx;exact rule i t s _ _ ⟨.int (g i),H,I.tok _,⟨_,rfl⟩,q⟩
theorem Mh:We X (unaryOp .USub) (rU λi=>.int (-i)):=unI λ_ _ _ _ _ q=>neg_int q
end
section
variable{X:Cx}{a c:Expr}{ta tb tc:TE}
theorem iG{aa:c7}{σ:St}{H:Hp}{s:Shared}{Q:VK}{k k':Bool}(I:Inv X aa σ H s)(q:Q (.bl k) H)(e:k=k'):EP X aa σ Q (.bool k') s:=by
 subst e;exact⟨.bl k,H,I,rfl,q⟩
theorem QD:fR X (compareOp .Lt) (Bp λi j=>.bl (decide (i<j))):=GA λ_ _ _ _ _ _ _ q=>lt_int q
theorem QE:fR X (compareOp .LtE) (Bp λi j=>.bl (decide (i<=j))):=GA λ_ _ _ _ _ _ _ q=>le_int q
theorem QF:fR X (compareOp .Gt) (Bp λi j=>.bl (decide (j<i))):=GA λ_ _ _ _ _ _ _ q=>gt_int q
theorem QG:fR X (compareOp .GtE) (Bp λi j=>.bl (decide (j<=i))):=GA λ_ _ _ _ _ _ _ q=>ge_int q
theorem Aq:fR X (compareOp .In) (λx y H Q=>∃i j,x=.str i/\y=.str j/\Q (.bl (!(Builtin.Str.occurrences j i 0 j.length 1).isEmpty)) H):=by
 intro aa s σ H x y v u Q I rx ry h;obtain⟨i,j,rfl,rfl,q⟩:=h;obtain⟨t,rfl⟩:=rx;obtain⟨t',rfl⟩:=ry;exact in_str (iG I q rfl)
theorem Mi:fR X (compareOp .Is) (λx y H Q=>y=.non/\Q (.bl (decide (x=.non))) H):=by
 intro aa s σ H x y v u Q I rx ry h;obtain⟨rfl,q⟩:=h;cases ry;refine is_none_gen (iG I q ?_);cases x<;>first
  |(cases rx;rfl)
  |(obtain⟨t,rfl⟩:=rx;rfl)
theorem GD:fR X (compareOp .IsNot) (λx y H Q=>y=.non/\Q (.bl (!decide (x=.non))) H):=by
 intro aa s σ H x y v u Q I rx ry h;obtain⟨rfl,q⟩:=h;cases ry;refine isnot_none_gen (iG I q ?_);cases x<;>first
  |(cases rx;rfl)
  |(obtain⟨t,rfl⟩:=rx;rfl)
theorem rj:fR X (compareOp .NotIn) (λx y H Q=>∃i j,x=.str i/\y=.str j/\Q (.bl (!(!(Builtin.Str.occurrences j i 0 j.length 1).isEmpty))) H):=by
 intro aa s σ H x y v u Q I rx ry h;obtain⟨i,j,rfl,rfl,q⟩:=h;obtain⟨t,rfl⟩:=rx;obtain⟨t',rfl⟩:=ry;exact notIn_str (iG I q rfl)
theorem fR.or{f:Value->Value->Sem Value}{r r':R2}(h:fR X f r)(h':fR X f r'):fR X f (λx y H Q=>r x y H Q\/r' x y H Q):=by
 intro aa s σ H x y v u Q I rx ry q;rcases q with q|q
 ·exact h aa s σ H x y v u Q I rx ry q
 ·exact h' aa s σ H x y v u Q I rx ry q
theorem jL{op:CmpOp}{r:R2}(ho:fR X (compareOp op) r)(ha:PE X a ta)(hb:PE X b tb)(hm:behindInMarks op b=false):PE X (.Compare a [op] [b] pos) (Cq r ta tb):=by
 intro aa s σ H Q I h;exact wpAny_Compare1 (Ma ha hb I h λv u s2 x y H2 I2 rx ry q=>ho aa s2 σ H2 x y v u Q I2 rx ry q) hm
def QH(t:TE):TT:=λσ H Q=>t σ H λx H'=>∃k,x=.bl k/\Q k H'
theorem jM{op:CmpOp}{r:R2}(ho:fR X (compareOp op) r)(ha:PE X a ta)(hb:PE X b tb)(hm:behindInMarks op b=false):PT X (.Compare a [op] [b] pos) (QH (Cq r ta tb)):=by
 intro aa s σ H Q I h;refine wpAny_isTrue_Compare1 (bJ (ha aa s σ H _ I h) λv s1 ⟨x,H1,I1,r1,q1⟩=>bJ (hb aa s1 σ H1 _ I1 q1) λu s2 ⟨y,H2,I2,r2,q2⟩=>
  bJ (ho aa s2 σ H2 x y v u _ I2 r1 r2 q2) λc s3 ⟨z,H3,I3,r3,k,e,q3⟩=>?_) hm
 subst e;cases r3;exact wpAny_truthy_bool ⟨H3,I3,q3⟩
def Mj(K:bu)(x:V)(H:Hp)(k:Bool):Prop:=
 match x with
 |.non=>k=false
 |.bl b=>k=b
 |.int i=>k=(i != 0)
 |.str y=>y.length<=sizeLine/\k=((y.length:Int) != 0)
 |.byt y=>y.size<=sizeLine/\k=((y.size:Int) != 0)
 |.ref p=>(∃xs,dh K H p xs/\k=!xs.isEmpty)\/(∃xs,k7 K H p xs/\k=!xs.isEmpty)\/∃aF,H p=some (.dK aF)/\k=!aF.isEmpty
 |_=>False
theorem wd{κ:Type}{aF:List (κ×V)}{vs:List (κ×Value)}(r:KV aF vs):(!vs.isEmpty)=!aF.isEmpty:=by
 cases r<;>rfl
theorem mR{xs:List V}{its:B2}(r:Vals xs its):(!its.toArray.isEmpty)=!xs.isEmpty:=by
 cases r<;>simp
theorem kB:(sizeLine:Nat)<2^63:=by rw[sizeLine_eq];decide
theorem Ml:Wf X (λx H Q=>∃k,Mj X.K x H k/\Q k H):=by
 intro aa s σ H x v Q I rx h;obtain⟨k,e,q⟩:=h;have hl:=kB;have hs:sizeLine=16777216:=sizeLine_eq;cases x with
 |non=>
  cases rx;have e':k=false:=e;subst e';exact truthy_none ⟨H,I,q⟩
 |bl b=>
  cases rx;have e':k=b:=e;subst e';exact wpAny_truthy_bool ⟨H,I,q⟩
 |int i=>
  obtain⟨t,rfl⟩:=rx;have e':k=(i != 0):=e;subst e';exact PySem.P.truthy_int ⟨H,I,q⟩
 |str y=>
  obtain⟨t,rfl⟩:=rx;obtain⟨hy,e'⟩:y.length<=sizeLine/\k=((y.length:Int) != 0):=e;subst e';exact PySem.P.truthy_str (by omega) ⟨H,I.tok _,q⟩
 |byt y=>
  obtain⟨t,rfl⟩:=rx;obtain⟨hy,e'⟩:y.size<=sizeLine/\k=((y.size:Int) != 0):=e;subst e';exact PySem.W.truthy_bytes (by omega) ⟨H,I.tok _,q⟩
 |ref p=>
  cases rx;have e':(∃xs,dh X.K H p xs/\k=!xs.isEmpty)\/(∃xs,k7 X.K H p xs/\k=!xs.isEmpty)\/∃aF,H p=some (.dK aF)/\k=!aF.isEmpty:=e;rcases e' with⟨xs,hx,e'⟩|⟨xs,hx,e'⟩|⟨aF,hx,e'⟩
  ·subst e'
   obtain⟨its,r,pl,hz⟩:=I.list hx;have bO:=r.length;exact wpAny_truthy_list pl.isList (by simp only[bX];omega) ⟨H,I.tok _,by rw[mR r];exact q⟩
  ·subst e'
   obtain⟨its,r,pl,hz⟩:=I.tuple hx;have bO:=r.length;exact truthy_tuple pl (by simp only[bX];omega) ⟨H,I.tok _,by rw[mR r];exact q⟩
  ·subst e'
   obtain⟨hz,hS,vs,r,m⟩:aF.length<=sizeLine/\(p == sysModules)=false/\∃vs,KV aF vs/\s.heap.DictOf (bw X.prog X.w) p vs:=I.bx p _ hx;have bO:aF.length=vs.length:=Paired.length r;exact wpAny_truthy_dict hS m (by omega) ⟨H,I.tok _,by rw[wd r];exact q⟩
 |_=>exact(show False from e).elim
theorem Cr(ha:PE X a ta)(he:∀fW,isTrue a X.env fW=(do let v <- fW;standAt a.pos;holding [v] (truthy v))) :
  PT X a (λσ H Q=>ta σ H λx H'=>∃k,Mj X.K x H' k/\Q k H'):=by
 intro aa s σ H Q I h;exact isTrue_plain (bJ (ha aa s σ H _ I h) λv s1 ⟨x,H1,I1,r1,q1⟩=>Ml aa s1 σ H1 x v Q I1 r1 q1) (he _)
theorem we:fR X (binaryOp .Add) (λx y H Q=>∃i j,x=.str i/\y=.str j/\i.length+j.length<=sizeLine/\Q (.str (i++j)) H):=by
 intro aa s σ H x y v u Q I rx ry h;obtain⟨i,j,rfl,rfl,hz,q⟩:=h;obtain⟨t,rfl⟩:=rx;obtain⟨t',rfl⟩:=ry;exact add_str (λt' tk=>⟨.str (i++j),H,I.tok _,⟨_,rfl⟩,q⟩) hz
theorem vals1{x:V}{us:B2}(r:Vals [x] us):∃u,us=[u]/\RelV x u:=by
 cases r with
 |cons r1 r2=>cases r2;exact⟨_,rfl,r1⟩
theorem vals2{x y:V}{us:B2}(r:Vals [x,y] us):∃u w',us=[u,w']/\RelV x u/\RelV y w':=by
 cases r with
 |cons r1 r2=>
  cases r2 with
  |cons r3 r4=>cases r4;exact⟨_,_,rfl,r1,r3⟩
theorem Cs:eY X (.builtin "abs") (λxs H Q=>∃i,xs=[.int i]/\Q (.int (if i<0 then -i else i)) H):=by
 intro aa s σ H xs us Q I r h;obtain⟨i,rfl,q⟩:=h;obtain⟨u,rfl,t,rfl⟩:=vals1 r;exact call_abs_int λu tk=>⟨.int (if i<0 then -i else i),H,I.tok _,⟨_,rfl⟩,q⟩
theorem rl:eY X (.type "str") (λxs H Q=>∃i,xs=[.int i]/\i.natAbs.log2<1920/\Q (.str (toString i)) H):=by
 intro aa s σ H xs us Q I r h;obtain⟨i,rfl,hz,q⟩:=h;obtain⟨u,rfl,t,rfl⟩:=vals1 r;exact PySem.P.str_of_int hz ⟨.str _,H,I.tok _,⟨_,rfl⟩,q⟩
def QI(K:bu)(x:V)(H:Hp)(n:Nat):Prop:=
 match x with
 |.str y=>y.length<=sizeLine/\n=y.length
 |.byt y=>y.size<=sizeLine/\n=y.size
 |.ref p=>(∃xs,dh K H p xs/\n=xs.length)\/∃xs,k7 K H p xs/\n=xs.length
 |_=>False
theorem tZ:eY X (.builtin "len") (λxs H Q=>∃x n,xs=[x]/\QI X.K x H n/\Q (.int n) H):=by
 intro aa s σ H xs us Q I r h;obtain⟨x,n,rfl,e,q⟩:=h;obtain⟨u,rfl,rx⟩:=vals1 r;have hl:=kB;have hs:sizeLine=16777216:=sizeLine_eq;cases x with
 |str y=>
  obtain⟨t,rfl⟩:=rx;obtain⟨hy,e'⟩:y.length<=sizeLine/\n=y.length:=e;subst e';exact len_str (by omega) ⟨.int _,H,I.tok _,⟨_,rfl⟩,q⟩
 |byt y=>
  obtain⟨t,rfl⟩:=rx;obtain⟨hy,e'⟩:y.size<=sizeLine/\n=y.size:=e;subst e';exact PySem.W.len_bytes (by omega) ⟨.int _,H,I.tok _,⟨_,rfl⟩,q⟩
 |ref p=>
  cases rx;have e':(∃xs,dh X.K H p xs/\n=xs.length)\/∃xs,k7 X.K H p xs/\n=xs.length:=e;rcases e' with⟨xs,hx,e'⟩|⟨xs,hx,e'⟩
  ·subst e'
   obtain⟨its,r',pl,hz⟩:=I.list hx;have bO:=r'.length;exact Calls.call_len_list pl.isList (by simp only[bX];omega) ⟨.int xs.length,H,I.tok _,⟨_,by simp only[bX];rw[bO]⟩,q⟩
  ·subst e'
   obtain⟨its,r',pl,hz⟩:=I.tuple hx;have bO:=r'.length;exact len_tuple pl (by simp only[bX];omega) ⟨.int xs.length,H,I.tok _,⟨_,by simp only[bX];rw[bO]⟩,q⟩
 |_=>exact(show False from e).elim
end
structure wg(h:Heap)(x dx C:Addr)(mA:Str->D1):Prop where
 obj:h.get? x=some (sV C dx)
 ns:h.Ns1 dx mA
 ne:dx≠x
theorem Ar{h:Heap}{dx:Addr}{mA:Str->D1}(n:h.Ns1 dx mA):∃od,h.get? dx=some od/\∀name,xS name od=some (mA name):=by
 obtain⟨o,es,ep,ho,hd,hk,_,hm⟩:=n;refine⟨o,ho,λname=>?_⟩;have e:=hm name;unfold nsFind findBy at e;rw[<- Array.find?_toList]at e;unfold xS;rw[hd];dsimp only;split
 ·rename_i y q
  rw[q]at e;exact congrArg some e
 ·rename_i q
  rw[q]at e;have a:es.toList.any (·.refKey)=false:=by
   rw[List.any_eq_false];intro y hy;obtain⟨z,t,Wg⟩:=hk y (Array.mem_toList_iff.mp hy);simp[DictEntry.refKey,Wg]
  have a':¬ es.toList.any (·.refKey)=true:=by rw[a];exact bZ
  rw[if_neg a'];exact congrArg some e
theorem wg.look{h:Heap}{x dx C:Addr}{mA:Str->D1}(I:wg h x dx C mA):∃od,PySem.W.InstAt h x (sV C dx) C (some od)/\∀name,xS name od=some (mA name):=
 let⟨od,ho,hl⟩:=Ar I.ns
 ⟨od,⟨I.obj,rfl,rfl,ho⟩,hl⟩
section
variable{prog:Program}{K:bu}{mA:Str->D1}{name:Str}{v:Value}
theorem get_map{expr:Bool}{Q:Value->Shared->Prop}(X:K.In s.heap)(I:wg s.heap x dx C mA)(hg:Bv K C name=true)(hh:xT K C=true)
  (ha:gi K (.ref C) name=some none) (hv:mA name=some v) (hv':Ju v=true) (h:Q v {s with toks:=s.toks+1}) :
  wpAny (model prog w) A (getAttr (.ref x) name expr) Q E s:=by
 obtain⟨od,J,hl⟩:=I.look;exact PySem.W.get_value X J (BA hg).1 (PySem.W.findObj_own hh ha rfl (by rw[hl,hv])) hv' h
theorem Ct{pl:Sem Bool}{Q:Value×B2->Shared->Prop}(X:K.In s.heap)(I:wg s.heap x dx C mA)(hg:Bv K C name=true)
  (hf:gi K (.ref C) name=some (some (.ref f))) (ht:Bw K (.ref f)=true) (hv:mA name=none) (h:Q (.ref f,[.ref x]) s) :
  wpAny (model prog w) A (getMethod (.ref x) name pl) Q E s:=by
 obtain⟨od,J,hl⟩:=I.look;exact PySem.W.method_fn X J (BA hg).1 (BA hg).2 hf (beq_iff_eq.mp ht) (by show(xS name od).map (·.isSome)=some false;rw[hl,hv];rfl) h
theorem GF{ns:Bi}{Q:Unit->Shared->Prop}(X:K.In s.heap)(I:wg s.heap x dx C mA)
  (hs:gi K (.ref C) "__setattr__" = some (some (.builtin "object.__setattr__"))) (hp:BB K C=true) (ht:BC K C name=some none) (hh:xT K C=true)
  (hw:PySem.Within mA ns) (hsz:ns.length<=sizeLine)
  (h:∀h',wg h' x dx C (λy=>if y=name then some v else mA y)->Heap.SameBut dx s.heap h'->Q () {s with heap:=h',toks:=s.toks+2}) :
  wpAny (model prog w) A (setAttr (.ref x) name v) Q E s:=by
 obtain⟨od,J,hl⟩:=I.look;refine PySem.W.set_plain X J hs (PySem.W.osa_open (s:={s with toks:=s.toks+1}) (r:=none) X J hp ht λb=>?_)
 obtain⟨cd,hc,PL⟩:=PySem.W.any_some hh;have hx:s.heap.get? x=some ⟨.ref C,some dx,.plain,#[]⟩:=I.obj;refine wpAny_bind (wpAny_pure (wpAny_bind (wpAny_bind (wpAny_loadPart hx (wpAny_bind (PySem.W.Looks.here (s:={s with toks:=s.toks+1}) (PySem.W.looks_clsIn X hc) ?_))))))
 rw[PL];refine wpAny_pure (a:=some dx) (wpAny_bind (wpAny_pure (wpAny_bind ?_)));refine wpAny_nsSet1 (s:={s with toks:=s.toks+1}) I.ns λh' Vh yo=>?_
 obtain⟨oD,esD,epD,hoD,hdD,hcD⟩:=Vh.count (PySem.Within.cons name v hw);refine wpAny_bind (wpAny_lookBehind hoD (by rw[hdD];exact pastItsLine_dict (gA hcD (by rw[bz];omega))) ?_)
 exact wpAny_pure (h _ ⟨(yo.2 _ (Ne.symm I.ne)).trans I.obj,Vh,I.ne⟩ yo)
theorem Cu{R:Result->Shared->Prop}{vs:B2}{kw:List (Str×Value)}(X:K.In s.heap)(hm:Bx K C=true)
  (hi:gi K (.ref C) "__init__" = some (some (.ref f))) (hf:PySem.W.typeIn K (.ref f)=some (.type "function"))
  (h:codeAny (model prog w) (A.under (.builtin "type.__call__" ⟨.ref C::vs,kw⟩)) (.call (.ref f) ⟨.ref (s.heap.objs.size+1)::vs,kw⟩) (PySem.W.InitBack (s.heap.objs.size+1) R)
   {s with heap:=(s.heap.push qL).push (sV C s.heap.objs.size)}) :
  codeAny (model prog w) A (.call (.ref C) ⟨vs,kw⟩) R s:=by
 obtain⟨hh,g,d,t,os⟩:=s;exact PySem.W.make_core (PySem.W.makes_of X hm) (PySem.W.looks_findIn X hi) (λself=>PySem.W.bind_fn X self hf) (.inl rfl) h
end
def c8(f:Str)(v:V):List (Str×V)->List (Str×V)
 |[]=>[(f,v)]
 |(g,x)::r=>if g=f then(g,v)::r else(g,x)::c8 f v r
theorem k8(f g:Str)(v:V):∀fs:List (Str×V),(c8 f v fs).lookup g=if g=f then some v else fs.lookup g
 |[]=>by
  show lD g [(f,v)]=_;by_cases h:g=f
  ·have hb:(g == f)=true:=beq_iff_eq.mpr h
   simp only[lD,hb,if_pos h]
  ·have hb:(g == f)=false:=beq_eq_false_iff_ne.mpr h
   simp only[lD,hb,if_neg h]
 |(k,x)::r=>by
  have ih:=k8 f g v r;rw[show c8 f v ((k,x)::r)=(if k=f then(k,v)::r else(k,x)::c8 f v r)from rfl]
  by_cases hk:k=f
  ·rw[if_pos hk]
   by_cases h:g=k
   ·have hb:(g == k)=true:=beq_iff_eq.mpr h
    simp only[lD,hb,if_pos (h.trans hk)]
   ·have hb:(g == k)=false:=beq_eq_false_iff_ne.mpr h
    simp only[lD,hb,if_neg (λe:g=f=>h (e.trans hk.symm))]
  ·rw[if_neg hk]
   by_cases h:g=k
   ·have hb:(g == k)=true:=beq_iff_eq.mpr h
    simp only[lD,hb,if_neg (λe:g=f=>hk (h.symm.trans e))]
   ·have hb:(g == k)=false:=beq_eq_false_iff_ne.mpr h
    simp only[lD,hb];exact ih
theorem kC(f:Str)(v:V):∀fs:List (Str×V),f∈(c8 f v fs).map (·.1)/\∀g,g∈fs.map (·.1)->g∈(c8 f v fs).map (·.1)
 |[]=>⟨by simp[c8],λg h=>by simp at h⟩
 |(k,x)::r=>by
  obtain⟨i1,i2⟩:=kC f v r;rw[show c8 f v ((k,x)::r)=(if k=f then(k,v)::r else(k,x)::c8 f v r)from rfl]
  by_cases hk:k=f
  ·rw[if_pos hk]
   subst hk;exact⟨by simp,λg h=>by simpa using h⟩
  ·rw[if_neg hk]
   refine⟨?_,λg h=>?_⟩
   ·rw[cU]
    exact ez _ i1
   ·rw[cU]at h ⊢
    rcases cu.mp h with e|e
    ·exact cu.mpr (.inl e)
    ·exact ez _ (i2 g e)
theorem k9(f:Str)(v:V):∀fs:List (Str×V),(c8 f v fs).length<=fs.length+1
 |[]=>by simp[c8]
 |(k,x)::r=>by
  have ih:=k9 f v r;rw[show c8 f v ((k,x)::r)=(if k=f then(k,v)::r else(k,x)::c8 f v r)from rfl]
  by_cases hk:k=f
  ·rw[if_pos hk,bz,bz];omega
  ·rw[if_neg hk,bz,bz];omega
theorem iy.some_of{v:V}{o:D1}(r:iy (some v) o):∃u,o=some u/\RelV v u:=by
 cases o with
 |none=>exact(show False from r).elim
 |some u=>exact⟨u,rfl,r⟩
theorem iy.none_of{o:D1}(r:iy none o):o=none:=by
 cases o with
 |none=>rfl
 |some u=>exact(show False from r).elim
theorem As{v:V}{u:Value}(r:RelV v u):Ju u=true:=by
 cases v with
 |non=>cases(show u=Value.none from r);rfl
 |bl b=>cases(show u=Value.bool b from r);rfl
 |int i=>obtain⟨t,e⟩:=(show ∃t,u=Value.int i t from r);cases e;rfl
 |str x=>obtain⟨t,e⟩:=(show ∃t,u=Value.str x t from r);cases e;rfl
 |byt b=>obtain⟨t,e⟩:=(show ∃t,u=Value.bytes b t from r);cases e;rfl
 |flt b=>obtain⟨t,e⟩:=(show ∃t,u=Value.float b t from r);cases e;rfl
 |ref a=>cases(show u=Value.ref a from r);rfl
 |ty n=>cases(show u=Value.type n from r);rfl
section
variable{fs pY:List (Str×V)}
theorem jN(bx:jC P w H h)(e:H a=some (.ins C dx fs)):∃mA,wg h a dx C mA/\(∀f,iy (fs.lookup f) (mA f))/\PySem.Within mA (fs.map (·.1))/\fs.length<=1000/\H dx=some (.own a):=by
 obtain⟨d,z,ne,ob,mA,n,r,q⟩:=(show bQ P w H h a (.ins C dx fs)from bx a _ e);exact⟨mA,⟨ob,n,ne⟩,r,q,z,d⟩
end
structure pC(K:bu)(C:Addr):Prop where
 pg:Bv K C Str.empty=true
 hd:xT K C=true
 po:BB K C=true
 sa:gi K (.ref C) "__setattr__" = some (some (.builtin "object.__setattr__"))
theorem pC.get{K:bu}{C:Addr}(c:pC K C)(f:Str):Bv K C f=true:=c.pg
def eu(K:bu)(C:Addr)(f:Str):Prop:=gi K (.ref C) f=some none
theorem eu.QJ{K:bu}{C:Addr}{f:Str}(n:eu K C f):BC K C f=some none:=by
 unfold BC;rw[show gi K (.ref C) f=some none from n];rfl
structure Meth(K:bu)(C:Addr)(m:Str)(f:Addr):Prop where
 at_:gi K (.ref C) m=some (some (.ref f))
 fn:Bw K (.ref f)=true
 kp:oY K (.ref f)=true
section
variable{X:Cx}{σ:St}{fs:List (Str×V)}{f:Str}{v:V}
theorem mS{b:Bool}{Q:Value->Shared->Prop}(I:Inv X aa σ H s)(e:H a=some (.ins C dx fs))(c:pC X.K C)(n:eu X.K C f)(l:fs.lookup f=some v)
  (h:∀u s',Inv X aa σ H s'->RelV v u->Q u s'):wpAny (model X.prog X.w) A (getAttr (.ref a) f b) Q E s:=by
 obtain⟨mA,O,r,_,_,_⟩:=jN I.bx e;obtain⟨u,hu,ru⟩:=iy.some_of (v:=v) (o:=mA f) (by rw[<- l];exact r f)
 exact get_map I.jG O (c.get f) c.hd n hu (As ru) (h u _ (I.tok _) ru)
theorem mT{m:Str}{g:Addr}{pl:Sem Bool}{Q:Value×B2->Shared->Prop}(I:Inv X aa σ H s)(e:H a=some (.ins C dx fs))(c:pC X.K C)(k:Meth X.K C m g)(l:fs.lookup m=none)
  (h:Q (.ref g,[.ref a]) s):wpAny (model X.prog X.w) A (getMethod (.ref a) m pl) Q E s:=by
 obtain⟨mA,O,r,_,_,_⟩:=jN I.bx e;have hn:mA m=none:=iy.none_of (by rw[<- l];exact r m)
 exact Ct I.jG O (c.get m) k.at_ k.fn hn h
theorem mU{y:V}{u:Value}{Q:Unit->Shared->Prop}(I:Inv X aa σ H s)(e:H a=some (.ins C dx fs))(c:pC X.K C)(n:eu X.K C f)(hl:fs.length<1000)(ry:RelV y u)
  (h:∀s',Inv X aa σ (upd H a (.ins C dx (c8 f y fs))) s'->Q () s'):wpAny (model X.prog X.w) A (setAttr (.ref a) f u) Q E s:=by
 obtain⟨mA,O,r,wi,_,ho⟩:=jN I.bx e;have hz:(fs.map (·.1)).length<=sizeLine:=by rw[bF,sizeLine_eq];omega
 refine GF I.jG O c.sa c.po n.QJ c.hd wi hz λh' O' sb=>h _ ?_;have hd:∃o,h'.get? dx=some o:=let⟨o,_,_,e',_⟩:=O'.ns;⟨o,e'⟩;refine I.write (x:=a) (e:=dx) (by rw[e];exact True.intro) (.inr ho) (λb q hb z=>(sb.2 b hb).trans z) hd ?_
 refine⟨by rw[aq O.ne];exact ho,?_,O.ne,O'.obj,_,O'.ns,λg=>?_,λg hg=>?_⟩
 ·have:=k9 f y fs;omega
 ·show iy ((c8 f y fs).lookup g) (if g=f then some u else mA g)
  rw[k8];by_cases q:g=f
  ·rw[if_pos q,if_pos q];exact ry
  ·rw[if_neg q,if_neg q];exact r g
 ·by_cases q:g=f
  ·rw[q];exact(kC f y fs).1
  ·refine(kC f y fs).2 g (wi g λz=>hg ?_)
   show(if g=f then some u else mA g)=none
   rw[if_neg q];exact z
theorem Inv.made(I:Inv X aa σ H s):Inv X aa σ (upd (upd H s.heap.objs.size (.own (s.heap.objs.size+1))) (s.heap.objs.size+1) (.ins C s.heap.objs.size []))
  {s with heap:=(s.heap.push qL).push (sV C s.heap.objs.size)}:=by
 have e1:(s.heap.push qL).get? s.heap.objs.size=some qL:=Heap.get?_push_size s.heap rfl;have e2:((s.heap.push qL).push (sV C s.heap.objs.size)).get? (s.heap.objs.size+1)=some (sV C s.heap.objs.size):=by
  have:=Heap.get?_push_size (s.heap.push qL) (o:=sV C s.heap.objs.size) rfl
  rwa [Heap.size_push]at this
 have e3:(s.heap.push qL).Ns s.heap.objs.size (λ_=>none):=⟨qL,#[],_,e1,rfl,(λe he=>absurd he (by simp)),λ_=>rfl⟩
 have I1:=I.laid (a:=s.heap.objs.size) (o:=.own (s.heap.objs.size+1)) (h':=s.heap.push qL) (t':=s.toks) (λb u q=>Heap.get?_push_of_some _ q) (cC _) ⟨_,e1⟩;refine I1.laid (a:=s.heap.objs.size+1) (o:=.ins C s.heap.objs.size []) (t':=s.toks) (λb u q=>Heap.get?_push_of_some _ q) (tu (Heap.size_push _ _)) ?_;have ne:s.heap.objs.size≠s.heap.objs.size+1:=fk (vW _);refine⟨by rw[aq ne,ah],i6 _,ne,e2,λ_=>none,(Heap.Ns1.of_empty e3).at λo q=>Heap.get?_push_of_some _ q,λ_=>True.intro,λy hy=>absurd rfl hy⟩
theorem GG{prog:Program}{w:World}{env:Env}{e:Expr}{f:Str}{pos:Pos}{s:Shared}{Q:Value->Shared->Prop}(hb:attributeBase e f env (eval e env)=eval e env)
  (h:wpAny (model prog w) A (eval e env) (λo s₁=>wpAny (model prog w) A (getAttr o f true) Q E s₁) E s):wpAny (model prog w) A (eval (.Attribute e f pos) env) Q E s:=
 Attribute_any_ h (by rw[arm_eval_Attribute,hb])
end
def Wh(K:bu)(ta:TE)(f:Str):TE:=λσ H Q=>ta σ H λx H1=>∃a C dx fs v,x=.ref a/\H1 a=some (.ins C dx fs)/\pC K C/\eu K C f/\fs.lookup f=some v/\Q v H1
def QK(K:bu)(ta tv:TE)(f:Str):TS:=λD σ H=>tv σ H λy H1=>ta σ H1 λx H2=>∃a C dx fs,x=.ref a/\H2 a=some (.ins C dx fs)/\pC K C/\eu K C f/\fs.length<1000 /\
 D.nx σ (upd H2 a (.ins C dx (c8 f y fs)))
def QM(X:Cx)(op:Operator)(rd:V->V->Hp->VK->Prop):Prop:=
 ∀(aa:c7)(s:Shared)(σ:St)(H:Hp)(x y:V)(u v:Value)(Q:VK),Inv X aa σ H s->RelV x u->RelV y v->rd x y H Q->wpAny (model X.prog X.w) X.A (inplaceOp op u v) (EP X aa σ Q) X.xe s
def GH(K:bu)(ta tv:TE)(rd:V->V->Hp->VK->Prop)(f:Str):TS:=λD σ H=>ta σ H λx H1=>∃a C dx fs v,x=.ref a/\H1 a=some (.ins C dx fs)/\pC K C/\eu K C f/\fs.lookup f=some v /\
 tv σ H1 λy H2=>rd v y H2 λz H3=>∃Vi pY,H3 a=some (.ins C Vi pY)/\pY.length<1000/\D.nx σ (upd H3 a (.ins C Vi (c8 f z pY)))
section
variable{X:Cx}{value:Expr}{f:Str}{b9 lH:Pos}{ta tv:TE}
theorem Cv(he:PE X e ta)(hb:attributeBase e f X.env (eval e X.env)=eval e X.env):PE X (.Attribute e f pos) (Wh X.K ta f):=by
 intro aa s σ H Q I h;refine GG hb (bJ (he aa s σ H _ I h) λu s1 zz=>?_);obtain⟨x,H1,I1,rx,a,C,dx,fs,v,ex,ea,c,n,l,q⟩:=zz;subst ex
 obtain rfl:u=Value.ref a:=rx
 exact mS I1 ea c n l λu' s2 I2 ru=>⟨v,H1,I2,ru,q⟩
theorem wj(ha:PE X o ta)(hv:PE X value tv)(hs:swapsWith value (some (.Attribute o f b9)) pos.line X.env=pure false):PS X (.Assign [.Attribute o f b9] value pos) (QK X.K ta tv f):=by
 intro aa s σ H D I h;refine plainObj_wpAny_Assign_Attribute (bJ (hv aa s σ H _ I h) λu s1 ⟨y,H1,I1,ry,q⟩=>bJ (ha aa s1 σ H1 _ I1 q) λov s2 ⟨x,H2,I2,rx,a,C,dx,fs,ex,ea,c,n,l,q2⟩=>?_) hs;subst ex
 obtain rfl:ov=Value.ref a:=rx
 exact mU I2 ea c n l ry λs3 I3=>⟨σ,_,I3,q2⟩
theorem Au{op:Operator}{rd:V->V->Hp->VK->Prop}(ha:PE X o ta)(hv:PE X value tv)(hop:QM X op rd):PS X (.AugAssign (.Attribute o f lH) op value pos) (GH X.K ta tv rd f):=by
 intro aa s σ H D I h;refine wpAny_AugAssign_AttributeAny (bJ (ha aa s σ H _ I h) λov s1 zz=>?_);obtain⟨x,H1,I1,rx,a,C,dx,fs,v,ex,ea,c,n,l,q⟩:=zz;subst ex
 obtain rfl:ov=Value.ref a:=rx
 refine mS I1 ea c n l λu s2 I2 ru=>bJ (hv aa s2 σ H1 _ I2 q) λw3 s3 ⟨y,H2,I3,ry,q3⟩=>bJ (hop aa s3 σ H2 v y u w3 _ I3 ru ry q3) λw4 s4 zz=>?_;obtain⟨z,H3,I4,rz,Vi,pY,ea',l',q4⟩:=zz;exact mU I4 ea' c n l' rz λs5 I5=>⟨σ,_,I5,q4⟩
def Wi:V->V->Hp->VK->Prop:=λx y H Q=>∃i j,x=.int i/\y=.int j/\Q (.int (i+j)) H
theorem Mm:QM X .Add Wi:=by
 rintro aa s σ H x y u v Q I rx ry ⟨i,j,rfl,rfl,q⟩
 obtain⟨t,rfl⟩:=(show ∃t,u=Value.int i t from rx);obtain⟨t',rfl⟩:=(show ∃t',v=Value.int j t' from ry);exact PyProof.Rows.iadd_int ⟨.int (i+j),H,I.tok _,⟨_,rfl⟩,q⟩
end
section
variable{X:Cx}{σ:St}{Q:Value->Shared->Prop}{c:Value}{b:Bool}
inductive i8(K:bu)(H:Hp):V->Value->Prop where
 |non:i8 K H .non (.type "NoneType")
 |bl (x:Bool):i8 K H (.bl x) (.type "bool")
 |int (i:Int):i8 K H (.int i) (.type "int")
 |str (x:Str):i8 K H (.str x) (.type "str")
 |flt (x:UInt64):i8 K H (.flt x) (.type "float")
 |lst {a:Addr} {xs:List V} (e:H a=some (.lst xs)):i8 K H (.ref a) (.type "list")
 |iU {a:Addr} {o:Obj} {xs:List V} (e:H a=some (.iU o (.lst xs))):i8 K H (.ref a) (.type "list")
 |tup {a:Addr} {xs:List V} (e:k7 K H a xs):i8 K H (.ref a) (.type "tuple")
 |dK {a:Addr} {aF:List (Key×V)} (e:H a=some (.dK aF)):i8 K H (.ref a) (.type "dict")
 |dT {a:Addr} {aF:List (List Key×V)} (e:H a=some (.dT aF)):i8 K H (.ref a) (.type "dict")
 |ins {a C dx:Addr} {fs:List (Str×V)} (e:H a=some (.ins C dx fs)) (cl:pC K C) (ha:gi K (.ref C) "__class__" = some (some (.builtin "object.__class__")))
   (hn:xU K (.builtin "object.__class__") "__get__" = some (some (.builtin "getset_descriptor.__get__"))) (sO:xV K (.builtin "object.__class__")=some true)
   (hm:xW K C (.type "object")=some true):i8 K H (.ref a) (.ref C)
theorem qa{x:V}{u t:Value}(I:Inv X aa σ H s)(rx:RelV x u)(ty:i8 X.K H x t)(e:qM X.K t c=some b)(h:∀tk,Q (.bool b) {s with toks:=tk}) :
  wpAny (model X.prog X.w) A (call (.builtin "isinstance") [u,c]) Q E s:=by
 cases ty with
 |non=>cases(show u=Value.none from rx);exact mC PySem.W.kitx_none I.jG True.intro e (λz=>nomatch z) h
 |bl y=>cases(show u=Value.bool y from rx);exact mC PySem.W.kitx_bool I.jG True.intro e (λz=>nomatch z) h
 |int i=>obtain⟨t,q⟩:=(show ∃t,u=Value.int i t from rx);cases q;exact mC PySem.W.kitx_int I.jG True.intro e (λz=>nomatch z) h
 |str y=>obtain⟨t,q⟩:=(show ∃t,u=Value.str y t from rx);cases q;exact mC PySem.W.kitx_str I.jG True.intro e (λz=>nomatch z) h
 |flt y=>obtain⟨t,q⟩:=(show ∃t,u=Value.float y t from rx);cases q;exact mC PySem.W.kitx_float I.jG True.intro e (λz=>nomatch z) h
 | @lst a xs ea=>
  cases(show u=Value.ref a from rx);obtain⟨_,_,n,_,h1⟩:=(show bQ X.prog X.w H s.heap a (.lst xs)from I.bx a _ ea);exact mC Jv I.jG ⟨_,h1,rfl⟩ e (λz=>nomatch z) h
 | @iU a ob xs ea=>
  cases(show u=Value.ref a from rx);obtain⟨_,_,_,n,_,h1⟩:=(show bQ X.prog X.w H s.heap a (.iU ob (.lst xs))from I.bx a _ ea);exact mC Jv I.jG ⟨_,h1,rfl⟩ e (λz=>nomatch z) h
 | @tup a xs ea=>
  cases(show u=Value.ref a from rx);obtain⟨_,_,p,_⟩:=I.tuple ea;obtain⟨o,h1,h2,_⟩:=p;exact mC PySem.W.kitx_tuple I.jG ⟨o,h1,h2⟩ e (λz=>nomatch z) h
 | @dK a aF ea=>
  cases(show u=Value.ref a from rx);obtain⟨_,_,vs,_,p⟩:=(show bQ X.prog X.w H s.heap a (.dK aF)from I.bx a _ ea);obtain⟨o,es,ep,h1,h2,_⟩:=p;exact mC Jw I.jG ⟨o,h1,h2.1⟩ e (λz=>nomatch z) h
 | @dT a aF ea=>
  cases(show u=Value.ref a from rx);obtain⟨_,_,xs,_,o,es,ep,h1,h2,_⟩:=(show bQ X.prog X.w H s.heap a (.dT aF)from I.bx a _ ea);exact mC Jw I.jG ⟨o,h1,h2.1⟩ e (λz=>nomatch z) h
 | @ins a C dx fs ea cl ha hn sO hm=>
  cases(show u=Value.ref a from rx);obtain⟨mA,O,_⟩:=jN I.bx ea;obtain⟨od,J,_⟩:=O.look;exact mC (Jx (cl.get _) cl.hd ha hn sO hm) I.jG J e (λz=>nomatch z) h
end
structure bC(k:Nat)(A:Around):Prop where
 hd:A.handled=none
 dp:A.depth+3*k+5<recursionLimit
 un:A.units+16*k+200<cLine
theorem bC.mono{j k:Nat}{A:Around}(r:bC k A)(h:j<=k):bC j A:=⟨r.hd,by have:=r.dp;omega,by have:=r.un;omega⟩
theorem bC.deeper{k:Nat}{A:Around}(r:bC (k+1) A)(env:Env):bC k (A.deeper env):=
 ⟨r.hd,by have:=r.dp;show A.depth+1+3*k+5<_;omega,by have:=r.un;show A.units+3+16*k+200<_;omega⟩
theorem wm{A:Around}{C:Addr}{us:B2}{kw:List (Str×Value)}:(A.under (.builtin "type.__call__" ⟨.ref C::us,kw⟩)).depth=A.depth+1:=by
 first|rfl|simp[Around.under,Code.weight,Code.isCreation,Code.isGuard,Code.isCaller,Code.frames,Code.isFrame,guardIds]
theorem wo{A:Around}{C:Addr}{us:B2}{kw:List (Str×Value)}:(A.under (.builtin "type.__call__" ⟨.ref C::us,kw⟩)).units=A.units+1:=by
 first|rfl|simp[Around.under,Code.cUnits,Code.frames,Code.isFrame]
theorem bC.make{k:Nat}{A:Around}(r:bC (k+1) A)(C:Addr)(us:B2)(kw:List (Str×Value)):bC k (A.under (.builtin "type.__call__" ⟨.ref C::us,kw⟩)):=
 ⟨r.hd,by have:=r.dp;rw[wm];omega,by have:=r.un;rw[wo];omega⟩
theorem bC.depth{k:Nat}{A:Around}(r:bC k A):A.depth<recursionLimit:=by have:=r.dp;omega
theorem bC.units{k:Nat}{A:Around}(r:bC k A):A.units+64<cLine:=by have:=r.un;omega
def GI:TA:=λ_ H Q=>Q [] H
def QN(ta:TE)(tr:TA):TA:=λσ H Q=>ta σ H λx H1=>tr σ H1 λxs H2=>Q (x::xs) H2
section
variable{X:Cx}{te:TE}{t:TA}
theorem cP:PA X [] GI:=λ_ _ _ _ H Q I h=>Calls.spliced_nil ⟨[],H,I,.nil,h⟩
theorem aV(ha:PE X e te)(hr:PA X es t)(hs:starEach (e::es) X.env=(false,eval e X.env)::starEach es X.env:=by rfl):PA X (e::es) (QN te t):=by
 intro pos aa s σ H Q I h;rw[hs];show wpAny _ _ (spliced ((false,eval e X.env)::backTo pos (starEach es X.env))) _ _ s;refine Calls.spliced_cons (bJ (ha aa s σ H _ I h) λu s1 zz=>?_);obtain⟨x,H1,I1,r1,q1⟩:=zz;exact bJ (hr pos aa s1 σ H1 _ I1 q1) λus s2 ⟨xs,H2,I2,r2,q2⟩=>⟨x::xs,H2,I2,.cons r1 r2,q2⟩
def Wj(t:TA):TE:=λσ H Q=>t σ H λxs H1=>xs.length<=sizeLine/\∀p,H1 p=none->Q (.ref p) (upd H1 p (.tup xs))
def Wk(t:TA):TE:=λσ H Q=>t σ H λxs H1=>xs.length<=sizeLine/\∀p,H1 p=none->Q (.ref p) (upd H1 p (.lst xs))
theorem Cw{x1}(h:PA X es t):PE X (.Tuple es x1 pos) (Wj t):=by
 intro aa s σ H Q I hq;refine wpAny_Tuple_spliced (bJ (h pos aa s σ H _ I hq) λus s1 ⟨xs,H1,I1,r,z,q⟩=>⟨by rw[<- r.length];exact z,?_⟩)
 have hf:H1 s1.heap.objs.size=none:=I1.bx.fresh (cC _);refine⟨.ref s1.heap.objs.size,upd H1 s1.heap.objs.size (.tup xs),I1.laid (t':=s1.toks) (λb u e=>Heap.get?_push_of_some _ e) (cC _) ?_,rfl,q _ hf⟩;exact⟨z,us,r,⟨_,Heap.get?_push_size _ rfl,rfl,_,rfl⟩⟩
theorem Cy(h:PA X es t):PE X (.List es pos) (Wk t):=by
 intro aa s σ H Q I hq;refine wpAny_List_spliced (bJ (h pos aa s σ H _ I hq) λus s1 ⟨xs,H1,I1,r,z,q⟩=>⟨by rw[<- r.length];exact z,?_⟩)
 have hf:H1 s1.heap.objs.size=none:=I1.bx.fresh (cC _);refine⟨.ref s1.heap.objs.size,upd H1 s1.heap.objs.size (.lst xs),I1.laid (t':=s1.toks) (λb u e=>Heap.get?_push_of_some _ e) (cC _) ?_,rfl,q _ hf⟩;exact⟨z,us,0,r,Heap.get?_push_size _ rfl⟩
end
abbrev Sp:=List V->Hp->VK->XK->Prop
abbrev Cz:=List Env->Hp->Shared->XK->Value->Shared->Prop
structure wu(P:Program)(w:World)(K:bu)(mg:Str->D1)(base:Heap)(A:Around)(outer:List Env)(s:Shared)(H:Hp):Prop where
 frames:A.frames=some outer
 mod:Mod K mg base
 bs:∀b o,base.get? b=some o->s.heap.get? b=some o/\H b=none
 bsz:base.objs.size<=s.heap.objs.size
 lG:s.heap.FunFrames base outer
 frf:∀b∈Cg outer,H b=none
 bx:jC P w H s.heap
 bare:AllBare s.gens
def CE(outer:List Env)(P:Program)(w:World)(H:Hp)(s:Shared)(Q:VK)(u:Value)(s':Shared):Prop:=
 ∃v H',s'.os=s.os/\AllBare s'.gens/\Un (Cg outer) [] H H' s.heap s'.heap/\jC P w H' s'.heap/\RelV v u/\Q v H'
def CR(CX:Cz)(outer:List Env)(P:Program)(w:World)(H:Hp)(s:Shared)(Q:VK)(E:XK)(r:Result)(s':Shared):Prop:=
 match r with
 |.ok (.ret u)=>CE outer P w H s Q u s'
 |.ok _=>False
 |.error e=>CX outer H s E e s'
structure dH(P:Program)(w:World)(K:bu)(mg:Str->D1)(base:Heap)(CX:Cz)(k:Nat)(f:Addr)(fd:FuncData)(ps:Bi)(sp:Sp):Prop where
 len:∀vs H Q E,sp vs H Q E->vs.length=ps.length
 run:∀(A:Around)(outer:List Env)(s:Shared)(H:Hp)(args:Args)(us:B2)(vs:List V)(Q:VK)(E:XK),bC k A->wu P w K mg base A outer s H->BindsTo s fd args (ps.zip us)->Vals vs us->sp vs H Q E ->
  codeAny (model P w) A (.call (.ref f) args) (CR CX outer P w H s Q E) s
theorem dH.imp{P:Program}{w:World}{K:bu}{mg:Str->D1}{base:Heap}{CX:Cz}{k:Nat}{f:Addr}{fd:FuncData}{ps:Bi}{sp Zh:Sp}(F:dH P w K mg base CX k f fd ps sp)
  (h:∀vs H Q E,Zh vs H Q E->sp vs H Q E):dH P w K mg base CX k f fd ps Zh:=
 ⟨λvs H Q E q=>F.len vs H Q E (h _ _ _ _ q),λA outer s H args us vs Q E hr he hb hv hs=>F.run A outer s H args us vs Q E hr he hb hv (h _ _ _ _ hs)⟩
theorem wu.make{P:Program}{w:World}{K:bu}{mg:Str->D1}{base:Heap}{A:Around}{outer:List Env}{s:Shared}{H:Hp}(e:wu P w K mg base A outer s H)(C:Addr)(us:B2)(kw:List (Str×Value)) :
  wu P w K mg base (A.under (.builtin "type.__call__" ⟨.ref C::us,kw⟩)) outer s H:=⟨by first|exact e.frames|(simpa[Around.under,Code.envs,Code.isFrame,pushEnvs]using e.frames),e.mod,e.bs,e.bsz,e.lG,e.frf,e.bx,e.bare⟩
section
variable{X:Cx}{σ:St}{s':Shared}
theorem Inv.QO(I:Inv X aa σ H s):wu X.prog X.w X.K X.mg X.base X.A X.stack s H:=
 ⟨I.ok.frames,I.ok.mod,I.bs,gA I.ok.bsz I.sz,I.stack,I.yj,I.bx,I.bare⟩
theorem Inv.after{Q:VK}{u:Value}(I:Inv X aa σ H s)(h:CE X.stack X.prog X.w H s Q u s'):EP X aa σ Q u s':=by
 obtain⟨v,H',os,bare,un,bx,r,q⟩:=h;obtain⟨hh,g,d,t,os'⟩:=s'
 obtain rfl:os'=s.os:=os
 exact⟨v,H',I.call (h':=hh) (g':=g) (d':=d) (t':=t) (ch:=[]) un bx bare (λb z=>absurd z (by simp)),r,q⟩
end
def Kl(sp:Sp)(gq:List V)(E:XK)(t:TA):TE:=λσ H Q=>t σ H λvs H1=>sp (vs++gq) H1 Q E
def yp(C:Addr)(m:Str)(sp:Sp)(gq:List V)(E:XK)(ta:TE)(t:TA):TE:=λσ H Q=>ta σ H λx H1=>∃a dx fs,x=.ref a/\H1 a=some (.ins C dx fs)/\fs.lookup m=none /\
 t σ H1 λvs H2=>sp (x::(vs++gq)) H2 Q E
def QP(C:Addr)(sp:Sp)(gq:List V)(E:XK)(t:TA):TE:=λσ H Q=>t σ H λvs H1=>∀x dx,H1 x=none->H1 dx=none->dx≠x ->
 sp (.ref x::(vs++gq)) (upd (upd H1 dx (.own x)) x (.ins C dx [])) (λv H2=>v=.non/\Q (.ref x) H2) E
def Binds(K:bu)(fd:FuncData)(ps:Bi)(ds:B2):Prop:=
 ∀(s:Shared)(us:B2),K.In s.heap->(us++ds).length=ps.length->BindsTo s fd ⟨us,[]⟩ (ps.zip (us++ds))
theorem Binds.all{K:bu}{fd:FuncData}{ps:Bi}(h:∀us:B2,us.length=ps.length->bindArgs fd ⟨us,[]⟩=pure (ps.zip us)):Binds K fd ps []:=λs us _ hl=>by
 rw[dz]at hl ⊢;exact .of_eq (h us hl)
def Passes(CX:Cz)(X:Cx)(E:XK):Prop:=∀(aa:c7)(σ:St)(H:Hp)(s:Shared)(e:Value)(s':Shared),Inv X aa σ H s->CX X.stack H s E e s'->X.xe e s'
section
variable{X:Cx}{CX:Cz}{k:Nat}{fd:FuncData}{ps:Bi}{sp:Sp}{gq:List V}{ds:B2}{E:XK}{x m:Str}{b_:Pos}{ta:TE}{t:TA}
theorem rm{aa:c7}{σ:St}{H:Hp}{s:Shared}{Q:VK}{us:B2}{vs:List V}(F:dH X.prog X.w X.K X.mg X.base CX k f fd ps sp)(hr:bC k X.A)(hb:Binds X.K fd ps ds)(hd:Vals gq ds)(hx:Passes CX X E)
  (I:Inv X aa σ H s) (r:Vals vs us) (h:sp (vs++gq) H Q E):wpAny (model X.prog X.w) X.A (call (.ref f) us) (EP X aa σ Q) X.xe s:=by
 have r2:Vals (vs++gq) (us++ds):=r.append hd;have hl:(us++ds).length=ps.length:=by rw[<- r2.length];exact F.len _ _ _ _ h
 refine wpAny_call (codeAny_mono (F.run X.A X.stack s H ⟨us,[]⟩ (us++ds) (vs++gq) Q E hr I.QO (hb s us I.jG hl) r2 h) λr s' hq=>?_);cases r with
 |error e=>exact hx aa σ H s e s' I hq
 |ok fl=>
  cases fl with
  |ret u=>exact I.after hq
  |next=>exact False.elim hq
  |brk=>exact False.elim hq
  |cont=>exact False.elim hq
theorem GJ(F:dH X.prog X.w X.K X.mg X.base CX k f fd ps sp)(hr:bC k X.A)(hg:Gl X x)(hm:X.mg x=some (.ref f))(hk:oY X.K (.ref f)=true)(hb:Binds X.K fd ps ds)(hd:Vals gq ds)(hx:Passes CX X E)
  (ha:PA X (e::es) t) (mV:bW x:=by decide) (he:starEach (e::es) X.env=(false,eval e X.env)::starEach es X.env:=by rfl) (hpl:(backTo pos (starEach es X.env)).any (·.1)=false:=by rfl) :
  PE X (.Call (.Name x p) (e::es) [] pos) (Kl sp gq E t):=by
 intro aa s σ H Q I h;refine wpAny_Call_Name_kw (jJ I hg hm ?_ mV);refine BD (h₀:=X.base) I.ok.mod.kin hk (bJ (ha pos aa s σ H _ I h) λus s1 ⟨vs,H1,I1,r,q⟩=>⟨I1.jG,?_⟩) he hpl;exact rm F hr hb hd hx I1 r q
theorem CA(F:dH X.prog X.w X.K X.mg X.base CX k f fd ps sp)(hr:bC k X.A)(hg:Gl X x)(hm:X.mg x=some (.ref f))(hk:oY X.K (.ref f)=true)(hb:Binds X.K fd ps ds)(hd:Vals gq ds)(hx:Passes CX X E)
  (mV:bW x:=by decide):PE X (.Call (.Name x p) [] [] pos) (Kl sp gq E GI):=by
 intro aa s σ H Q I h;refine wpAny_Call_Name_kw (jJ I hg hm ?_ mV);exact BE I.jG hk (rm (us:=[]) F hr hb hd hx I .nil h)
theorem GK{pl:Sem Bool}(he:PE X o ta)(c:pC X.K C)(hm:Meth X.K C m f)(F:dH X.prog X.w X.K X.mg X.base CX k f fd ps sp)(hr:bC k X.A)(hb:Binds X.K fd ps ds)(hd:Vals gq ds)(hx:Passes CX X E)(ha:PA X (e::es) t)
  (Qq:starEach (e::es) X.env=(false,eval e X.env)::starEach es X.env:=by rfl) (hpl:(backTo pos (starEach es X.env)).any (·.1)=false:=by rfl)
  (ht:eval (.Call (.Attribute o m b_) (e::es) [] pos) X.env=(do
   let ov <- eval o X.env
   standAt b_.atName
   let(f,first) <- holding [ov] (getMethod ov m pl)
   callWith pos f first (backTo pos (starEach (e::es) X.env)) (backToKw pos (keywordEach [] X.env))):=by rfl) :
  PE X (.Call (.Attribute o m b_) (e::es) [] pos) (yp C m sp gq E ta t):=by
 intro aa s σ H Q I h;refine Jy (pl:=pl) (bJ (he aa s σ H _ I h) λu s1 ⟨x,H1,I1,rx,a,dx,fs,ex,ea,l,q⟩=>?_) ht;subst ex
 obtain rfl:u=Value.ref a:=rx
 refine mT I1 ea c hm l ?_;refine BD (first:=[.ref a]) (h₀:=X.base) I.ok.mod.kin hm.kp (bJ (ha pos aa s1 σ H1 _ I1 q) λus s2 ⟨vs,H2,I2,r,q2⟩=>⟨I2.jG,?_⟩) Qq hpl
 exact rm (us:=.ref a::us) (vs:=.ref a::vs) F hr hb hd hx I2 (.cons rfl r) q2
theorem CB{pl:Sem Bool}(he:PE X o ta)(c:pC X.K C)(hm:Meth X.K C m f)(F:dH X.prog X.w X.K X.mg X.base CX k f fd ps sp)(hr:bC k X.A)(hb:Binds X.K fd ps ds)(hd:Vals gq ds)(hx:Passes CX X E)
  (ht:eval (.Call (.Attribute o m b_) [] [] pos) X.env=(do
   let ov <- eval o X.env
   standAt b_.atName
   let(f,first) <- holding [ov] (getMethod ov m pl)
   callWith pos f first (backTo pos (starEach [] X.env)) (backToKw pos (keywordEach [] X.env))):=by rfl) :
  PE X (.Call (.Attribute o m b_) [] [] pos) (yp C m sp gq E ta GI):=by
 intro aa s σ H Q I h;refine Jy (pl:=pl) (bJ (he aa s σ H _ I h) λu s1 ⟨x,H1,I1,rx,a,dx,fs,ex,ea,l,q⟩=>?_) ht;subst ex
 obtain rfl:u=Value.ref a:=rx
 refine mT I1 ea c hm l ?_;exact BE (first:=[.ref a]) I1.jG hm.kp (rm (us:=[.ref a]) (vs:=[.ref a]) F hr hb hd hx I1 (.cons rfl .nil) q)
structure Mk(K:bu)(C f:Addr):Prop where
 makes:Bx K C=true
 init:gi K (.ref C) "__init__" = some (some (.ref f))
 fn:Bw K (.ref f)=true
 kp:oY K (.ref C)=true
theorem CF{aa:c7}{σ:St}{H:Hp}{s:Shared}{Q:VK}{us:B2}{vs:List V}(M:Mk X.K C f)(F:dH X.prog X.w X.K X.mg X.base CX k f fd ps sp)(hr:bC (k+1) X.A)(hb:Binds X.K fd ps ds)(hd:Vals gq ds)
  (hx:Passes CX X E) (I:Inv X aa σ H s) (r:Vals vs us)
  (h:∀x dx,H x=none->H dx=none->dx≠x->sp (.ref x::(vs++gq)) (upd (upd H dx (.own x)) x (.ins C dx [])) (λv H2=>v=.non/\Q (.ref x) H2) E) :
  wpAny (model X.prog X.w) X.A (call (.ref C) us) (EP X aa σ Q) X.xe s:=by
 have hq:=h (s.heap.objs.size+1) s.heap.objs.size (I.bx.fresh (tD _)) (I.bx.fresh (cC _)) (fk (vW _));have I2:=Inv.made (C:=C) I;have r2:Vals (V.ref (s.heap.objs.size+1)::(vs++gq)) (Value.ref (s.heap.objs.size+1)::(us++ds)):=.cons rfl (r.append hd);have hl:(Value.ref (s.heap.objs.size+1)::us++ds).length=ps.length:=by
  have e:=r2.length;rw[F.len _ _ _ _ hq]at e;exact e.symm
 refine wpAny_call (Cu (f:=f) I.jG M.makes M.init (beq_iff_eq.mp M.fn) (codeAny_mono (F.run _ X.stack _ _ ⟨Value.ref (s.heap.objs.size+1)::us,[]⟩ (Value.ref (s.heap.objs.size+1)::(us++ds)) _ _ E (hr.make C us [])
  (I2.QO.make C us []) (hb _ (Value.ref (s.heap.objs.size+1)::us) I2.jG hl) r2 hq) λr s' Mn=>?_))
 cases r with
 |error e=>exact hx aa σ _ _ e s' I2 Mn
 |ok fl=>
  cases fl with
  |ret u=>
   obtain⟨v,H',I3,rv,ev,q3⟩:=I2.after Mn;subst ev;exact⟨rv,⟨V.ref (s.heap.objs.size+1),H',I3,rfl,q3⟩⟩
  |next=>exact False.elim Mn
  |brk=>exact False.elim Mn
  |cont=>exact False.elim Mn
theorem rn(M:Mk X.K C f)(F:dH X.prog X.w X.K X.mg X.base CX k f fd ps sp)(hr:bC (k+1) X.A)(hg:Gl X x)(hm:X.mg x=some (.ref C))(hb:Binds X.K fd ps ds)(hd:Vals gq ds)(hx:Passes CX X E)
  (ha:PA X (e::es) t) (mV:bW x:=by decide) (he:starEach (e::es) X.env=(false,eval e X.env)::starEach es X.env:=by rfl) (hpl:(backTo pos (starEach es X.env)).any (·.1)=false:=by rfl) :
  PE X (.Call (.Name x p) (e::es) [] pos) (QP C sp gq E t):=by
 intro aa s σ H Q I h;refine wpAny_Call_Name_kw (jJ I hg hm ?_ mV);refine BD (h₀:=X.base) I.ok.mod.kin M.kp (bJ (ha pos aa s σ H _ I h) λus s1 ⟨vs,H1,I1,r,q⟩=>⟨I1.jG,?_⟩) he hpl;exact CF M F hr hb hd hx I1 r q
end
section
variable{X:Cx}{CX:Cz}{k:Nat}{fd:FuncData}{ps ks:Bi}{sp:Sp}{E:XK}{x m:Str}{b_ aaa:Pos}{kws:List Keyword}{te ta:TE}{t tk:TA}{nm:Option Str}
variable{g:B2->B2->B2}{gV:List V->List V->List V}
end
structure gK(N P:Bi)(sc:Scope):Prop where
 kind:sc.kind=.function
 co:sc.isCoroutine=false
 gen:sc.isGenerator=false
 nd:N.Nodup
 pre:N.take P.length=P
 par:∀x∈P,sc.names.lookup x=some .local\/sc.names.lookup x=some .cell
 nofree:∀y∈sc.names,y.2≠.free
theorem qb{kindOf:Str->Option NameKind}{x:Str}:∀{binds:List (Str×Value)}{m:Str->D1},(∀v,(x,v)∉binds)->bindL kindOf binds m x=m x
 |[],_,_=>rfl
 |(n,v)::r,m,h=>by
  unfold bindL;rw[qb λw hw=>h w (ez _ hw)];split
  ·have:x≠n:=by rintro rfl;exact h v eg
   simp[this]
  ·rfl
theorem qc{kindOf:Str->Option NameKind}{x:Str}:∀{binds:List (Str×Value)}{m:Str->D1},(∀v,(x,v)∉binds)->bindC kindOf binds m x=m x
 |[],_,_=>rfl
 |(n,v)::r,m,h=>by
  unfold bindC;rw[qc λw hw=>h w (ez _ hw)];split
  ·rfl
  ·have:x≠n:=by rintro rfl;exact h v eg
   simp[this]
theorem qe{kindOf:Str->Option NameKind}{x:Str}{v:Value}:∀{P:Bi}{vs:B2}{i:Nat}{m:Str->D1},P.Nodup->P[i]?=some x->vs[i]?=some v->kindOf x=some .local ->
  bindL kindOf (P.zip vs) m x=some v
 |[],_,_,_,_,h,_,_=>by simp at h
 |_::_,[],_,_,_,_,h,_=>by simp at h
 |p::P,w::vs,0,m,nd,h1,h2,hk=>by
  simp at h1 h2;subst h1;subst h2;show bindL kindOf ((p,w)::P.zip vs) m p=_;unfold bindL;rw[qb λv hv=>(kq.mp nd).1 (xX hv).1,if_pos hk];simp
 |p::P,w::vs,i+1,m,nd,h1,h2,hk=>by
  show bindL kindOf ((p,w)::P.zip vs) m x=_;unfold bindL;exact qe (i:=i) (kq.mp nd).2 (by simpa using h1) (by simpa using h2) hk
theorem qg{kindOf:Str->Option NameKind}{x:Str}{v:Value}:∀{P:Bi}{vs:B2}{i:Nat}{m:Str->D1},P.Nodup->P[i]?=some x->vs[i]?=some v->kindOf x≠some .local ->
  bindC kindOf (P.zip vs) m x=some v
 |[],_,_,_,_,h,_,_=>by simp at h
 |_::_,[],_,_,_,_,h,_=>by simp at h
 |p::P,w::vs,0,m,nd,h1,h2,hk=>by
  simp at h1 h2;subst h1;subst h2;show bindC kindOf ((p,w)::P.zip vs) m p=_;unfold bindC;rw[qc λv hv=>(kq.mp nd).1 (xX hv).1,if_neg hk];simp
 |p::P,w::vs,i+1,m,nd,h1,h2,hk=>by
  show bindC kindOf ((p,w)::P.zip vs) m x=_;unfold bindC;exact qg (i:=i) (kq.mp nd).2 (by simpa using h1) (by simpa using h2) hk
def start(N:Bi)(vs:List V):St:=vs.map some++ck (N.length-vs.length) none
def pD(CX:Cz)(P:Program)(w:World)(K:bu)(mg:Str->D1)(base:Heap)(N:Bi)(qual:Str)(scope:Scope)(f:Addr)(cd:Value)(A:Around)(outer:List Env)(s:Shared)(H:Hp)(E:XK):Cx where
 prog:=P
 w:=w
 K:=K
 mg:=mg
 base:=base
 A:=A.deeper (envOfC qual scope s.heap.objs.size f cd)
 N:=N
 s₀:=s
 H₀:=H
 env:=envOfC qual scope s.heap.objs.size f cd
 outer:=outer
 stack:=envOfC qual scope s.heap.objs.size f cd::outer
 ex:=[]
 calm:=true
 fn:=λ_=>true
 pn:=[]
 xe:=λe s'=>wpAny (model P w) (A.deeper (envOfC qual scope s.heap.objs.size f cd)) (leaving (envOfC qual scope s.heap.objs.size f cd) e) (λ_ QQ=>CX outer H s E e QQ) (λe' QQ=>CX outer H s E e' QQ) s'
theorem t_{sc:Scope}{n:Nat}{x:Str}(h:sc.names.lookup x=some .cell):∃c,(cellsFrom n sc.names []).lookup x=some c:=by
 have q:=Jz sc.names n [] (.inl h);exact Cc.mp q
theorem Av{CX:Cz}{P:Program}{w:World}{K:bu}{mg:Str->D1}{base:Heap}{N ps:Bi}{qual:Str}{scope:Scope}{f:Addr}{cd:Value}{A:Around}{outer:List Env}{s s1:Shared}{H:Hp}{E:XK}{us:B2}{vs:List V}
  (S:gK N ps scope) (hd:A.handled=none) (e0:wu P w K mg base A outer s H) (hl:vs.length=ps.length) (r:Vals vs us)
  (x:InCallC s s.heap.objs.size (bindL (envOfC qual scope s.heap.objs.size f cd).kindOf (ps.zip us) λ_=>none) (cellsFrom (s.heap.objs.size+1) scope.names []) (bindC (envOfC qual scope s.heap.objs.size f cd).kindOf (ps.zip us) λ_=>none) s1) :
  Inv (pD CX P w K mg base N qual scope f cd A outer s H E) [] (start N vs) H s1:=by
 have hpl:ps.length<=N.length:=by have:=congrArg z8 S.pre;rw[vU]at this;omega
 obtain⟨h1,tk,rfl,hk⟩:=x.done;have QR:∀b:Addr,b∉(pD CX P w K mg base N qual scope f cd A outer s H E).ex:=λb z=>absurd (show b∈([]:BM)from z) (by simp)
 refine⟨⟨e0.mod,S.kind,rfl,rfl,cC _,λy z c h1 h2=>?_,λy hy=>?_,λy c _ h=>?_,λ_=>hd,Around.frames_deeper e0.frames,.inr ⟨rfl,rfl⟩,λb z=>absurd z (QR b),e0.bs,e0.bsz,λb _ _=>QR b,λb z=>absurd z (QR b),e0.lG,e0.frf⟩,
  rfl,e0.bare,Un.kept hk,⟨_,x.toInCall.ns,λi y v h1 h2 h3=>?_⟩,λy c h=>⟨_,x.cell y c h⟩,e0.bx.fresh (cC _),λy c h=>?_,λp hp=>absurd (show p∈([]:c7)from hp) (by simp),e0.bx.kept hk,?_⟩
 ·exact name_of_addr x.apart (PySem.mem_of_lookup h1) (PySem.mem_of_lookup h2)
 ·have hy:scope.names.lookup y=some .cell\/scope.names.lookup y=some .free:=hy
  rcases hy with hy|hy
  ·exact t_ hy
  ·exact absurd rfl (S.nofree _ (PySem.mem_of_lookup hy))
 ·exact yc (x.above y c (PySem.mem_of_lookup h))
 ·have hi:i<vs.length:=by
   unfold start at h2;by_cases hi:i<vs.length
   ·exact hi
   ·rw[eS (by simpa using hi)]at h2
    rw[sW]at h2;split at h2<;>cases h2
  have ha:vs[i]?=some v:=by
   unfold start at h2;rw[gp (by simpa using hi),dB]at h2
   cases e:vs[i]? with
   |none=>rw[e]at h2;cases h2
   |some a=>rw[e]at h2;cases h2;rfl
  obtain⟨u,hu,rv⟩:=r.get ha;have hp:ps[i]?=some y:=by
   rw[<- S.pre,List.getElem?_take_of_lt (by omega)];exact h1
  have Zi:ps.Nodup:=by rw[<- S.pre];exact S.nd.sublist (List.take_sublist _ _)
  refine⟨u,rv,?_⟩;rcases S.par y (je hp)with k|k
  ·exact .inl ⟨k,qe Zi hp hu k⟩
  ·obtain⟨c,e⟩:=t_ (n:=s.heap.objs.size+1) k
   refine .inr ⟨.inl k,c,e,?_⟩;have q:=x.cell y c e;rw[qg Zi hp hu (by show scope.names.lookup y≠_;rw[k];decide)]at q
   exact q
 ·exact e0.bx.fresh (yc (x.above y c (PySem.mem_of_lookup h)))
 ·unfold start
  show _=N.length;rw[cK,bF,iC];omega
theorem QT{CX:Cz}{P:Program}{w:World}{K:bu}{mg:Str->D1}{base:Heap}{k:Nat}{f:Addr}{name qual:Str}{params:Arguments}{body:Ee}{scope:Scope}{dV kV doc pm jD ct oc:Value}{an od:Option Addr}
  {CG:Array D1} {N ps:Bi} {sp:Sp} (lk:K.lookup f=some ⟨oc,od,.func (z7 name qual params body scope dV kV doc pm an jD ct),CG⟩) (jI:BG K jD qual=true) (S:gK N ps scope)
  (len:∀vs H Q E,sp vs H Q E->vs.length=ps.length)
  (CH:∀(A:Around)(outer:List Env)(s:Shared)(H:Hp)(vs:List V)(Q:VK)(E:XK),bC k (A.deeper (envOfC qual scope s.heap.objs.size f jD))->sp vs H Q E ->
   ∃t,jH (pD CX P w K mg base N qual scope f jD A outer s H E) body t/\t {nx:=λ_ H'=>Q .non H',rt:=Q} (start N vs) H) :
  dH P w K mg base CX (k+1) f (z7 name qual params body scope dV kV doc pm an jD ct) ps sp:=by
 refine⟨len,λA outer s H args us vs Q E hr e0 hb r GL=>?_⟩;have hl:=len _ _ _ _ GL;have KX:K.In s.heap:=e0.mod.kin.keeps λb o e=>(e0.bs b o e).1;have lim:s.heap.NoLimit:=e0.mod.nolimit.keeps λb o e=>(e0.bs b o e).1;have QU:∀y∈ps.zip us,scope.names.lookup y.1=some .local\/(scope.names.lookup y.1=some .cell/\((cellsFrom (s.heap.objs.size+1) scope.names []).lookup y.1).isSome=true):=λ⟨n,v⟩ hy=>by
  rcases S.par n (xX hy).1 with q|q
  ·exact .inl q
  ·exact .inr ⟨q,Jz _ _ _ (.inl q)⟩
 refine codeAny_call_function hr.depth (KX _ _ lk) rfl S.co S.gen rfl (PySem.W.codeRec_of KX jI) (hb _ _ _ _ ?_);refine wpAny_newFunctionEnv_cells S.kind QU λenv he s1 x=>?_;subst he;refine⟨lim.keeps x.toInCall.keep,codeAny_func ?_⟩;obtain⟨t,ht,hq⟩:=CH A outer s H vs Q E (hr.deeper _) GL;have I:Inv (pD CX P w K mg base N qual scope f jD A outer s H E) [] (start N vs) H s1:=Av S hr.hd e0 hl r x;refine wpAny_mono (ht [] s1 (start N vs) H _ I hq) (λfl s' hs=>?_) λe s' hs=>hs;have fin:∀{σ':St}{H':Hp}{v:V}{u:Value},Inv (pD CX P w K mg base N qual scope f jD A outer s H E) [] σ' H' s'->RelV v u->Q v H'->CE outer P w H s Q u s':=
  λ{σ' H' v u} J rv q=>⟨v,H',J.os,J.bare,J.base,J.bx,rv,q⟩
 cases fl with
 |ret u=>
  obtain⟨v,σ',H',J,rv,q⟩:=hs;exact fin J rv q
 |next=>
  obtain⟨σ',H',J,q⟩:=hs;exact fin (v:=V.non) (u:=Value.none) J rfl q
 |brk=>
  obtain⟨_,_,_,q⟩:=hs;exact False.elim q
 |cont=>
  obtain⟨_,_,_,q⟩:=hs;exact False.elim q
section
variable{X:Cx}{x:Str}{t:TA}{id T:String}{r:List V->Hp->VK->Prop}
def Wl(r:List V->Hp->VK->Prop)(t:TA):TE:=λσ H Q=>t σ H λvs H1=>r vs H1 Q
theorem iH(hc:eY X (.builtin id) r)(hg:Gl X x)(hm:X.mg x=none)(hv:bootBuiltins x=some (.builtin id))(ha:PA X (e::es) t)(hn:x ≠ "__name__" := by decide)(mV:bW x:=by decide)
  (he:starEach (e::es) X.env=(false,eval e X.env)::starEach es X.env:=by rfl) (hpl:(backTo pos (starEach es X.env)).any (·.1)=false:=by rfl):PE X (.Call (.Name x p) (e::es) [] pos) (Wl r t):=by
 intro aa s σ H Q I h;refine wpAny_Call_Name_kw (gI I hg hm hv ?_ hn mV);exact PyProof.Rows.callWith_builtin1 (bJ (ha pos aa s σ H _ I h) λus s1 ⟨vs,H1,I1,r1,q1⟩=>hc aa s1 σ H1 vs us Q I1 r1 q1) he hpl
theorem gB(hc:eY X (.type T) r)(hg:Gl X x)(hm:X.mg x=none)(hv:bootBuiltins x=some (.type T))(ha:PA X (e::es) t)(hn:x ≠ "__name__" := by decide)(mV:bW x:=by decide)
  (he:starEach (e::es) X.env=(false,eval e X.env)::starEach es X.env:=by rfl) (hpl:(backTo pos (starEach es X.env)).any (·.1)=false:=by rfl):PE X (.Call (.Name x p) (e::es) [] pos) (Wl r t):=by
 intro aa s σ H Q I h;refine wpAny_Call_Name_kw (gI I hg hm hv ?_ hn mV);exact Ah (bJ (ha pos aa s σ H _ I h) λus s1 ⟨vs,H1,I1,r1,q1⟩=>hc aa s1 σ H1 vs us Q I1 r1 q1) he hpl
end
end L2
namespace HT
open PySem PyProof.Rows
section
open PySem.SeqAt
open PySem.AutoSeq1 (wpAny_loadPart')
open PySem.MeetsSeq PySem.MeetsSeq2 PySem.MeetsSeq3
end
section
variable{prog:Program}{w:World}{A:Around}{E:Value->Shared->Prop}{s:Shared}
def gx(n d:Nat):D2->Nat
 |none=>d
 |some v=>if v<0 then(v+(n:Int)).toNat else min v.toNat n
end
end HT
namespace L2
open PySem PySem.Spec PyProof.Rows
abbrev TO:=St->Hp->(D2->Hp->Prop)->Prop
def PO(X:Cx)(e:Option Expr)(t:TO):Prop:=
 ∀(aa:c7)(s:Shared)(σ:St)(H:Hp)(Q:D2->Hp->Prop),Inv X aa σ H s->t σ H Q ->
  wpAny (model X.prog X.w) X.A (evalPart e X.env) (λu s'=>∃o H',Inv X aa σ H' s'/\IsPart u o/\Q o H') X.xe s
def GN:TO:=λ_ H Q=>Q none H
def QV(t:TE):TO:=λσ H Q=>t σ H λx H1=>∃i,x=.int i/\Q (some i) H1
variable{X:Cx}
section
variable{e:Expr}{te:TE}{lo hi:Option Expr}{tl th:TO}{pos p2:Pos}
theorem GO:PO X none GN:=by
 intro aa s σ H Q I h;rw[evalPart_none];exact wpAny_pure ⟨none,H,I,.none,h⟩
theorem GP(h:PE X e te):PO X (some e) (QV te):=by
 intro aa s σ H Q I hw;rw[evalPart_some];refine bJ (h aa s σ H _ I hw) λu s1 zz=>?_;obtain⟨x,H1,I1,r1,q1⟩:=zz;obtain⟨i,rfl,q⟩:=q1;obtain⟨t,rfl⟩:=r1;exact⟨some i,H1,I1,.int i t,q⟩
def Km(X:Cx)(r:V->D2->D2->Hp->VK->Prop):Prop:=
 ∀(aa:c7)(s:Shared)(σ:St)(H:Hp)(x:V)(v vl vu:Value)(lo hi:D2)(sl:Addr)(Q:VK),Inv X aa σ H s->RelV x v->s.heap.IsSliceOf sl vl vu .none->IsPart vl lo->IsPart vu hi->r x lo hi H Q ->
  ∃T id,typeLookup (.type T) "__getitem__" = pure (some (.builtin id))/\s.TypeIs v T/\wpAny (model X.prog X.w) X.A (getItem v (.ref sl)) (EP X aa σ Q) X.xe s
theorem Km.or{r r':V->D2->D2->Hp->VK->Prop}(h:Km X r)(h':Km X r'):Km X (λx lo hi H Q=>r x lo hi H Q\/r' x lo hi H Q):=by
 intro aa s σ H x v vl vu lo hi sl Q I rx hs pl pu q;rcases q with q|q
 ·exact h aa s σ H x v vl vu lo hi sl Q I rx hs pl pu q
 ·exact h' aa s σ H x v vl vu lo hi sl Q I rx hs pl pu q
def tSl(r:V->D2->D2->Hp->VK->Prop)(te:TE)(tl th:TO):TE:=λσ H Q=>te σ H λx H1=>tl σ H1 λl H2=>th σ H2 λu H3=>r x l u H3 Q
theorem CI{r:V->D2->D2->Hp->VK->Prop}(hr:Km X r)(he:PE X e te)(hl:PO X lo tl)(hu:PO X hi th):PE X (.Subscript e (.Slice lo hi none p2) pos) (tSl r te tl th):=by
 intro aa s σ H Q I h;refine Subscript_ (bJ (he aa s σ H _ I h) λv s1 zz=>?_);obtain⟨x,H1,I1,r1,q1⟩:=zz;refine wpAny_Slice (bJ (hl aa s1 σ H1 _ I1 q1) λvl s2 ⟨l,H2,I2,pl,q2⟩=>bJ (hu aa s2 σ H2 _ I2 q2) λvu s3 zz=>?_);obtain⟨u,H3,I3,pu,q3⟩:=zz;rw[evalPart_none];refine wpAny_pure ?_;have I4:Inv X aa σ H3 {s3 with heap:=s3.heap.push {cls:=.type "slice",data:=.fields #[vl,vu,.none]}}:=I3.kept (t':=s3.toks) λb ob q=>Heap.get?_push_of_some _ q
 obtain⟨T,id,hT,ht,hg⟩:=hr aa {s3 with heap:=s3.heap.push {cls:=.type "slice",data:=.fields #[vl,vu,.none]}} σ H3 x v vl vu l u s3.heap.objs.size Q I4 r1 (Heap.IsSliceOf.new ..) pl pu q3
 show wpAny (model X.prog X.w) X.A (subscriptTail e (.Slice lo hi none p2) v (.ref s3.heap.objs.size)) (EP X aa σ Q) X.xe {s3 with heap:=s3.heap.push {cls:=.type "slice",data:=.fields #[vl,vu,.none]}}
 exact tail_any (ops:=[.ref s3.heap.objs.size,v]) ht hT hg (by with_unfolding_all rfl)
def Aw(xs:List V)(lo hi:D2):List V:=(xs.drop (HT.gx xs.length 0 lo)).take (HT.gx xs.length xs.length hi-HT.gx xs.length 0 lo)
theorem ua(xs:List V)(lo hi:D2):(Aw xs lo hi).length<=xs.length:=by
 unfold Aw;rw[vU,o8];omega
end
def GQ(n:Nat)(i:Int):Option Nat:=if 0<=i then(if i<n then some i.toNat else none)else if -(n:Int)<=i then some (i+n).toNat else none
def CJ{α:Type}(xs:List α)(i:Int):Option α:=(GQ xs.length i).bind λj=>xs[j]?
theorem yq{n:Nat}{i:Int}{j:Nat}(h:GQ n i=some j):seqIndex? i n=some j/\j<n/\-(n:Int)<=i/\i<n:=by
 unfold GQ at h;by_cases h0:0<=i
 ·rw[if_pos h0]at h
  by_cases h1:i<n
  ·rw[if_pos h1]at h
   have e:i.toNat=j:=ku.inj h;exact⟨by rw[seqIndex_of h0 h1,e],by omega,by omega,h1⟩
  ·rw[if_neg h1]at h;cases h
 ·rw[if_neg h0]at h
  by_cases h1:-(n:Int)<=i
  ·rw[if_pos h1]at h
   have e:(i+n).toNat=j:=ku.inj h;exact⟨by rw[seqIndex_neg (by omega) h1,e],by omega,h1,by omega⟩
  ·rw[if_neg h1]at h;cases h
theorem rq{α:Type}{xs:List α}{i:Int}{v:α}(h:CJ xs i=some v):∃j,seqIndex? i xs.length=some j/\xs[j]?=some v/\j<xs.length/\-(xs.length:Int)<=i/\i<xs.length:=by
 unfold CJ at h;cases e:GQ xs.length i with
 |none=>rw[e]at h;cases h
 |some j=>
  rw[e]at h;obtain⟨h1,h2,h3,h4⟩:=yq e;exact⟨j,h1,h,h2,h3,h4⟩
def iV(b:Expr):Prop:=∀o i,subscripted b false o i=operate [o,i] (getItem o i)
def GR(X:Cx)(r:R2):Prop:=
 ∀(value slice:Expr)(aa:c7)(s:Shared)(σ:St)(H:Hp)(x y:V)(v u:Value)(Q:VK),Inv X aa σ H s->RelV x v->RelV y u->r x y H Q ->
  subscripted slice false v u=operate [v,u] (getItem v u)->wpAny (model X.prog X.w) X.A (subscriptTail value slice v u) (EP X aa σ Q) X.xe s
def Ax(X:Cx)(id:String)(r:V->List V->Hp->VK->Prop):Prop:=
 ∀(aa:c7)(s:Shared)(σ:St)(H:Hp)(x:V)(xs:List V)(v:Value)(us:B2)(Q:VK),Inv X aa σ H s->RelV x v->Vals xs us->r x xs H Q ->
  wpAny (model X.prog X.w) X.A (call (.builtin id) (v::us)) (EP X aa σ Q) X.xe s
section
variable{a b:Expr}{ta tb:TE}{pos:Pos}
theorem GR.or{r r':R2}(h:GR X r)(h':GR X r'):GR X (λx y H Q=>r x y H Q\/r' x y H Q):=by
 intro value slice aa s σ H x y v u Q I rx ry q hs;rcases q with q|q
 ·exact h value slice aa s σ H x y v u Q I rx ry q hs
 ·exact h' value slice aa s σ H x y v u Q I rx ry q hs
theorem Kn{r:R2}(hr:GR X r)(ha:PE X a ta)(hb:PE X b tb)(hs:iV b):PE X (.Subscript a b pos) (Cq r ta tb):=by
 intro aa s σ H Q I h;exact Subscript_ (Ma ha hb I h λv u s2 x y H2 I2 rx ry q=>hr a b aa s2 σ H2 x y v u Q I2 rx ry q (hs _ _))
def QW(K:bu):R2:=λx y H Q=>∃p xs i v,x=.ref p/\y=.int i/\dh K H p xs/\CJ xs i=some v/\Q v H
def QX(K:bu):R2:=λx y H Q=>∃p xs i v,x=.ref p/\y=.int i/\k7 K H p xs/\CJ xs i=some v/\Q v H
def QY:R2:=λx y H Q=>∃z i c,x=.str z/\y=.int i/\z.length<=sizeLine/\CJ z.cps.toList i=some c/\Q (.str ⟨#[c]⟩) H
theorem yr:GR X (QW X.K):=by
 intro value slice aa s σ H x y v u Q I rx ry h hs;obtain⟨p,xs,i,z,rfl,rfl,hq,he,q⟩:=h;cases rx;obtain⟨t,rfl⟩:=ry;obtain⟨its,r,pl,hz⟩:=I.list hq;obtain⟨j,h1,h2,h3,h4,h5⟩:=rq he;obtain⟨w,ew,wy⟩:=r.get h2;have hl:=r.length;have hn:=kB;have fin:EP X aa σ Q w s:=⟨z,H,I,wy,q⟩;by_cases h0:0<=i
 ·have hj:i.toNat=j:=by
   rw[seqIndex_of h0 h5]at h1;exact ku.inj h1
  exact item_listR pl.isList h0 (by omega) (by rw[hj];simpa using ew) fin hs
 ·have hj:(i+(its.toArray.size:Int)).toNat=j:=by
   rw[seqIndex_neg (by omega) h4]at h1
   rw[bX,<- hl];exact ku.inj h1
  exact subscriptTail_builtinR (x:=w) pl.isList.typeIs slot_list_getitem.lookup
   (wpAny_getItem_list_neg (Q:=λr s'=>r=w/\EP X aa σ Q r s') pl.isList (by omega) (by rw[bX]<;>omega) (by omega) (by rw[hj];simpa using ew) ⟨rfl,fin⟩) hs
theorem Mp:GR X (QX X.K):=by
 intro value slice aa s σ H x y v u Q I rx ry h hs;obtain⟨p,xs,i,z,rfl,rfl,hq,he,q⟩:=h;cases rx;obtain⟨t,rfl⟩:=ry;obtain⟨its,r,pl,hz⟩:=I.tuple hq;obtain⟨j,h1,h2,h3,h4,h5⟩:=rq he;obtain⟨w,ew,wy⟩:=r.get h2;have hl:=r.length;have hn:=kB;have fin:EP X aa σ Q w s:=⟨z,H,I,wy,q⟩;exact subscriptTail_builtinR (x:=w) pl.typeIs slot_tuple_getitem.lookup
  (getItem_tuple (j:=j) (Q:=λr s'=>r=w/\EP X aa σ Q r s') pl (by omega) (by omega) (by rw[bX,<- hl];exact h1) (by simpa using ew) ⟨rfl,fin⟩) hs
theorem Mq:GR X QY:=by
 intro value slice aa s σ H x y v u Q I rx ry h hs;obtain⟨z,i,c,rfl,rfl,hz,he,q⟩:=h;obtain⟨t,rfl⟩:=rx;obtain⟨t',rfl⟩:=ry;obtain⟨j,h1,h2,h3,h4,h5⟩:=rq he;have hl:z.cps.toList.length=z.length:=by simp[Str.length]
 rw[hl]at h1 h4 h5;have hn:=kB;exact tail_any (typeIs_str s z t) slot_str_getitem.lookup (getItem_str (c:=c) (by
  have e1:decide (i < -(2^63:Int))=false:=decide_eq_false (by omega)
  have e2:decide (i ≥ 2^63)=false:=decide_eq_false (by omega)
  rw[e1,e2,Bool.or_false]) (by rw[h1];simpa using h2) ⟨.str ⟨#[c]⟩,H,I.tok _,⟨_,rfl⟩,q⟩) hs
def Zj(K:bu):R2:=λx y H Q=>QW K x y H Q\/QX K x y H Q\/QY x y H Q
theorem Mr:GR X (Zj X.K):=yr.or (Mp.or Mq)
theorem wz(its:B2)(n j:Nat)(u:Value):Obj.mapSeq (·.setIfInBounds j u) {cls:=.type "list",data:=.seq its.toArray n}={cls:=.type "list",data:=.seq (its.set j u).toArray n}:=by
 simp[Obj.mapSeq]
theorem Inv.lst{aa:c7}{σ:St}{H:Hp}{s:Shared}{p:Addr}{xs:List V}(I:Inv X aa σ H s)(h:H p=some (.lst xs)) :
  ∃(its:B2)(n:Nat),Vals xs its/\s.heap.get? p=some {cls:=.type "list",data:=.seq its.toArray n}/\xs.length<=sizeLine:=by
 obtain⟨z,its,n,r,e⟩:=I.bx p _ h;exact⟨its,n,r,e,z⟩
theorem Inv.Ms{aa:c7}{σ:St}{H:Hp}{s:Shared}{p:Addr}{xs ys:List V}{its its':B2}{n n':Nat}{f:Obj->Obj}(I:Inv X aa σ H s)(h:H p=some (.lst xs))
  (ho:s.heap.get? p=some {cls:=.type "list",data:=.seq its.toArray n}) (hf:f {cls:=.type "list",data:=.seq its.toArray n}={cls:=.type "list",data:=.seq its'.toArray n'}) (r:Vals ys its') (hz:ys.length<=sizeLine) (t:Nat) :
  Inv X aa σ (upd H p (.lst ys)) {s with heap:=s.heap.update p f,toks:=t}:=by
 have e:(s.heap.update p f).get? p=some {cls:=.type "list",data:=.seq its'.toArray n'}:=by
  rw[Heap.get?_update_self f ho (by rw[hf]<;>rfl),hf]
 refine I.write (x:=p) (e:=p) (by rw[h];trivial) (.inl rfl) (λb u hb q=>(Heap.get?_update_other _ _ (Ne.symm hb)).trans q) ⟨_,e⟩ ?_
 exact⟨hz,its',n',r,e⟩
def QZ:V->V->V->Hp->(Hp->Prop)->Prop:=λo i v H Q=>∃p xs k j,o=.ref p/\i=.int k/\H p=some (.lst xs)/\GQ xs.length k=some j/\Q (upd H p (.lst (xs.set j v)))
theorem set_list:Qn X QZ:=by
 intro aa s σ H o i v ov iv u Q I ro ri rv h;obtain⟨p,xs,k,j,rfl,rfl,hp,hj,q⟩:=h;cases ro;obtain⟨t,rfl⟩:=ri;obtain⟨its,n,r,ho,hz⟩:=I.lst hp;obtain⟨h1,h2,h3,h4⟩:=yq hj;have hl:=r.length;have hn:=kB;have I':Inv X aa σ (upd H p (.lst (xs.set j v))) {s with heap:=s.heap.update p (Obj.mapSeq (·.setIfInBounds j u))}:=
  I.Ms hp ho (wz its n j u) (r.set rv j) (by rw[eA];exact hz) s.toks
 by_cases h0:0<=k
 ·have hk:k.toNat=j:=by
   rw[seqIndex_of h0 h4]at h1;exact ku.inj h1
  exact PySem.W.ki_setAt ho h0 (by omega) (by rw[bX,<- hl];exact h4) (by rw[hk];exact⟨_,I',q⟩)
 ·have hk:(k+(its.toArray.size:Int)).toNat=j:=by
   rw[seqIndex_neg (by omega) h3]at h1
   rw[bX,<- hl];exact ku.inj h1
  exact PySem.W.ki_setBack ho (by omega) (by rw[bX,<- hl];exact h3) (by omega) (by rw[hk];exact⟨_,I',q⟩)
theorem rA(lo hi:D2)(n:Nat):(sliceBounds lo hi none n).1=((HT.gx n 0 lo:Nat):Int)/\(sliceBounds lo hi none n).2.1=((HT.gx n n hi:Nat):Int)/\(sliceBounds lo hi none n).2.2=1:=by
 refine⟨?_,?_,rfl⟩
 ·cases lo with
  |none=>simp[sliceBounds,HT.gx]
  |some i=>
   simp only[sliceBounds,HT.gx,J5,show(1:Int) > 0 by decide,if_true]
   by_cases h:i<0
   ·simp only[h,if_true]<;>omega
   ·simp only[h,if_false]<;>omega
 ·cases hi with
  |none=>simp[sliceBounds,HT.gx]
  |some i=>
   simp only[sliceBounds,HT.gx,J5,show(1:Int) > 0 by decide,if_true]
   by_cases h:i<0
   ·simp only[h,if_true]<;>omega
   ·simp only[h,if_false]<;>omega
theorem pF(its:B2)(lo hi:D2):slicePick its.toArray lo hi none=((its.drop (HT.gx its.length 0 lo)).take (HT.gx its.length its.length hi-HT.gx its.length 0 lo)).toArray:=by
 obtain⟨h1,h2,h3⟩:=rA lo hi its.toArray.size;unfold slicePick;rw[h1,h2,h3];simp only[sliceRange_one,pick_run,bX]<;>rfl
def Q0(K:bu):V->D2->D2->Hp->VK->Prop:=λx lo hi H Q=>∃a xs,x=.ref a/\dh K H a xs/\∀p,H p=none->Q (.ref p) (upd H p (.lst (Aw xs lo hi)))
theorem GS:Km X (Q0 X.K):=by
 intro aa s σ H x v vl vu lo hi sl Q I rx hs pl pu h;obtain⟨a,xs,rfl,hx,q⟩:=h;cases rx;obtain⟨its,r,ht,hz⟩:=I.list hx;have bO:=r.length;refine⟨"list",_,slot_list_getitem.lookup,ht.isList.typeIs,?_⟩;refine wpAny_getItem_list_slice ht.isList hs pl pu .none (by simp) ?_ (by rw[bX]<;>omega)
 rw[pF,<- bO];refine⟨.ref s.heap.objs.size,_,I.laid (t':=s.toks) (o:=.lst (Aw xs lo hi)) (λb ob q=>Heap.get?_push_of_some _ q) (cC _) ?_,rfl,q _ (I.bx.fresh (cC _))⟩;exact⟨gA (ua xs lo hi) hz,_,0,(r.drop (HT.gx xs.length 0 lo)).take (HT.gx xs.length xs.length hi-HT.gx xs.length 0 lo),Heap.get?_push_size _ rfl⟩
def d_:V->Bool
 |.non=>true
 |.bl _=>true
 |.int _=>true
 |.str _=>true
 |_=>false
def CK:V->V->Bool
 |.non,.non=>true
 |.bl a,.bl b=>a == b
 |.bl a,.int b=>(if a then 1 else 0) == b
 |.int a,.bl b=>a == (if b then 1 else 0)
 |.int a,.int b=>a == b
 |.str a,.str b=>a == b
 |_,_=>false
theorem wB{A:Around}{s:Shared}{y x:V}{u v:Value}(ry:RelV y u)(rx:RelV x v)(fy:d_ y=true)(fx:d_ x=true):SeqAt.EqAt A s u v (CK y x):=by
 cases y with
 |non=>
  cases ry;cases x with
  |non=>cases rx;exact SeqAt.EqAt.same _
  |bl b=>cases rx;exact SeqAt.EqAt.none_bool b
  |int b=>obtain⟨t,rfl⟩:=rx;exact SeqAt.EqAt.none_int b t
  |str b=>obtain⟨t,rfl⟩:=rx;exact SeqAt.EqAt.none_str b t
  |_=>exact absurd (show false=true from fx) bZ
 |bl a=>
  cases ry;cases x with
  |non=>cases rx;exact SeqAt.EqAt.bool_none a
  |bl b=>cases rx;exact SeqAt.EqAt.bool_bool a b
  |int b=>obtain⟨t,rfl⟩:=rx;exact SeqAt.EqAt.bool_int a b t
  |str b=>obtain⟨t,rfl⟩:=rx;exact SeqAt.EqAt.bool_str a b t
  |_=>exact absurd (show false=true from fx) bZ
 |int a=>
  obtain⟨t',rfl⟩:=ry;cases x with
  |non=>cases rx;exact SeqAt.EqAt.int_none a t'
  |bl b=>cases rx;exact SeqAt.EqAt.int_bool a t' b
  |int b=>obtain⟨t,rfl⟩:=rx;exact SeqAt.EqAt.int_int a t' b t
  |str b=>obtain⟨t,rfl⟩:=rx;exact SeqAt.EqAt.int_str a t' b t
  |_=>exact absurd (show false=true from fx) bZ
 |str a=>
  obtain⟨t',rfl⟩:=ry;cases x with
  |non=>cases rx;exact SeqAt.EqAt.str_none a t'
  |bl b=>cases rx;exact SeqAt.EqAt.str_bool a t' b
  |int b=>obtain⟨t,rfl⟩:=rx;exact SeqAt.EqAt.str_int a t' b t
  |str b=>obtain⟨t,rfl⟩:=rx;exact SeqAt.EqAt.str_str a t' b t
  |_=>exact absurd (show false=true from fx) bZ
 |_=>exact absurd (show false=true from fy) bZ
def wC(x:V)(u:Value):Bool:=match u with
 |.none=>CK .non x
 |.bool b=>CK (.bl b) x
 |.int i _=>CK (.int i) x
 |.str z _=>CK (.str z) x
 |_=>false
theorem CL{x y:V}{u:Value}(r:RelV y u)(f:d_ y=true):wC x u=CK y x:=by
 cases y with
 |non=>cases r;rfl
 |bl b=>cases r;rfl
 |int i=>obtain⟨t,rfl⟩:=r;rfl
 |str z=>obtain⟨t,rfl⟩:=r;rfl
 |_=>exact absurd (show false=true from f) bZ
theorem jO{x:V}:∀{xs:List V}{us:B2},Vals xs us->xs.all d_=true->us.any (wC x)=xs.any λy=>CK y x
 |_,_,.nil,_=>rfl
 |y::xs,u::us,.cons r t,f=>by
  rw[e9,cO]at f;rw[qN,qN,CL r f.1,jO t f.2]
theorem iI{A:Around}{s:Shared}{x:V}{v:Value}(rx:RelV x v)(fx:d_ x=true):∀{xs:List V}{us:B2},Vals xs us->xs.all d_=true->∀u∈us,SeqAt.EqAt A s u v (wC x u)
 |_,_,.nil,_=>λu hu=>by cases hu
 |y::xs,u::us,.cons r t,f=>λu' hu=>by
  rw[e9,cO]at f;rcases cu.mp hu with rfl|hu
  ·rw[CL r f.1];exact wB r rx f.1 fx
  ·exact iI rx fx t f.2 u' hu
def Wm(x:V)(xs:List V):Bool:=xs.any λy=>CK y x
def Vj(K:bu)(neg:Bool):R2:=λx y H Q=>∃p xs,y=.ref p/\(dh K H p xs\/k7 K H p xs)/\d_ x=true/\xs.all d_=true/\Q (.bl (if neg then !Wm x xs else Wm x xs)) H
theorem Ay:fR X (compareOp .In) (Vj X.K false):=by
 intro aa s σ H x y v u Q I rx ry h;obtain⟨p,xs,rfl,hq,fx,fs,q⟩:=h;cases ry;rcases hq with hq|hq
 ·obtain⟨its,r,pl,hz⟩:=I.list hq
  refine SeqAt.in_listAt (wC x) pl.isList (λw hw=>iI rx fx r fs w (by simpa using hw)) ⟨.bl _,H,I,rfl,?_⟩
  rw[show its.toArray.any (wC x)=its.any (wC x) by simp,jO r fs]
  exact q
 ·obtain⟨its,r,pl,hz⟩:=I.tuple hq
  refine SeqAt.in_tupleAt (wC x) pl (λw hw=>iI rx fx r fs w (by simpa using hw)) ⟨.bl _,H,I,rfl,?_⟩
  rw[show its.toArray.any (wC x)=its.any (wC x) by simp,jO r fs]
  exact q
theorem rB:fR X (compareOp .NotIn) (Vj X.K true):=by
 intro aa s σ H x y v u Q I rx ry h;obtain⟨p,xs,rfl,hq,fx,fs,q⟩:=h;cases ry;rcases hq with hq|hq
 ·obtain⟨its,r,pl,hz⟩:=I.list hq
  refine SeqAt.notIn_listAt (wC x) pl.isList (λw hw=>iI rx fx r fs w (by simpa using hw)) ⟨.bl _,H,I,rfl,?_⟩
  rw[show its.toArray.any (wC x)=its.any (wC x) by simp,jO r fs]
  exact q
 ·obtain⟨its,r,pl,hz⟩:=I.tuple hq
  refine SeqAt.notIn_tupleAt (wC x) pl (λw hw=>iI rx fx r fs w (by simpa using hw)) ⟨.bl _,H,I,rfl,?_⟩
  rw[show its.toArray.any (wC x)=its.any (wC x) by simp,jO r fs]
  exact q
theorem gM:eY X (.type "list") (λxs H Q=>∃p ys,xs=[.ref p]/\(dh X.K H p ys\/k7 X.K H p ys)/\∀l,H l=none->Q (.ref l) (upd H l (.lst ys))):=by
 intro aa s σ H xs us Q I r h;obtain⟨p,ys,rfl,hq,q⟩:=h;obtain⟨u,rfl,rx⟩:=vals1 r;cases rx;have fin:∀(its:B2),Vals ys its->ys.length<=sizeLine->∀(h':Heap)(c':Nat),(∀b o',s.heap.get? b=some o'->h'.get? b=some o') ->
   h'.get? s.heap.objs.size=some {cls:=.type "list",dict:=none,data:=.seq its.toArray c',slots:=#[]}->EP X aa σ Q (.ref s.heap.objs.size) {s with heap:=h'}:=λits r' hz h' c' kp e=>
  ⟨.ref s.heap.objs.size,_,I.laid (t':=s.toks) kp (cC _) (show bQ X.prog X.w _ h' _ (.lst ys)from⟨hz,its,c',r',e⟩),rfl,q _ (I.bx.fresh (cC _))⟩
 rcases hq with hq|hq
 ·obtain⟨its,r',pl,hz⟩:=I.list hq
  have bO:=r'.length;obtain⟨o,ho,hc,n,hd⟩:=pl.isList;exact call_list_seq p (.inl rfl) ho hc hd (λh' c' kp e=>fin its r' hz h' c' kp e) (by simp only[bX]<;>omega)
 ·obtain⟨its,r',pl,hz⟩:=I.tuple hq
  have bO:=r'.length;obtain⟨o,ho,hc,n,hd⟩:=pl;exact call_list_seq p (.inr rfl) ho hc hd (λh' c' kp e=>fin its r' hz h' c' kp e) (by simp only[bX]<;>omega)
def Zk(K:bu)(T:String)(x:V)(H:Hp):Prop:=match x with
 |.str _=>T = "str"
 |.int _=>T = "int"
 |.ref p=>(T = "list" /\ ∃xs,dh K H p xs)\/(T = "tuple" /\ ∃o,K.lookup p=some o/\o.cls=.type "tuple" /\ o.dict=none) \/
   (T = "dict" /\ ((∃aF,H p=some (.dK aF))\/∃aF,H p=some (.dT aF)))\/(T = "set" /\ ∃S n,H p=some (.set S n))
 |_=>False
theorem Mt{aa:c7}{σ:St}{H:Hp}{s:Shared}{T:String}{x:V}{v:Value}(I:Inv X aa σ H s)(r:RelV x v)(ty:Zk X.K T x H) :
  s.TypeIs v T/\∀a,v=.ref a->∃ob,s.heap.get? a=some ob/\ob.dict=none:=by
 cases x with
 |str z=>
  obtain⟨t,rfl⟩:=r;cases(show T = "str"from ty);exact⟨typeIs_str s z t,λ_ e=>nomatch e⟩
 |int i=>
  obtain⟨t,rfl⟩:=r;cases(show T = "int"from ty);exact⟨typeIs_int s i t,λ_ e=>nomatch e⟩
 |ref p=>
  cases r;rcases ty with⟨rfl,xs,hq⟩|⟨rfl,o,hk,hc,hd⟩|⟨rfl,hk⟩|⟨rfl,S,n,hk⟩
  ·obtain⟨its,_,pl,_⟩:=I.list hq
   refine⟨pl.isList.typeIs,λa e=>?_⟩;cases e;obtain⟨o,n,e,c,hd,_⟩:=pl;exact⟨o,e,hd⟩
  ·refine⟨⟨o,I.jG p o hk,hc⟩,λa e=>?_⟩
   cases e;exact⟨o,I.jG _ o hk,hd⟩
  ·have z:∃o,s.heap.get? p=some o/\o.ExactDict:=by
    rcases hk with⟨aF,hk⟩|⟨aF,hk⟩
    ·obtain⟨_,_,_,_,o,_,_,e,ex,_⟩:=I.bx p _ hk
     exact⟨o,e,ex⟩
    ·obtain⟨_,_,_,_,o,_,_,e,ex,_⟩:=I.bx p _ hk
     exact⟨o,e,ex⟩
   obtain⟨o,e,ex⟩:=z;refine⟨⟨o,e,ex.1⟩,λa e2=>?_⟩;cases e2;exact⟨o,e,ex.2.1⟩
  ·obtain⟨o,_,_,_,e,ex,_⟩:=I.bx p _ hk
   refine⟨⟨o,e,ex.1⟩,λa e2=>?_⟩;cases e2;exact⟨o,e,ex.2.1⟩
 |_=>exact False.elim ty
def Zl(K:bu)(T:String)(r:V->List V->Hp->VK->Prop)(to:TE)(t:TA):TE:=λσ H Q=>to σ H λx H1=>Zk K T x H1/\t σ H1 λxs H2=>r x xs H2 Q
variable{o e:Expr}{es:Bz}{to:TE}{t:TA}{name:Str}{b_ c9:Pos}{T id:String}{r:V->List V->Hp->VK->Prop}
theorem CM(pa:PlainAttrs T)(slot:Slot T name id)(Wn:typeOf (.builtin id)=pure (.type "method_descriptor"))(hm:Ax X id r)(ho:PE X o to)(ha:PA X (e::es) t)
  (Q2:attributeBase o name X.env (eval o X.env)=eval o X.env:=by rfl)
  (Mu:((backTo c9 (starEach (e::es) X.env)).all (λx=>!x.1)&&(backToKw c9 (keywordEach [] X.env)).all (λx=>x.1.isSome)
   && decide ((e::es).length+([]:List Keyword).length+(if([]:List Keyword).isEmpty then 0 else 1)<30))=true:=by rfl)
  (mW:(b_.endLine == c9.line)=true:=by rfl) (hs:starEach (e::es) X.env=(false,eval e X.env)::starEach es X.env:=by rfl) (Mv:(backTo c9 (starEach es X.env)).any (·.1)=false:=by rfl) :
  PE X (.Call (.Attribute o name b_) (e::es) [] c9) (Zl X.K T r to t):=by
 intro aa s σ H Q I h;refine wpAny_Call_method_late Q2 Mu mW rfl (bJ (ho aa s σ H _ I h) λv s1 zz=>?_);obtain⟨x,H1,I1,r1,ty,q1⟩:=zz;obtain⟨h1,h2⟩:=Mt I1 r1 ty;refine⟨T,id,pa,slot,Wn,h1,h2,?_⟩;have hA:=ha c9 aa s1 σ H1 _ I1 q1;rw[hs]at hA ⊢;refine Calls.callWith_builtin (by show(false ||(backTo c9 (starEach es X.env)).any (·.1))=false;rw[Mv]<;>rfl) (Calls.evalArgs_plain ?_)
 exact bJ hA λus s2 ⟨vs,H2,I2,r2,q2⟩=>hm aa s2 σ H2 x vs v us Q I2 r1 r2 q2
end
def MtM(X:Cx)(id:String)(r:V->List V->Hp->VK->Prop):Prop:=
 ∀(aa:c7)(s:Shared)(σ:St)(H:Hp)(x:V)(xs:List V)(v:Value)(us:B2)(Q:VK),Inv X aa σ H s->RelV x v->Vals xs us->r x xs H Q ->
  wpAny (model X.prog X.w) X.A (call (.builtin id) (v::us)) (EP X aa σ Q) X.xe s
theorem Vals.one:∀{x:V}{us:B2},Vals [x] us->∃u,us=[u]/\RelV x u
 |_,_,.cons r .nil=>⟨_,rfl,r⟩
theorem Vals.two:∀{x y:V}{us:B2},Vals [x,y] us->∃u v,us=[u,v]/\RelV x u/\RelV y v
 |_,_,_,.cons r (.cons q .nil)=>⟨_,_,rfl,r,q⟩
theorem Vals.rep{xs:List V}{us:B2}(h:Vals xs us):∀k:Nat,Vals (ck k xs).flatten (ck k us).flatten
 |0=>.nil
 |k+1=>by
  rw[jF,jF,sX,sX];exact Vals.append h (Vals.rep h k)
theorem foldl_rep(its:B2):∀(k:Nat)(dD:B2),
  BK (λx1 x2=>x1++x2) dD.toArray (ck k its.toArray)=(dD++(ck k its).flatten).toArray
 |0,dD=>by simp
 |k+1,dD=>by
  have e:dD.toArray++its.toArray=(dD++its).toArray:=by simp
  have e2:(dD++its)++(ck k its).flatten=dD++(ck (k+1) its).flatten:=by
   rw[jF,sX,c6]
  rw[<- e2,<- foldl_rep its k (dD++its),<- e,jF,z9]
section
variable{aa:c7}{σ:St}{H:Hp}{s:Shared}{l b:Addr}{xs ys zs:List V}
theorem Inv.Wo{its its':B2}{n:Nat}{f:Array Value->Array Value}{t':Nat}(I:Inv X aa σ H s)(hH:H l=some (.lst xs))
  (e:s.heap.get? l=some {cls:=.type "list",data:=.seq its.toArray n}) (hf:f its.toArray=its'.toArray) (hv:Vals ys its') (hz:ys.length<=sizeLine) :
  Inv X aa σ (upd H l (.lst ys)) {s with heap:=s.heap.update l (Obj.mapSeq f),toks:=t'}:=by
 have q:=PySem.IsL.update e f;rw[hf]at q;refine I.write (x:=l) (e:=l) (by rw[hH];exact trivial) (.inl rfl) (λb' u hb hu=>(Heap.get?_update_other s.heap (Obj.mapSeq f) (Ne.symm hb)).trans hu) ⟨_,q⟩ ?_
 exact⟨hz,its',_,hv,q⟩
theorem Inv.Az{its:B2}{t':Nat}(I:Inv X aa σ H s)(hv:Vals ys its)(hz:ys.length<=sizeLine) :
  Inv X aa σ (upd H s.heap.objs.size (.lst ys)) {s with heap:=s.heap.push {cls:=.type "list",data:=.seq its.toArray},toks:=t'}:=
 I.laid (λ_ _ q=>Heap.get?_push_of_some _ q) (cC _) ⟨hz,its,0,hv,Heap.get?_push_size _ rfl⟩
theorem Inv.fresh(I:Inv X aa σ H s):H s.heap.objs.size=none:=I.bx.fresh (cC _)
theorem Inv.GU(I:Inv X aa σ H s)(hH:H l=some (.lst xs)):xs.length<=sizeLine/\∃(its:B2)(n:Nat),Vals xs its/\xs.length=its.length/\s.heap.get? l=some {cls:=.type "list",data:=.seq its.toArray n}:=by
 obtain⟨z,its,n,r,e⟩:=I.bx l _ hH;exact⟨z,its,n,r,r.length,e⟩
theorem CN{n:Nat}(h:n<=sizeLine):Builtin.List.listTooLong n=false:=by
 unfold Builtin.List.listTooLong;exact decide_eq_false (by omega)
end
section
def GV:V->List V->Hp->VK->Prop:=λx vs H Q=>∃l xs y,x=.ref l/\vs=[y]/\H l=some (.lst xs)/\xs.length<sizeLine/\Q .non (upd H l (.lst (xs++[y])))
theorem kD:MtM X "list.append" GV:=by
 intro aa s σ H x vs v us Q I rx rv h;obtain⟨l,xs,y,rfl,rfl,hH,hz,q⟩:=h;cases rx;obtain⟨u,rfl,ru⟩:=rv.one;obtain⟨z,its,n,r,hl,e⟩:=I.GU hH;refine call_meets F.slot_list_append ⟨_,e,rfl⟩ F.entry_list_append (F.args_list_append_2 _ _) (PySem.list_append l its.toArray n u (by rw[bX];omega)) ⟨e,?_⟩
 refine⟨.non,_,I.Wo (its':=its++[u]) hH e (by simp) (r.append (.cons ru .nil)) ?_,rfl,q⟩
 rw[cK,z_];omega
def Q3:R2:=λx y H Q=>∃l b xs zs,x=.ref l/\y=.ref b/\H l=some (.lst xs)/\H b=some (.lst zs)/\xs.length+zs.length<=sizeLine/\∀p,H p=none->Q (.ref p) (upd H p (.lst (xs++zs)))
theorem Mw:fR X (binaryOp .Add) Q3:=by
 intro aa s σ H x y v u Q I rx ry h;obtain⟨l,b,xs,zs,rfl,rfl,hH,hB,hz,q⟩:=h;cases rx;cases ry;obtain⟨z,its,n,r,hl,e⟩:=I.GU hH;obtain⟨z2,Q4,n2,r2,FQ,e2⟩:=I.GU hB;refine PySem.P.add_list e e2 ?_ (by rw[bX,bX];omega)
 have ea:its.toArray++Q4.toArray=(its++Q4).toArray:=by simp
 rw[ea];exact⟨.ref _,_,I.Az (t':=s.toks) (r.append r2) (by rw[cK];omega),rfl,q _ I.fresh⟩
def Q5:R2:=λx y H Q=>∃l k xs,x=.ref l/\y=.int k/\H l=some (.lst xs)/\-(2^63)<=k/\k<2^63/\xs.length*k.toNat<=sizeLine /\
 ∀p,H p=none->Q (.ref p) (upd H p (.lst (ck k.toNat xs).flatten))
theorem len_rep{α:Type}(xs:List α)(k:Nat):(ck k xs).flatten.length=k*xs.length:=by
 induction k with
 |zero=>simp
 |succ k ih=>rw[jF,sX,cK,ih,JX,Nat.add_comm]
theorem CO:fR X (binaryOp .Mult) Q5:=by
 intro aa s σ H x y v u Q I rx ry h;obtain⟨l,k,xs,rfl,rfl,hH,h1,h2,hz,q⟩:=h;cases rx;obtain⟨t,rfl⟩:=ry;obtain⟨z,its,n,r,hl,e⟩:=I.GU hH;have bO:its.toArray.size*k.toNat<=sizeLine:=by rw[bX,<- hl];exact hz
 have Wq:¬ its.toArray.size*k.toNat > (2^63-1)/8:=by
  have:(sizeLine:Nat)<=(2^63-1)/8:=by decide
  omega
 have Wr:¬ (!Builtin.List.listFitsIndex k)=true:=by
  rw[fitsIndex_both h1 h2];exact bZ
 have Q6:¬ Builtin.List.listTooLong (its.toArray.size*k.toNat)=true:=by
  rw[CN bO];exact bZ
 have Ws:BK (λx1 x2=>x1++x2) #[] (ck (if its.toArray.isEmpty=true then 0 else k.toNat) its.toArray)=(ck k.toNat its).flatten.toArray:=by
  have f0:∀m:Nat,BK (λx1 x2=>x1++x2) #[] (ck m its.toArray)=(ck m its).flatten.toArray:=λm=>by
   have:=foldl_rep its m []
   rw[o9]at this;exact this
  rw[f0];cases its with
  |nil=>simp
  |cons a r'=>rw[if_neg (by simp)]
 refine wpAny_binaryOp_repeat_ref (T := "list") (U := "int") (by decide) ⟨_,e,rfl⟩ (λs'=>typeIs_int s' k t) noFill_list_mul F.fills_int_mul F.slot_int_rmul repeat_list F.slot_int_index.lookup
  (call_meets F.slot_int_rmul (typeIs_int s k t) F.entry_int_rmul (F.args_int_rmul_2 _ _) (int___rmul___int_list k t l its.toArray n)
   ⟨e,rfl,⟨_,e,rfl⟩,call_meets F.slot_list_mul ⟨_,e,rfl⟩ F.entry_list_mul (F.args_list_mul_2 _ _) (AutoListH.list___mul___list_int_3 l its.toArray n k t Wr Wq Q6) ⟨e,?_⟩⟩)
 rw[Ws];exact⟨.ref _,_,I.Az (t':=s.toks) (r.rep k.toNat) (by rw[len_rep,Nat.mul_comm];exact hz),rfl,q _ I.fresh⟩
end
section
variable{prog:Program}{w:World}{A:Around}{E:Value->Shared->Prop}{s:Shared}
set_option maxRecDepth 100000 in
end
section
end
end L2
namespace Att
open PySem PySem.W PySem.Calls PyProof.Rows
theorem lI{P:Params}{h:Heap}:∀(ns:Dx)(vs:B2),WellAll P h vs (ns.map WData.int)->IntsAre vs ns:=by
 intro ns
 induction ns with
 |nil=>
  intro vs w;rw[BL]at w;cases w;exact .nil
 |cons n ns ih=>
  intro vs w;rw[cU]at w;cases w with
  |cons a b=>
   cases a;exact .cons _ _ (ih _ b)
theorem AA{l:OpenLaw}{n:Nat}(hn:l.most=some n){P:Params}{h:Heap}{args:List WData}{vals:B2}
  (GW:l.row.toRowW.claim.pre args=true) (Wt:WellAll P h vals args) :
  ∃a vs ns,vals=[Value.ref a]/\args=[WData.list (ns.map WData.int)]/\h.get? a=some {cls:=.type "list",data:=.seq vs.toArray}/\IntsAre vs ns/\ns.length<=n:=by
 have Wu:WShape.hasAll [] args [.list .int]=true:=(pre_splitW GW).1;have hc:l.pre.holds [] {args:=args}=true:=(pre_splitW GW).2;obtain⟨d,r,rfl,h1,h2⟩:=hasAllW_cons Wu
 obtain rfl:=hasAllW_nil h2
 obtain⟨xs,rfl,h3⟩:=hasW_list h1;obtain⟨ns,rfl⟩:=items_int h3;have bO:ns.length<=n:=by
  unfold OpenLaw.pre at hc;have h4:(WTm.not (.lt (.lit (.int (n:Int))) (.len (.arg 0)))).holds [] {args:=[.list (ns.map .int)]}=true:=by
   have h4:=(holds_andW hc).1;rw[hn]at h4;exact h4
  have h5:=condW_of h4 (w_not (w_lt w_lit (w_len_list (w_arg rfl))));rw[bF]at h5;refine Nat.le_of_not_lt λq=>?_;have q':(n:Int)<((ns.length:Nat):Int):=by omega
  first
   |(rw[decide_eq_true q']at h5;exact absurd h5 (by decide))
   |(simp at h5;omega)
 cases Wt with
 |cons w1 w2=>
  cases w2;cases w1 with
  |list ho Mx=>exact⟨_,_,ns,rfl,rfl,ho,lI ns _ Mx,bO⟩
theorem AB(l:OpenLaw)(args:List WData):l.row.toRowW.claim.post args (.bool true) args=true:=
 postW_of (r:=l.row.toRowW) (X:=(true == true))
  (show WShape.has [] (.bool true) .bool=true by first|rfl|decide|simp[WShape.has,WShape.arms,WShape.armsAll])
  (show(WTm.eq .res (.lit (.bool true))).value [] {args:=args,res:=some (.bool true),after:=args}=some (.bool (true == true))from w_eq_bool (w_res rfl) w_lit) rfl
section
variable{prog:Program}{w:World}{A:Around}{E:Value->Shared->Prop}{s:Shared}{K:Frag}
end
end Att
namespace L2
open PySem PySem.Spec PyProof.Rows
theorem qh:∀{vs:B2}{ns:Dx},IntsAre vs ns->Vals (ns.map V.int) vs
 |_,_,.nil=>.nil
 |_,_,.cons n t h=>.cons ⟨t,rfl⟩ (qh h)
def My(H:Hp):Prop:=∀b,H b=none\/∃o xs,H b=some (.iU o (.lst xs))
theorem CP{P:Program}{w:World}{K:bu}{mg mb:Str->D1}{CX:Cz}{k:Nat}{fa a:Addr}{fd:FuncData}{x:Str}{sp:Sp}{s₁:Shared}{vs:B2}{ns:Dx}
  (KX:K.In s₁.heap) (vP:s₁.heap.Ns mainGlobals mg) (hb:s₁.heap.Ns builtinsNs mb) (hbb:∀x:Str,x ≠ "__name__" -> mb x=bootBuiltins x) (Wv:s₁.heap.NoLimit) (hg:s₁.gens=#[])
  (ha:s₁.heap.get? a=some {cls:=.type "list",data:=.seq vs.toArray}) (hi:IntsAre vs ns) (hl:ns.length<=sizeLine) (hr:bC k callerA)
  (F:∀base:Heap,K.In base->base.Ns mainGlobals mg->dH P w K mg base CX k fa fd [x] sp) (Q7:∀(s:Shared)(u:Value),BindsTo s fd ⟨[u],[]⟩ [(x,u)])
  (GL:∀H:Hp,My H->dh K H a (ns.map V.int)->sp [.ref a] H (λv _=>v=.bl true) λ_ _ _=>False)
  (hCX:∀H e s',CX [] H s₁ (λ_ _ _=>False) e s'->False) :
  codeAny (model P w) callerA (.call (.ref fa) ⟨[.ref a],[]⟩) (λr s'=>r=.ok (.ret (.bool true))/\OldK s₁.heap s'.heap/\s'.os=s₁.os/\AllBare s'.gens) s₁:=by
 have rv:=qh hi;have Ww:=hi.length;have core:∀H:Hp,My H->dh K H a (ns.map V.int)->jC P w H s₁.heap->(∀b,H b≠none->b=a)->(H a≠none->K.lookup a=none) ->
   codeAny (model P w) callerA (.call (.ref fa) ⟨[.ref a],[]⟩) (λr s'=>r=.ok (.ret (.bool true))/\OldK s₁.heap s'.heap/\s'.os=s₁.os/\AllBare s'.gens) s₁:=by
  intro H hO hS bx hA hK;have yt:∀{b:Addr}{o:Obj},s₁.heap.get? b=some o->H b=none->(qV s₁.heap H).get? b=some o:=λe n=>Cf e n;have QR:∀{b:Addr}{o:Obj}{es:Array DictEntry}{ep:Nat},s₁.heap.get? b=some o->o.data=.dict es ep->H b=none:=λ{b o es ep} e d=>by
   cases q:H b with
   |none=>rfl
   |some u=>
    have e':b=a:=hA b (by rw[q];simp)
    subst e';rw[ha]at e;cases e;have d':Data.seq vs.toArray _=Data.dict es ep:=d;cases d'
  have Vk:∀{b:Addr}{m:Str->D1},s₁.heap.Ns b m->(qV s₁.heap H).Ns b m:=λ{b m} ⟨o,es,ep,e,d,r⟩=>⟨o,es,ep,yt e (QR e d),d,r⟩;have Zm:K.In (qV s₁.heap H):=λb o e=>yt (KX b o e) (by
   cases q:H b with
   |none=>rfl
   |some u=>
    have e':b=a:=hA b (by rw[q];simp)
    subst e';rw[hK (by rw[q];simp)]at e;cases e)
  have hM:Mod K mg (qV s₁.heap H):=⟨Zm,Vk vP,⟨mb,Vk hb,hbb⟩,let⟨mc,h1,h2⟩:=Wv;⟨mc,Vk h1,h2⟩⟩;have e0:wu P w K mg (qV s₁.heap H) callerA [] s₁ H:=⟨rfl,hM,λb o e=>Gn e,tu (Ak _ _),trivial,λb hb=>absurd (show b∈([]:BM)from hb) (by simp),bx,.of_eq hg⟩
  refine codeAny_mono ((F _ Zm (Vk vP)).run callerA [] s₁ H ⟨[.ref a],[]⟩ [.ref a] [.ref a] _ _ hr e0 (Q7 s₁ (.ref a)) (.cons rfl .nil) (GL H hO hS)) λr s' h=>?_;cases r with
  |error e=>exact(hCX H e s' h).elim
  |ok fl=>
   cases fl with
   |next=>exact False.elim h
   |brk=>exact False.elim h
   |cont=>exact False.elim h
   |ret u=>
    obtain⟨v,H',os,bare,un,Wx,r',q⟩:=h;have q':v=.bl true:=q;subst q'
    obtain rfl:u=Value.bool true:=r'
    refine⟨rfl,OldK.of_keep λb o e=>?_,os,bare⟩;cases q:H b with
    |none=>exact un.keep b o e q (by intro z;exact absurd (show b∈([]:BM)from z) (by simp)) (by simp)
    |some u=>
     rcases hO b with z|⟨ob,xs,z⟩
     ·rw[q]at z;cases z
     ·have z2:=un.qU b ob _ z
      obtain⟨e1,_⟩:=bx b _ z;obtain⟨e2,_⟩:=Wx b _ z2;rw[e]at e1;cases e1;exact e2
 cases hk:K.lookup a with
 |some o=>
  have e:=KX a o hk;rw[ha]at e;cases e;refine core (λ_=>none) (λ_=>.inl rfl) (.inr ⟨_,vs.toArray,_,hk,rfl,rfl,rfl,by rw[bX,Ww];exact hl,by simpa using rv⟩) (λb u z=>by have z':(none:Option HO)=some u:=z;cases z') (λb z=>absurd rfl z) λz=>absurd rfl z
 |none=>
  refine core (λb=>if b=a then some (.iU {cls:=.type "list",data:=.seq vs.toArray} (.lst (ns.map V.int)))else none) (λb=>?_) (.inl (.inr ⟨{cls:=.type "list",data:=.seq vs.toArray},if_pos rfl⟩)) (λb u z=>?_) (λb z=>?_) λ_=>hk
  ·by_cases hb:b=a
   ·exact .inr ⟨_,_,if_pos hb⟩
   ·exact .inl (if_neg hb)
  ·by_cases hb:b=a
   ·have z':=(if_pos hb).symm.trans z
    cases z';subst hb;exact⟨ha,by rw[bF];exact hl,vs,_,rv,ha⟩
   ·have z':=(if_neg hb).symm.trans z
    cases z'
  ·by_cases hb:b=a
   ·exact hb
   ·exact absurd (if_neg hb) z
def inClass(s:Stmt)(j:Nat):Stmt:=match s with
 |.ClassDef _ _ _ body _ _ _ _ _ _ _=>body.getD j (.Pass ⟨0,0,0,0⟩)
 |_=>.Pass ⟨0,0,0,0⟩
def jP(s:Stmt):Arguments:=match s with
 |.FunctionDef _ a _ _ _ _ _ _ _ _=>a
 |_=>{posonlyargs:=[],args:=[],vararg:=none,kwonlyargs:=[],kw_defaults:=[],kwarg:=none,defaults:=[]}
def cL(s:Stmt):Ee:=match s with
 |.FunctionDef _ _ b _ _ _ _ _ _ _=>b
 |_=>[]
def aD(s:Stmt):Scope:=match s with
 |.FunctionDef _ _ _ _ _ _ sc _ _ _=>sc
 |_=>{kind:=.function,names:=[],isGenerator:=false,isCoroutine:=false}
abbrev lJ:Cz:=λ_ _ _ _ _ _=>False
abbrev E0:XK:=λ_ _ _=>False
theorem mX{X:Cx}:Passes lJ X E0:=λ_ _ _ _ _ _ _ h=>h.elim
section
variable{P:Program}{w:World}{K:bu}{mg:Str->D1}{base:Heap}
end
section
variable{X:Cx}
end
theorem uc{A B:Prop}(h:B):if false=true then A else B:=by
 rw[if_neg bZ];exact h
theorem ud{A B:Prop}(h:A):if true=true then A else B:=by
 rw[if_pos rfl];exact h
def aK(H H':Hp):Prop:=∀b o,H b=some o->H' b=some o
theorem aK.refl(H:Hp):aK H H:=λ_ _ h=>h
theorem aK.trans{H H1 H2:Hp}(a:aK H H1)(b:aK H1 H2):aK H H2:=λc o h=>b c o (a c o h)
theorem aK.free{H H':Hp}(e:aK H H'){l:Addr}(h:H' l=J7):H l=J7:=by
 cases q:H l with
 |none=>rfl
 |some o=>
  rw[e l o q]at h;cases h
theorem aK.seq{K:bu}{H H':Hp}{a:Addr}{xs:List V}(e:aK H H')(h:dh K H a xs):dh K H' a xs:=by
 rcases h with(h|⟨o,h⟩)|h
 ·exact .inl (.inl (e _ _ h))
 ·exact .inl (.inr ⟨o,e _ _ h⟩)
 ·exact .inr h
end L2
set_option maxHeartbeats 400000
namespace L2
open PySem PySem.Spec PyProof.Rows
theorem AD{prog:Program}{w:World}{A:Around}{R:Result->Shared->Prop}{s:Shared}{elt target iter:Expr}{ifs:Bz}{scope:Scope}{pos:Pos}{it dD:Value}{env:Env}(I:Nat->Shared->Prop)
  (turn:∀n s,I n s->wpAny (model prog w) A (pyNext it) (λr s₁=>match r with
   |none=>R (.ok .next) s₁
   |some v=>wpAny (model prog w) A (letOwnedTupleGo target it v) (λ_ s₀=>wpAny (model prog w) A (assign target env v) (λ_ s₂=>
     wpAny (model prog w) A (forIn ifs true λc r=>if r=true then do let ok <- isTrue c env (eval c env);pure (ForInStep.yield ok)else pure (ForInStep.yield r)) (λok s₃=>
      if ok=true then wpAny (model prog w) A (eval elt env) (λx s₄=>
       wpAny (model prog w) A (call (.builtin "list.append") [dD,x]) (λ_ s₅=>∃m,m<n/\I m s₅) (λ_ _=>False) s₄) (λ_ _=>False) s₃
      else ∃m,m<n/\I m s₃) (λ_ _=>False) s₂) (λ_ _=>False) s₀) (λ_ _=>False) s₁) (λ_ _=>False) s)
  (n:Nat) (h:I n s):codeAny (model prog w) A (.compLoop (.ListComp elt [⟨target,iter,ifs,0⟩] scope pos) 0 it dD env) R s:=by
 refine codeAny_loop rfl I (λn s hI=>?_) n h;show wpAny _ A ((compTurn (.ListComp elt [⟨target,iter,ifs,0⟩] scope pos) 0 it dD env).onRaise (λx=>do noteFrame x env;theTreesLotGoes x)) _ _ s
 refine wpAny_noted ?_;rw[compTurn_list];refine wpAny_bind (wpAny_standAt (wpAny_bind (wpAny_mono (turn n s hI) (λr s₁ h₁=>?_) λ_ _ h'=>h'.elim)));cases r with
 |none=>exact wpAny_pure h₁
 |some v=>
  refine wpAny_bind (wpAny_mono h₁ (λ_ s₀ h₀=>wpAny_bind (wpAny_mono h₀ (λ_ s₂ h₂=>wpAny_bind (wpAny_mono h₂ (λok s₃ h₃=>?_) λ_ _ h'=>h'.elim)) λ_ _ h'=>h'.elim)) λ_ _ h'=>h'.elim);cases ok with
  |false=>exact wpAny_pure ⟨rfl,h₃⟩
  |true=>
   exact wpAny_bind (wpAny_bind (wpAny_mono h₃ (λx s₄ h₄=>wpAny_bind (wpAny_mono h₄ (λ_ s₅ h₅=>wpAny_pure (wpAny_pure ⟨rfl,h₅⟩)) λ_ _ h'=>h'.elim)) λ_ _ h'=>h'.elim))
theorem gu(env:Env):∀(names:List (Str×NameKind))(dD:List (Str×Addr)),(∀p∈names,p.2=.free->∃c,env.cells.lookup p.1=some c)->(∀x c,dD.lookup x=some c->env.cells.lookup x=some c) ->
  ∃cl,(forIn names dD λ(p:Str×NameKind) (cs:List (Str×Addr))=>if p.2 == .free then do let c <- cellOf env p.1;pure (ForInStep.yield ((p.1,c)::cs))else pure (ForInStep.yield cs):Sem (List (Str×Addr)))=pure cl /\
   (∀x c,cl.lookup x=some c->env.cells.lookup x=some c)/\(∀x c,dD.lookup x=some c->∃c',cl.lookup x=some c')/\(∀p∈names,p.2=.free->∃c,cl.lookup p.1=some c)
 |[],dD,_,ha=>⟨dD,rfl,ha,λx c e=>⟨c,e⟩,λ_ h=>nomatch h⟩
 |(n,k)::r,dD,hn,ha=>by
  by_cases hk:k=.free
  ·subst hk
   obtain⟨c,hc⟩:=hn (n,.free) eg rfl;have Vl:∀x d,((n,c)::dD).lookup x=some d->env.cells.lookup x=some d:=λx d e=>by
    rw[jf]at e;cases hx:x == n with
    |true=>rw[hx]at e;have hx:=eq_of_beq hx;subst hx;cases e;exact hc
    |false=>rw[hx]at e;exact ha x d e
   obtain⟨cl,e,h1,h2,h3⟩:=gu env r ((n,c)::dD) (λp hp=>hn p (ez _ hp)) Vl;have self:∃c',cl.lookup n=some c':=h2 n c (by rw[jf];simp)
   refine⟨cl,?_,h1,λx d hx=>?_,λp hp hf=>?_⟩
   ·rw[xY]
    show((do let c <- cellOf env n;pure (ForInStep.yield ((n,c)::dD))) >>= _)=_
    unfold cellOf;rw[hc];exact e
   ·cases hx':x == n with
    |true=>have:=eq_of_beq hx';subst this;exact self
    |false=>exact h2 x d (by rw[jf,hx'];exact hx)
   ·rcases cu.mp hp with rfl|hp
    ·exact self
    ·exact h3 p hp hf
  ·obtain⟨cl,e,h1,h2,h3⟩:=gu env r dD (λp hp=>hn p (ez _ hp)) ha
   refine⟨cl,?_,h1,h2,λp hp hf=>?_⟩
   ·rw[xY]
    have hb:(k == NameKind.free)=false:=by simpa using hk
    show((if(k == NameKind.free)=true then _ else pure (ForInStep.yield dD)) >>= _)=_
    rw[hb];exact e
   ·rcases cu.mp hp with rfl|hp
    ·exact absurd hf hk
    ·exact h3 p hp hf
theorem pG{scope:Scope}{env:Env}(h:∀p∈scope.names,p.2=.free->∃c,env.cells.lookup p.1=some c) :
  ∃cl,closureFor scope env=pure cl/\(∀x c,cl.lookup x=some c->env.cells.lookup x=some c)/\∀p∈scope.names,p.2=.free->∃c,cl.lookup p.1=some c:=by
 obtain⟨cl,e,h1,_,h3⟩:=gu env scope.names [] h (λ_ _ e=>nomatch e);refine⟨cl,?_,h1,h3⟩;unfold closureFor;exact(congrArg (λz:Sem (List (Str×Addr))=>z >>= λcs=>pure cs) e)
abbrev Cx.block(X:Cx)(N:Bi)(scope:Scope)(cl:List (Str×Addr))(C:Addr)(fp:BM)(s:Shared)(H:Hp):Cx where
 prog:=X.prog
 w:=X.w
 K:=X.K
 mg:=X.mg
 base:=X.base
 A:=X.A
 N:=N
 s₀:=s
 H₀:=H
 env:=compEnvC scope cl C X.env
 outer:=X.stack
 stack:=X.stack
 ex:=fp
 fn:=λ_=>false
 calm:=X.calm
 pn:=[]
 xe:=λ_ _=>False
inductive fm(X:Cx)(scope:Scope):B1->Bi->Prop where
 |nil:fm X scope [] []
 |cons {j:Nat} {x:Str} {js:B1} {xs:Bi}:X.N[j]?=some x->scope.names.lookup x=some .free->X.env.kindOf x=some .cell->fm X scope js xs->fm X scope (j::js) (x::xs)
theorem fm.get{X:Cx}{scope:Scope}:∀{js:B1}{xs:Bi},fm X scope js xs->∀{i:Nat}{x:Str},xs[i]?=some x->∃j,js[i]?=some j/\X.N[j]?=some x/\scope.names.lookup x=some .free/\X.env.kindOf x=some .cell
 |_,_,.nil,_,_,e=>by simp at e
 |_,_,.cons h1 h2 h3 _,0,_,e=>by simp at e;subst e;exact⟨_,rfl,h1,h2,h3⟩
 |_,_,.cons _ _ _ t,i+1,_,e=>by
  obtain⟨j,a,b⟩:=t.get (i:=i) (by simpa using e)
  exact⟨j,by simpa using a,b⟩
theorem fm.length{X:Cx}{scope:Scope}:∀{js:B1}{xs:Bi},fm X scope js xs->js.length=xs.length
 |_,_,.nil=>rfl
 |_,_,.cons _ _ _ t=>by simp[t.length]
def cM(k:Nat)(js:B1)(σ:St):St:=ck k none++js.map λj=>(σ[j]?).join
theorem eZ{env:Env}(hk:env.scope.kind=.function):∀{names:List (Str×NameKind)}{x:Str},names.lookup x=some .free->env.kindOf x=some .cell ->
  (names.map λ(n,k)=>if(k == NameKind.free&&env.scope.kind == .function&&env.kindOf n == some .cell)then(n,NameKind.cell)else(n,k)).lookup x=some .cell
 |[],_,h,_=>by simp at h
 |(n,k)::r,x,h,hc=>by
  have ih:=@eZ env hk r x;show lD x ((if(k == NameKind.free&&env.scope.kind == .function&&env.kindOf n == some .cell)=true then(n,NameKind.cell)else(n,k))::_)=_
  cases hx:x == n with
  |true=>
   have e:=eq_of_beq hx;subst e;simp only[jf,hx]at h;cases h;rw[if_pos (by rw[hk,hc];rfl)]
   simp[jf]
  |false=>
   simp only[jf,hx]at h;by_cases hq:(k == NameKind.free&&env.scope.kind == .function&&env.kindOf n == some .cell)=true
   ·rw[if_pos hq];simp only[jf,hx];exact ih h hc
   ·rw[if_neg hq];simp only[jf,hx];exact ih h hc
theorem fq{env:Env}:∀{names:List (Str×NameKind)}{x:Str},(∀p∈names,p.2≠.cell) ->
  ((names.map λ(n,k)=>if(k == NameKind.free&&env.scope.kind == .function&&env.kindOf n == some .cell)then(n,NameKind.cell)else(n,k)).lookup x=some .cell \/
   (names.map λ(n,k)=>if(k == NameKind.free&&env.scope.kind == .function&&env.kindOf n == some .cell)then(n,NameKind.cell)else(n,k)).lookup x=some .free)->∃p∈names,p.1=x/\p.2=.free
 |[],_,_,h=>by simp at h
 |(n,k)::r,x,hn,h=>by
  have ih:=@fq env r x (λp hp=>hn p (ez _ hp));have h:lD x ((if(k == NameKind.free&&env.scope.kind == .function&&env.kindOf n == some .cell)=true then(n,NameKind.cell)else(n,k))::(r.map λ(n,k)=>if(k == NameKind.free&&env.scope.kind == .function&&env.kindOf n == some .cell)then(n,NameKind.cell)else(n,k)))=some .cell \/
   lD x ((if(k == NameKind.free&&env.scope.kind == .function&&env.kindOf n == some .cell)=true then(n,NameKind.cell)else(n,k))::(r.map λ(n,k)=>if(k == NameKind.free&&env.scope.kind == .function&&env.kindOf n == some .cell)then(n,NameKind.cell)else(n,k)))=some .free:=h
  cases hx:x == n with
  |true=>
   have e:=eq_of_beq hx;subst e;refine⟨(x,k),eg,rfl,?_⟩;by_cases hq:(k == NameKind.free&&env.scope.kind == .function&&env.kindOf x == some .cell)=true
   ·cases k<;>first|rfl|(simp at hq)
   ·rw[if_neg hq]at h
    simp only[jf,beq_self_eq_true]at h;rcases h with h|h
    ·cases h;exact absurd rfl (hn (x,.cell) eg)
    ·cases h;rfl
  |false=>
   have h':lD x (r.map λ(n,k)=>if(k == NameKind.free&&env.scope.kind == .function&&env.kindOf n == some .cell)then(n,NameKind.cell)else(n,k))=some .cell \/
    lD x (r.map λ(n,k)=>if(k == NameKind.free&&env.scope.kind == .function&&env.kindOf n == some .cell)then(n,NameKind.cell)else(n,k))=some .free:=by
    by_cases hq:(k == NameKind.free&&env.scope.kind == .function&&env.kindOf n == some .cell)=true
    ·rw[if_pos hq]at h;simp only[jf,hx]at h;exact h
    ·rw[if_neg hq]at h;simp only[jf,hx]at h;exact h
   obtain⟨p,hp,e1,e2⟩:=ih h';exact⟨p,ez _ hp,e1,e2⟩
structure fX(X:Cx)(scope:Scope):Prop where
 kind:scope.kind=.function
 nocell:∀p∈scope.names,p.2≠.cell
 names:∀p∈scope.names,p.2=.local->scope.names.lookup p.1=some .local
 frees:∀p∈scope.names,p.2=.free->X.env.kindOf p.1=some .cell
variable{X:Cx}{tg:Expr}
section
variable{aa:c7}{σ:St}{H:Hp}{s:Shared}
theorem Inv.enter{ls fs:Bi}{js:B1}{scope:Scope}{cl:List (Str×Addr)}{fp:BM}{h₁:Heap}{tk:Nat}(I:Inv X aa σ H s)(S:fX X scope)(F:fm X scope js fs)
  (wD:∀x c,cl.lookup x=some c->X.env.cells.lookup x=some c) (Zn:∀p∈scope.names,p.2=.free->∃c,cl.lookup p.1=some c)
  (hf:∀b∈fp,mL X aa H b) (hfz:∀b∈fp,b<s.heap.objs.size) (vP:h₁.Ns s.heap.objs.size (λ_=>none)) (hk:∀b o,s.heap.get? b=some o->h₁.get? b=some o) :
  Inv (X.block (ls++fs) scope cl s.heap.objs.size fp s H) [] (cM ls.length js σ) H {s with heap:=h₁,toks:=tk}:=by
 have aab:∀x c,cl.lookup x=some c->c<s.heap.objs.size:=λx c e=>by
  obtain⟨v,q⟩:=I.cell x c (wD x c e);exact q.lt
 refine⟨⟨I.ok.mod,?_,I.ok.glob,I.ok.blt,cC _,λx y c h1 h2=>I.ok.inj x y c (wD x c h1) (wD y c h2),λx hx=>?_,(λx c hx=>by cases hx),I.ok.hd,I.ok.frames,.inl rfl,λb hb=>⟨fk (hfz b hb),λx c e=>(hf b hb).2.2.2.2.1 x c (wD x c e)⟩,
  I.bs,gA I.ok.bsz I.sz,λb o e hb=>?_,λb hb z=>?_,I.stack,I.yj⟩,rfl,I.bare,Un.kept hk,⟨_,vP,λi x v e1 e2 e3=>?_⟩,λx c e=>?_,I.bx.fresh (cC _),λx c e=>I.freeC x c (wD x c e),λp hp=>absurd hp (by simp),I.bx.kept hk,?_⟩
 ·show(relabel scope X.env).kind=.function
  exact S.kind
 ·obtain⟨p,hp,e1,e2⟩:=fq (env:=X.env) S.nocell hx
  obtain⟨c,e⟩:=Zn p hp e2;exact⟨c,by rw[<- e1];exact e⟩
 ·rcases(hf b hb).2.2.2.1 with z|z
  ·exact I.ok.noex b o e z
  ·exact absurd (iw (Heap.lt_size (I.ok.bs b o e).1) z) (qR _)
 ·rcases cu.mp (I.qW b z)with e|e
  ·exact(hf b hb).2.1 e
  ·exact(hf b hb).2.2.1 e
 ·-- a name of the block that has a value: one from around
  have hi:ls.length<=i:=by
   by_cases hi:i<ls.length
   ·unfold cM at e2
    rw[gp (by simpa using hi),sW]at e2
    split at e2<;>cases e2
   ·omega
  have e1':fs[i-ls.length]?=some x:=by
   have q:(ls++fs)[i]?=some x:=e1;rw[eS hi]at q;exact q
  obtain⟨j,hj,hN,Zo,Wy⟩:=F.get e1';have PN:(σ[j]?).join=some v:=by
   unfold cM at e2;rw[eS (by simpa using hi),dB]at e2
   simp only[iC]at e2;rw[hj]at e2;simpa using e2
  have hσ:σ[j]?=some (some v):=by
   cases q:σ[j]? with
   |none=>rw[q]at PN;cases PN
   |some z=>rw[q]at PN;have PN:z=some v:=PN;rw[PN]
  obtain⟨m,_,hl⟩:=I.loc;obtain⟨u,r,l⟩:=hl j x v hN hσ (.inr (.inl Wy));refine⟨u,r,.inr ⟨.inl (eZ I.ok.kind Zo Wy),?_⟩⟩;rcases l with⟨z,_⟩|⟨_,c,e,q⟩
  ·have z':X.env.kindOf x=some .local:=z
   rw[Wy]at z';cases z'
  ·obtain⟨c',e'⟩:=Zn (x,.free) (PySem.mem_of_lookup Zo) rfl
   have ec:=wD x c' e';rw[e]at ec;have ec:=ku.inj ec;rw[<- ec]at e';obtain⟨o,ho,hd⟩:=q;exact⟨c,e',o,hk _ _ ho,hd⟩
 ·obtain⟨v,o,ho,hd⟩:=I.cell x c (wD x c e)
  exact⟨v,o,hk _ _ ho,hd⟩
 ·unfold cM
  show _=(ls++fs).length;rw[cK,iC,bF,cK,F.length]
end
section
def FU(X:Cx)(ifs:Bz)(t:TT):Prop:=
 ∀(aa:c7)(s:Shared)(σ:St)(H:Hp)(Q:Bool->Hp->Prop),Inv X aa σ H s->t σ H Q ->
  wpAny (model X.prog X.w) X.A (forIn ifs true λc r=>if r=true then do let ok <- isTrue c X.env (eval c X.env);pure (ForInStep.yield ok)else pure (ForInStep.yield r)) (TP X aa σ Q) X.xe s
def Wz:TT:=λ_ H Q=>Q true H
theorem GX:FU X [] Wz:=λ_ _ _ H _ I h=>wpAny_tests_nil ⟨H,I,h⟩
theorem GY{c:Expr}{t:TT}(h:PT X c t):FU X [c] t:=λaa s σ H Q I hw=>wpAny_tests_one (h aa s σ H Q I hw)
def cV:St->St->Prop
 |[],[]=>True
 |none::a,_::b=>cV a b
 |some v::a,some w::b=>v=w/\cV a b
 |_,_=>False
theorem cV.len:∀{a b:St},cV a b->a.length=b.length
 |[],[],_=>rfl
 |[],_::_,h=>h.elim
 |none::a,[],h=>h.elim
 |some _::a,[],h=>h.elim
 |none::a,x::b,h=>by simp[cV.len (a:=a) (b:=b) h]
 |some _::a,none::b,h=>h.elim
 |some _::a,some _::b,h=>by simp[cV.len (a:=a) (b:=b) h.2]
theorem cV.get:∀{a b:St},cV a b->∀(i:Nat)(v:V),a[i]?=some (some v)->b[i]?=some (some v)
 |[],[],_,_,_,e=>e
 |[],_::_,h,_,_,_=>h.elim
 |none::a,[],h,_,_,_=>h.elim
 |some _::a,[],h,_,_,_=>h.elim
 |none::a,x::b,h,0,v,e=>by simp at e
 |none::a,x::b,h,i+1,v,e=>by
  have:=cV.get (a:=a) (b:=b) h i v (by simpa using e)
  simpa using this
 |some _::a,none::b,h,_,_,_=>h.elim
 |some y::a,some z::b,h,0,v,e=>by have e1:=h.1;subst e1;simpa using e
 |some y::a,some z::b,h,i+1,v,e=>by
  have:=cV.get (a:=a) (b:=b) h.2 i v (by simpa using e)
  simpa using this
@[irreducible] def tComp(wi:TI)(k:Nat)(js:B1)(g:TG)(tt:TT)(te:TE):TE:=λσ H Q=>wi σ H λJ H1=>∀D,H1 D=none->∃W:Nat->Nat->List V->Hp->Prop,(∃m,W 0 m [] (upd H1 D (.lst []))) /\
 ∀i m ys H,W i m ys H->(J.stop i H/\Q (.ref D) H)\/(J.go i H/\∀x H',J.yld i H x H'->g x (cM k js σ) H' λσ2 H2=>cV (cM k js σ) σ2/\tt σ2 H2 λb H3=>
  if b=true then te σ2 H3 λy H4=>H4 D=some (.lst ys)/\ys.length<sizeLine/\∃m',m'<m/\W (i+1) m' (ys++[y]) (upd H4 D (.lst (ys++[y])))
  else ∃m',m'<m/\W (i+1) m' ys H3)
theorem qi{scope:Scope}{ls fs:Bi}{js:B1}{tg iter elt:Expr}{ifs:Bz}{pos b9:Pos}{wi:TI}{g:TG}{tt:TT}{te:TE}{use:Option (Value->Sem Unit)}{Qo:Value->Shared->Prop}
  (hc:X.calm=true) (S:fX X scope) (F:fm X scope js fs) (hi:PI X tg iter wi)
  (hg:∀cl C fp s H,PG (X.block (ls++fs) scope cl C fp s H) tg g) (ht:∀cl C fp s H,FU (X.block (ls++fs) scope cl C fp s H) ifs tt) (he:∀cl C fp s H,PE (X.block (ls++fs) scope cl C fp s H) elt te)
  {aa:c7} {s:Shared} {σ:St} {H:Hp} {Q:VK} (I:Inv X aa σ H s) (h:tComp wi ls.length js g tt te σ H Q)
  (fin:∀D C s' H' m,Inv X aa σ H' s'->mL X aa H' C->s'.heap.Ns C m->Q (.ref D) H'->compPost (model X.prog X.w) X.A X.xe use Qo (.ref D) C (.ok .next) s')
  (hs:∀x,foldedSetIterable iter X.env x=pure x) :
  wpAny (model X.prog X.w) X.A (comprehension (.ListComp elt [⟨tg,iter,ifs,0⟩] scope pos) scope X.env b9 (newList []) false (eval iter X.env) use) Qo X.xe s:=by
 unfold tComp at h;obtain⟨cl,ecl,h1,h2⟩:=pG (scope:=scope) (env:=X.env) (λp hp hf=>I.ok.has p.1 (.inl (S.frees p hp hf)));refine wpAny_comprehension_free rfl hs ecl S.kind S.names (bJ (hi aa s σ H _ I h) λv s1 q1=>bJ q1 λWa s2 q2=>?_);obtain⟨it,fp,tn,J,H2,e,I2,T,Qx,f2,q⟩:=q2;subst e;refine wpAny_newObj_type (wpAny_newFunctionEnv S.nocell (by intro y hy;simp at hy) (λh₁ hns₁ hsb₁=>?_) S.kind)
 have I3:Inv X aa σ (upd H2 s2.heap.objs.size (.lst [])) {s2 with heap:=s2.heap.push {cls:=.type "list",dict:=none,data:=.seq ([]:B2).toArray}}:=I2.Az (t':=s2.toks) .nil (i6 _)
 obtain⟨W,⟨m0,w0⟩,step⟩:=q s2.heap.objs.size I2.fresh;dsimp only at hns₁ hsb₁ ⊢
 generalize hs3:({s2 with heap:=s2.heap.push {cls:=.type "list",dict:=none,data:=.seq ([]:B2).toArray}}:Shared)=s3 at I3
 have Zp:s3.heap=s2.heap.push {cls:=.type "list",dict:=none,data:=.seq ([]:B2).toArray}:=by rw[<- hs3]
 rw[<- Zp]at hns₁ hsb₁ ⊢;have old:∀b o,s3.heap.get? b=some o->h₁.get? b=some o:=λb o e=>hsb₁.extBut b o (fk (Heap.lt_size e)) (Heap.get?_push_of_some _ e);have up:∀b o,s2.heap.get? b=some o->s3.heap.get? b=some o:=λb o e=>by rw[Zp];exact Heap.get?_push_of_some _ e
 have fz2:∀b∈fp,b<s2.heap.objs.size:=λb hb=>by
  obtain⟨o,e,_⟩:=T.obj 0 _ Qx b hb;exact Heap.lt_size e
 have f3:∀b∈fp,mL X aa (upd H2 s2.heap.objs.size (.lst [])) b:=λb hb=>⟨by rw[aq (fk (fz2 b hb))];exact(f2 b hb).1,(f2 b hb).2⟩
 have Zq:∀b∈fp,b<s3.heap.objs.size:=λb hb=>by
  obtain⟨o,e,_⟩:=T.obj 0 _ Qx b hb;exact Heap.lt_size (up b o e)
 have I4:=I3.enter (ls:=ls) (h₁:=h₁) (tk:=s2.toks+([]:List (Str×Value)).length) S F h1 h2 f3 Zq (by simpa using hns₁) old
 have Zr:tn 0 h₁:=T.keep 0 _ _ Qx λb _ o e=>old b o (up b o e)
 generalize hC:s3.heap.objs.size=C at I4 hns₁ hsb₁ ⊢
 generalize hH3:upd H2 s2.heap.objs.size (.lst [])=H3 at I3 I4 f3 w0
 have wc:∀{H':Hp},(∀b∈fp,H' b=none)->∀b∈fp,mL (X.block (ls++fs) scope cl C fp s3 H3) [] H' b:=λhn b hb=>
  ⟨hn b hb,by rw[<- hC];exact fk (Zq b hb),λz=>(cu.mp (I3.qW b z)).elim (f3 b hb).2.1 (f3 b hb).2.2.1,.inl hb,λx c e=>(f3 b hb).2.2.2.2.1 x c (h1 x c e),λp hp=>absurd hp (by simp)⟩
 have Bo:∀b∈fp,(b∈X.ex\/X.s₀.heap.objs.size<=b)/\b≠X.env.locals/\(∀x c,X.env.cells.lookup x=some c->c≠b)/\∀p∈X.pn++aa,p.1≠b:=λb hb=>⟨(f3 b hb).2.2.2.1,(f3 b hb).2.1,(f3 b hb).2.2.2.2.1,(f3 b hb).2.2.2.2.2⟩;have loop:∀s4:Shared,s4={s3 with heap:=h₁,toks:=s2.toks+([]:List (Str×Value)).length} ->
   codeAny (model X.prog X.w) X.A (.compLoop (.ListComp elt [⟨tg,iter,ifs,0⟩] scope pos) 0 (.ref it) (.ref s2.heap.objs.size) (compEnvC scope cl C X.env)) (compPost (model X.prog X.w) X.A X.xe use Qo (.ref s2.heap.objs.size) C) s4:=by
  rintro s4 rfl
  refine AD (λn s'=>∃i ys H',Inv (X.block (ls++fs) scope cl C fp s3 H3) [] (cM ls.length js σ) H' s'/\tn i s'.heap/\(∀b∈fp,H' b=none)/\W i n ys H') ?_ m0 ⟨0,[],H3,I4,Zr,λb hb=>(f3 b hb).1,w0⟩
  rintro n s5 ⟨i,ys,H5,I5,Gz,Vf,w5⟩
  rcases step i n ys H5 w5 with⟨stop,qf⟩|⟨go,nxt⟩
  ·refine bJ (T.done (X.block (ls++fs) scope cl C fp s3 H3) rfl rfl rfl hc i [] s5 _ H5 (λ_ _=>False) I5 (wc Vf) Gz stop) λr s6 zz=>?_
   obtain⟨hr,I6⟩:=zz;subst hr;obtain⟨m,hm,_⟩:=id I6.loc;have J6:Inv X aa σ H5 s6:=I3.Qc (ch:=fp) I6.os I6.base I6.bx I6.bare Bo;exact fin _ C s6 H5 m J6 (I3.rf (tu hC) I6.free) hm qf
  ·refine bJ (T.item (X.block (ls++fs) scope cl C fp s3 H3) rfl rfl rfl hc i [] s5 _ H5 (λ_ _=>False) I5 (wc Vf) Gz go) λr s6 zz=>?_
   obtain⟨u,hr,h6⟩:=zz;subst hr;refine bJ h6 λ_ s7 zz=>?_;obtain⟨x,H7,I7,r7,y7,WA,fr7⟩:=zz;have I7':=I7.pinned (wc fr7) (T.obj _ _ WA);refine bJ (hg cl C fp s3 H3 _ s7 _ H7 x u _ I7' r7 (nxt x H7 y7)) λ_ s8 zz=>?_;obtain⟨σ8,H8,I8,kp,q8⟩:=zz;have again:∀{s9:Shared}{H9:Hp},Inv (X.block (ls++fs) scope cl C fp s3 H3) ([]++mO fp s7.heap) σ8 H9 s9 ->
     Inv (X.block (ls++fs) scope cl C fp s3 H3) [] (cM ls.length js σ) H9 s9/\tn (i+1) s9.heap/\∀b∈fp,H9 b=none:=λ{s9 H9} I9=>by
    refine⟨I9.jK.weak kp.len kp.get,T.keep _ _ _ WA λb hb o e=>(I9.pin (b,o) (mD _ (mD _ (gJ hb e)))).1,λb hb=>?_⟩;obtain⟨o,e,d⟩:=T.obj _ _ WA b hb;exact(I9.pin (b,o) (mD _ (mD _ (gJ hb e)))).2.1
   refine bJ (ht cl C fp s3 H3 _ s8 σ8 H8 _ I8 q8) λb s9 zz=>?_;obtain⟨H9,I9,q9⟩:=zz;cases b with
   |false=>
    obtain⟨m',hm,w9⟩:=q9;obtain⟨a1,a2,a3⟩:=again I9;exact⟨m',hm,i+1,ys,H9,a1,a2,a3,w9⟩
   |true=>
    refine bJ (he cl C fp s3 H3 _ s9 σ8 H9 _ I9 q9) λxv s10 zz=>?_;obtain⟨y,Zs,I10,r10,hD,hz,m',hm,w10⟩:=zz;refine bJ (kD (X:=X.block (ls++fs) scope cl C fp s3 H3) _ s10 σ8 Zs (.ref s2.heap.objs.size) [y] (.ref s2.heap.objs.size) [xv] (λ_ Zu=>Zu=upd Zs s2.heap.objs.size (.lst (ys++[y]))) I10 rfl (.cons r10 .nil)
     ⟨_,ys,y,rfl,rfl,hD,hz,rfl⟩) λ_ s11 ⟨z,Zu,I11,_,e11⟩=>?_
    subst e11;obtain⟨a1,a2,a3⟩:=again I11;exact⟨m',hm,i+1,ys++[y],_,a1,a2,a3,w10⟩
 have aac:({newEnv scope C X.env.globals cl X.env.qual none .none (some X.env) builtinsNs with scope:=relabel scope X.env}:Env)=compEnvC scope cl C X.env:=rfl
 exact codeAny_compStart_list (loop _ (by rw[<- hs3])) (T.self X.A 0 _ _ _ Zr (loop _ (by rw[<- hs3])))
variable{scope:Scope}{ls fs:Bi}{js:B1}{iter elt:Expr}{ifs:Bz}{pos:Pos}{wi:TI}{g:TG}{tt:TT}{te:TE}
theorem GZ(ls:Bi)(hc:X.calm=true)(S:fX X scope)(F:fm X scope js fs)(hi:PI X tg iter wi)
  (hg:∀cl C fp s H,PG (X.block (ls++fs) scope cl C fp s H) tg g) (ht:∀cl C fp s H,FU (X.block (ls++fs) scope cl C fp s H) ifs tt) (he:∀cl C fp s H,PE (X.block (ls++fs) scope cl C fp s H) elt te)
  (hs:∀x,foldedSetIterable iter X.env x=pure x:=by intro _;rfl):PE X (.ListComp elt [⟨tg,iter,ifs,0⟩] scope pos) (tComp wi ls.length js g tt te):=by
 intro aa s σ H Q I h;rw[eval_ListComp];refine qi (use:=none) hc S F hi hg ht he I h ?_ hs;intro D C s' H' m J fC hm q;exact⟨m,hm,λh' AE=>⟨.ref D,H',J.turned (t':=s'.toks) (it:=C) (λb o hb e=>(AE.2 b hb).trans e) fC.1 fC.2.1 fC.2.2.2.1 fC.2.2.2.2.1 fC.2.2.2.2.2,rfl,q⟩⟩
theorem yu{i:Nat}{x:Str}{px rC:Pos}(ls:Bi)(hc:X.calm=true)(hN:X.N.Nodup)(WC:X.N[i]?=some x)(hx:Loc X.env.scope x)(S:fX X scope)(F:fm X scope js fs)(hi:PI X tg iter wi)
  (hg:∀cl C fp s H,PG (X.block (ls++fs) scope cl C fp s H) tg g) (ht:∀cl C fp s H,FU (X.block (ls++fs) scope cl C fp s H) ifs tt) (he:∀cl C fp s H,PE (X.block (ls++fs) scope cl C fp s H) elt te)
  (hs:∀x,foldedSetIterable iter X.env x=pure x:=by intro _;rfl) (hf:X.fn x=true\/X.env.scope.names.lookup x=some .local:=by first|exact .inl rfl|exact .inr rfl|assumption)
  (Vm:swapsWith (.ListComp elt [⟨tg,iter,ifs,0⟩] scope pos) (some (.Name x px)) rC.line X.env=pure true:=by rfl) :
  PS X (.Assign [.Name x px] (.ListComp elt [⟨tg,iter,ifs,0⟩] scope pos) rC) (λD σ H=>tComp wi ls.length js g tt te σ H λv H1=>D.nx (σ.set i (some v)) H1):=by
 intro aa s σ H D I h;rw[exec_Assign_Name_used _ _ _ _ Vm];refine wpAny_bind (wpAny_standAt (wpAny_bind ?_));show wpAny _ X.A (do let _ <- comprehension (.ListComp elt [⟨tg,iter,ifs,0⟩] scope pos) scope X.env _ (newList []) false (eval iter X.env) (some (assign (.Name x px) X.env))) _ _ s
 refine wpAny_bind (wpAny_mono (qi (use:=some (assign (.Name x px) X.env)) (Qo:=λ_ s'=>SP X aa D .next s') hc S F hi hg ht he I h ?_ hs) (λ_ s' hq=>wpAny_pure (wpAny_pure hq)) λ_ _ e=>e)
 intro D' C s' H' m J fC hm q;show wpAny _ X.A (assign (.Name x px) X.env (.ref D')) _ _ _;refine wpAny_assign_Name (pZ J hN WC hx (show RelV (.ref D') (.ref D')from rfl) (λQQ J' ⟨a,hsb,ha⟩=>?_) hf);have ne:C≠a:=by
  rcases ha with e|e
  ·rw[e];exact fC.2.1
  ·exact Ne.symm (fC.2.2.2.2.1 x a e)
 refine⟨m,hm.sameBut hsb ne,λh' AE=>?_⟩;exact⟨_,H',J'.turned (t':=QQ.toks) (it:=C) (λb o hb e=>(AE.2 b hb).trans e) fC.1 fC.2.1 fC.2.2.2.1 fC.2.2.2.2.1 fC.2.2.2.2.2,q⟩
end
section
theorem CQ{P:Program}{w:World}{K:bu}{x:Str}{px:Pos}{it:Addr}{n:Nat}{Pv:Nat->Value->Prop}{St:Nat->Heap->Prop}(val:Nat->V->Prop)
  (W:∀A:Around,A.handled=none->Walks P w A it [it] [it] n Pv St) (hv:∀i v,Pv i v->∃y,RelV y v/\val i y)
  (ho:∀i h,St i h->∃o,h.get? it=some o/\∀v,o.data≠.cell v) (hk:∀i(h h':Heap),St i h->(∀o,h.get? it=some o->h'.get? it=some o)->St i h')
  (Q8:∀(A:Around)(i:Nat)(s:Shared)(Q:Value->Shared->Prop)(E:Value->Shared->Prop),St i s.heap->Q (.ref it) s->wpAny (model P w) A (pyIter (.ref it)) Q E s) :
  Turn P w K (.Name x px) ⟨λi _=>i<n,λi H y H'=>H'=H/\val i y,λi _=>i=n⟩ [it] it St where
 mem:=by simp
 obj:=λi h st b hb=>by
  have e:b=it:=by simpa using hb
  subst e;exact ho i h st
 keep:=λi h h' st k=>hk i h h' st (k it (by simp))
 item:=by
  intro X hP hw hK hc i aa s σ H E I hf st hg;subst hP hw hK;obtain⟨f0,f1,f2,f3,f4,f5⟩:=hf it (by simp)
  refine(W X.A (I.ok.hd hc)).item i s _ _ hg st λv h' tk hPv rh kk=>?_;obtain⟨y,ry,vy⟩:=hv i v hPv;have I1:Inv X aa σ H {s with heap:=h',toks:=tk}:=I.turned (λb o hb e=>kk b o (by simpa using hb) e) f0 f1 f3 f4 f5
  exact⟨v,rfl,wpAny_pure ⟨y,H,I1,ry,⟨rfl,vy⟩,rh,λb hb=>(hf b hb).1⟩⟩
 done:=by
  intro X hP hw hK hc i aa s σ H E I hf st hg;subst hP hw hK;obtain⟨f0,f1,f2,f3,f4,f5⟩:=hf it (by simp)
  have hg:i=n:=hg;rw[hg]at st;exact(W X.A (I.ok.hd hc)).done s _ _ st λh' tk kk=>⟨rfl,I.turned (λb o hb e=>kk b o (by simpa using hb) e) f0 f1 f3 f4 f5⟩
 self:=Q8
def Zv(z:Str):It:=⟨λi _=>i<z.cps.size,λi H y H'=>H'=H/\∃c,z.cps[i]?=some c/\y=.str ⟨#[c]⟩,λi _=>i=z.cps.size⟩
def WD(tl:TE):TI:=λσ H R=>tl σ H λv H1=>∃z,v=.str z/\R (Zv z) H1
theorem Mz{l:Expr}{tl:TE}{x:Str}{px:Pos}(hl:PE X l tl):PI X (.Name x px) l (WD tl):=by
 intro aa s σ H R I h;refine bJ (hl aa s σ H _ I h) λv s1 zz=>?_;obtain⟨y,H1,I1,r1,q1⟩:=zz;obtain⟨z,rfl,q⟩:=q1;obtain⟨t,rfl⟩:=r1;have Zw:∀b∈[s1.heap.objs.size],mL X aa H1 b:=λb hb=>by
  have e:b=s1.heap.objs.size:=by simpa using hb
  subst e;exact I1.rf (cC _) (I1.bx.fresh (cC _))
 have hv:∀i v,SignAt z i v->∃y,RelV y v/\∃c,z.cps[i]?=some c/\y=.str ⟨#[c]⟩:=λi v ⟨c,u,e,ev⟩=>⟨.str ⟨#[c]⟩,⟨u,ev⟩,c,e,rfl⟩;have CS:∀(ty:String)(i:Nat)(h:Heap),h.IsStrIter s1.heap.objs.size ty z t i->∃o,h.get? s1.heap.objs.size=some o/\∀v,o.data≠.cell v:=λty i h ⟨o,e,_,d⟩=>⟨o,e,λv q=>by rw[d]at q;cases q⟩
 have kp:∀(ty:String)(i:Nat)(h h':Heap),h.IsStrIter s1.heap.objs.size ty z t i->(∀o,h.get? s1.heap.objs.size=some o->h'.get? s1.heap.objs.size=some o)->h'.IsStrIter s1.heap.objs.size ty z t i:=λty i h h' ⟨o,e,r⟩ k=>⟨o,k o e,r⟩;cases ha:z.cps.all (· < 128)
 ·refine wpAny_pyIter_wide ha ?_
  exact⟨s1.heap.objs.size,[s1.heap.objs.size],_,_,H1,rfl,I1.kept (t':=s1.toks) λb o e=>Heap.get?_push_of_some _ e,
   CQ (λi y=>∃c,z.cps[i]?=some c/\y=.str ⟨#[c]⟩) (λA hA=>Walks.strWide hA _ z t) hv (CS _) (kp _) (λ_ _ _ _ _ st h=>wpAny_pyIter_striter_wide st h),⟨_,Heap.get?_push_size _ rfl,rfl,rfl⟩,Zw,q⟩
 ·refine wpAny_pyIter_ascii ha ?_
  exact⟨s1.heap.objs.size,[s1.heap.objs.size],_,_,H1,rfl,I1.kept (t':=s1.toks) λb o e=>Heap.get?_push_of_some _ e,
   CQ (λi y=>∃c,z.cps[i]?=some c/\y=.str ⟨#[c]⟩) (λA hA=>Walks.strAscii hA _ z t) hv (CS _) (kp _) (λ_ _ _ _ _ st h=>wpAny_pyIter_striter_ascii st h),⟨_,Heap.get?_push_size _ rfl,rfl,rfl⟩,Zw,q⟩
def WE(hi:Int)(n:Nat):It:=⟨λi _=>i<n,λi H x H'=>H'=H/\x=.int (hi-i),λi _=>n<=i⟩
theorem AF{P:Program}{w:World}{K:bu}(it:Addr)(hi:Int)(n:Nat):Turn P w K tg (WE hi n) [it] it (λi h=>IsRangeIter h it (hi+(i:Nat)*(-1)) ((n:Int)-(i:Nat)) (-1)) where
 mem:=by simp
 obj:=λi h st b hb=>by
  have e:b=it:=by simpa using hb
  subst e;exact⟨_,st,λv z=>by
   have z':Data.fields _=Data.cell v:=z;cases z'⟩
 keep:=λi h h' st k=>k it (by simp) _ st
 item:=by
  intro X hP hw hK hc i aa s σ H E I hf st hg;subst hP hw hK;obtain⟨f0,f1,f2,f3,f4,f5⟩:=hf it (by simp)
  have W:=Walks.range (prog:=X.prog) (w:=X.w) (I.ok.hd hc) it hi (-1) n;refine W.item i s _ _ hg st λv h' tk hv rh kk=>?_;obtain⟨t,rfl⟩:=hv;have I1:Inv X aa σ H {s with heap:=h',toks:=tk}:=I.turned (λb o hb e=>kk b o (by simpa using hb) e) f0 f1 f3 f4 f5
  refine⟨_,rfl,tX (s:={s with heap:=h',toks:=tk}) (n := "range_iterator") rh rfl rfl (by decide) ⟨.int (hi-i),H,I1,⟨t,?_⟩,⟨rfl,rfl⟩,rh,λb hb=>(hf b hb).1⟩⟩
  have e:hi+(i:Int)*(-1)=hi-i:=by omega
  rw[e]
 done:=by
  intro X hP hw hK hc i aa s σ H E I hf st hg;subst hP hw hK;obtain⟨f0,f1,f2,f3,f4,f5⟩:=hf it (by simp)
  exact wpAny_pyNext_range_end (I.ok.hd hc) st (by have:n<=i:=hg;omega) λh' eb=>⟨rfl,I.turned (t':=s.toks) (λb o hb e=>eb b o hb e) f0 f1 f3 f4 f5⟩
 self:=λ_ _ _ _ _ st h=>wpAny_pyIter_rangeiter st h
def Q9(ta:TA):TI:=λσ H R=>ta σ H λvs H1=>∃i:Int,vs=[.int i,.int (-1),.int (-1)]/\-1<=i/\i<2^30/\R (WE i (i+1).toNat) H1
theorem G0{a b c:Expr}{ta:TA}{p pos:Pos}(hg:Gl X "range")(hm:X.mg "range" = none)(ha:PA X [a,b,c] ta)(hs:starEach [a,b,c] X.env=[(false,eval a X.env),(false,eval b X.env),(false,eval c X.env)]:=by rfl)
  (yo:starEach [b,c] X.env=[(false,eval b X.env),(false,eval c X.env)]:=by rfl):PI X tg (.Call (.Name "range" p) [a,b,c] [] pos) (Q9 ta):=by
 intro aa s σ H R I h;refine Call_ (gI I hg hm boot_range (Ah (bJ (ha pos aa s σ H _ I h) λus s1 ⟨vs,H1,I1,r1,q1⟩=>?_) (by rw[hs,yo]) (by rw[yo];rfl)))
 obtain⟨i,e,q1,q2,q⟩:=q1;subst e;cases r1 with
 |cons r rr=>
  cases rr with
  |cons r' rr=>
   cases rr with
   |cons r'' rr=>
    cases rr;obtain⟨t,rfl⟩:=r;obtain⟨t',rfl⟩:=r';obtain⟨Zx,rfl⟩:=r'';refine call_range_3 (by decide) ?_ (.inl (PyProof.noPylong_small (by decide)))
    have Zy:Builtin.Range.rangeSize i (-1) (-1)=i+1:=by
     unfold Builtin.Range.rangeSize;rw[if_neg (by decide)]
     split
     ·have e:-(-1:Int)=1:=rfl
      rw[e,Int.ediv_one];omega
     ·omega
    have hsm:Builtin.Range.small i (-1) (-1)=true:=by
     unfold Builtin.Range.small;rw[Zy];simp[Builtin.Range.rangeFitsLong];omega
    refine wpAny_pyIter_range (IsRange.new ..) hsm ?_
    generalize hh:s1.heap.push {cls:=.type "range",data:=.fields #[.int i t,.int (-1) t',.int (-1) Zx]}=h2
    have I2:Inv X aa σ H1 {s1 with heap:=h2}:=I1.kept (t':=s1.toks) λb o e=>by rw[<- hh];exact Heap.get?_push_of_some _ e
    refine⟨h2.objs.size,[h2.objs.size],_,_,H1,rfl,I2.kept (t':=s1.toks) λb o e=>Heap.get?_push_of_some _ e,AF _ i (i+1).toNat,?_,λb hb=>?_,q⟩
    ·have e1:i+((0:Nat):Int)*(-1)=i:=by omega
     have e2:(((i+1).toNat:Nat):Int)-((0:Nat):Int)=Builtin.Range.rangeSize i (-1) (-1):=by
      rw[Zy];omega
     show IsRangeIter _ _ (i+((0:Nat):Int)*(-1)) ((((i+1).toNat:Nat):Int)-((0:Nat):Int)) (-1);rw[e1,e2];exact Heap.get?_push_size _ rfl
    ·have e:b=h2.objs.size:=by simpa using hb
     subst e;exact I2.rf (cC _) (I2.bx.fresh (cC _))
end
structure Vn(J:It)(src:List V)(I:Hp->Prop):Prop where
 go:∀i H,I H->i<src.length->J.go i H
 yld:∀i H x H',I H->i<src.length->J.yld i H x H'->H'=H/\src[i]?=some x
 stop:∀i H,I H->i=src.length->J.stop i H
theorem G1(z:Str):Vn (Zv z) (z.cps.toList.map λc=>V.str ⟨#[c]⟩) (λ_=>True):=
 ⟨λi H _ h=>by have h:i<(z.cps.toList.map λc=>V.str ⟨#[c]⟩).length:=h;rw[bF,Array.length_toList]at h;exact h,
  λi H x H' _ _ y=>by
  obtain⟨e,c,hc,ex⟩:=y;refine⟨e,?_⟩;rw[dB,Array.getElem?_toList,hc,ex];rfl,
  λi H _ h=>by rw[bF,Array.length_toList]at h;exact h⟩
theorem qj(lo:Int)(n:Nat):Vn (Qt lo n) ((dZ n).map λk=>V.int (lo+(k:Nat))) (λ_=>True):=
 ⟨λi H _ h=>by have h:i<((dZ n).map λk=>V.int (lo+(k:Nat))).length:=h;rw[bF,jg]at h;exact h,
  λi H x H' _ hi y=>by
  obtain⟨e,ex⟩:=y;refine⟨e,?_⟩;have hi:i<n:=by rw[bF,jg]at hi;exact hi
  rw[dB,vV hi,ex];rfl,
  λi H _ h=>by rw[bF,jg]at h;exact tu h.symm⟩
section
def Zz(K:bu)(a:Addr)(xs:List V):It:=⟨λi H=>i<xs.length/\dh K H a xs,λi H y H'=>H'=H/\xs[xs.length-1-i]?=some y,λi _=>i=xs.length⟩
theorem CT{P:Program}{w:World}{K:bu}(a it:Addr)(xs:List V):Turn P w K tg (Zz K a xs) [it] it (λi h=>h.IsRevIter it a ((xs.length:Int)-1-(i:Int))) where
 mem:=by simp
 obj:=λi h st b hb=>by
  have e:b=it:=by simpa using hb
  subst e;obtain⟨o,e,c,d⟩:=st;exact⟨o,e,λv z=>by rw[d]at z;cases z⟩
 keep:=λi h h' st k=>st.at λo e=>k it (by simp) o e
 item:=by
  intro X hP hw hK hc i aa s σ H E I hf st hg;subst hP hw hK;obtain⟨hi,hq⟩:=hg;obtain⟨its,rv,p,hz⟩:=I.list hq;have hx:xs[xs.length-1-i]?=some (xs[xs.length-1-i]'(by omega)):=b8 (by omega)
  obtain⟨u,hu,ru⟩:=rv.get hx;obtain⟨f0,f1,f2,f3,f4,f5⟩:=hf it (by simp)
  have e:(xs.length:Int)-1-(i:Int)=((xs.length-1-i:Nat):Int):=by omega
  rw[e]at st;refine wpAny_pyNext_rev_item st p.isList (x:=u) (by simpa using hu) λh' rh sb=>?_
  have I1:Inv X aa σ H {s with heap:=h'}:=I.turned (t':=s.toks) (λb o hb e=>(sb.2 b hb).trans e) f0 f1 f3 f4 f5
  have e2:((xs.length-1-i:Nat):Int)-1=(xs.length:Int)-1-((i+1:Nat):Int):=by omega
  rw[e2]at rh;obtain⟨o,eo,c,d⟩:=id rh;exact⟨u,rfl,tX (s:={s with heap:=h'}) eo c d (by decide) ⟨_,H,I1,ru,⟨rfl,hx⟩,rh,λb hb=>(hf b hb).1⟩⟩
 done:=by
  intro X hP hw hK hc i aa s σ H E I hf st hg;subst hP hw hK;obtain⟨f0,f1,f2,f3,f4,f5⟩:=hf it (by simp)
  have hg:i=xs.length:=hg;have e:(xs.length:Int)-1-(i:Int)=-1:=by omega
  rw[e]at st;exact wpAny_pyNext_rev_end (I.ok.hd hc) st λh' eb=>⟨rfl,I.turned (t':=s.toks) (λb o hb e=>eb b o hb e) f0 f1 f3 f4 f5⟩
 self:=λ_ _ _ _ _ st h=>wpAny_pyIter_revIter st h
def WH(K:bu)(ta:TA):TI:=λσ H R=>ta σ H λvs H1=>∃a xs,vs=[.ref a]/\dh K H1 a xs/\R (Zz K a xs) H1
theorem MA{a:Expr}{ta:TA}{p pos:Pos}(hg:Gl X "reversed")(hm:X.mg "reversed" = none)(ha:PA X [a] ta)(hs:starEach [a] X.env=[(false,eval a X.env)]:=by rfl):PI X tg (.Call (.Name "reversed" p) [a] [] pos) (WH X.K ta):=by
 intro aa s σ H R I h;refine Call_ (gI I hg hm PyProof.Rows.boot_reversed (Ah (bJ (ha pos aa s σ H _ I h) λus s1 ⟨vs,H1,I1,r1,q1⟩=>?_) hs rfl));obtain⟨l,xs,e,hq,q⟩:=q1;subst e;cases r1 with
 |cons r rr=>
  cases rr;cases r;obtain⟨its,rv,pl,hz⟩:=I1.list hq;have bO:=rv.length;refine call_reversed_list pl.isList (wpAny_pyIter_revIter ⟨_,Heap.get?_push_size _ rfl,rfl,rfl⟩ ?_);refine⟨s1.heap.objs.size,[s1.heap.objs.size],_,_,H1,rfl,I1.kept (t':=s1.toks) λb o e=>Heap.get?_push_of_some _ e,CT l _ xs,?_,λb hb=>?_,q⟩
  ·refine⟨_,Heap.get?_push_size _ rfl,rfl,?_⟩
   have e:((its.toArray.size:Nat):Int)-1=(xs.length:Int)-1-((0:Nat):Int):=by rw[bX,<- bO];omega
   rw[<- e];rfl
  ·have e:b=s1.heap.objs.size:=by simpa using hb
   subst e;exact I1.rf (cC _) (I1.bx.fresh (cC _))
end
section
theorem pH:Ax X "str.startswith" (λx vs H Q=>∃a b,x=.str a/\vs=[.str b]/\Q (.bl (Txt.startswith a b)) H):=by
 intro aa s σ H x vs v us Q I rx rv h;obtain⟨a,b,rfl,rfl,q⟩:=h;obtain⟨t,rfl⟩:=rx;obtain⟨u,rfl,⟨t',rfl⟩⟩:=rv.one;exact SC.startswith ⟨.bl _,H,I,rfl,q⟩
theorem ue:Ax X "str.endswith" (λx vs H Q=>∃a b,x=.str a/\vs=[.str b]/\Q (.bl (Txt.endswith a b)) H):=by
 intro aa s σ H x vs v us Q I rx rv h;obtain⟨a,b,rfl,rfl,q⟩:=h;obtain⟨t,rfl⟩:=rx;obtain⟨u,rfl,⟨t',rfl⟩⟩:=rv.one;exact SC.endswith ⟨.bl _,H,I,rfl,q⟩
theorem CU:Ax X "str.find" (λx vs H Q=>∃a b i,x=.str a/\vs=[.str b,.int i]/\Q (.int (Txt.find3 a b i)) H):=by
 intro aa s σ H x vs v us Q I rx rv h;obtain⟨a,b,i,rfl,rfl,q⟩:=h;obtain⟨t,rfl⟩:=rx;obtain⟨u,u',rfl,⟨t',rfl⟩,⟨Zx,rfl⟩⟩:=rv.two;exact SC.find3 ⟨.int _,H,I.tok _,⟨_,rfl⟩,q⟩
theorem mY:∀{ys:Bi}{us:B2},Vals (ys.map V.str) us->StrsAre us ys
 |[],_,.nil=>.nil
 |y::ys,_,.cons ⟨t,e⟩ r=>by
  subst e;exact .cons y t (mY (ys:=ys) r)
theorem G2:Ax X "str.join" (λx vs H Q=>∃sep l ys,x=.str sep/\vs=[.ref l]/\dh X.K H l (ys.map V.str)/\(ys.map (·.length)).sum+ys.length*sep.length<=16777216/\Q (.str (Str.join sep ys)) H):=by
 intro aa s σ H x vs v us Q I rx rv h;obtain⟨sep,l,ys,rfl,rfl,hl,hz,q⟩:=h;obtain⟨t,rfl⟩:=rx;obtain⟨u,rfl,ru⟩:=rv.one;cases ru;obtain⟨its,r,p,_⟩:=I.list hl;refine join_list p.isList (ys:=ys) (by simpa using mY r) hz λt' k=>?_
 have e:Txt.join sep ys=Str.join sep ys:=StrLaws.glued_eq_join sep ys;rw[e];exact⟨.str _,H,I.tok _,⟨_,rfl⟩,q⟩
theorem MB:Km X (λx lo hi H Q=>∃z,x=.str z/\z.length<=sizeLine/\Q (.str (Txt.slice z lo hi)) H):=by
 intro aa s σ H x v vl vu lo hi sl Q I rx hs pl pu h;obtain⟨z,rfl,hz,q⟩:=h;obtain⟨t,rfl⟩:=rx;refine⟨"str",_,F.slot_str_getitem.lookup,typeIs_str _ _ _,?_⟩;obtain⟨o,ho,hc,hd⟩:=hs;cases pl with
 |none=>
  cases pu with
  |none=>exact wpAny_getItem_str_slice (l:=none) (u:=none) (st:=none) ⟨o,ho,hc,hd⟩ rfl (post_val_or_str ⟨gA (Txt.slice_le z _ _) hz,λt' k=>⟨.str _,H,I.tok _,⟨_,rfl⟩,q⟩⟩)
  |int j tj=>exact wpAny_getItem_str_slice (l:=none) (u:=some (j,tj)) (st:=none) ⟨o,ho,hc,hd⟩ rfl (post_val_or_str ⟨gA (Txt.slice_le z _ _) hz,λt' k=>⟨.str _,H,I.tok _,⟨_,rfl⟩,q⟩⟩)
 |int i ti=>
  cases pu with
  |none=>exact wpAny_getItem_str_slice (l:=some (i,ti)) (u:=none) (st:=none) ⟨o,ho,hc,hd⟩ rfl (post_val_or_str ⟨gA (Txt.slice_le z _ _) hz,λt' k=>⟨.str _,H,I.tok _,⟨_,rfl⟩,q⟩⟩)
  |int j tj=>exact wpAny_getItem_str_slice (l:=some (i,ti)) (u:=some (j,tj)) (st:=none) ⟨o,ho,hc,hd⟩ rfl (post_val_or_str ⟨gA (Txt.slice_le z _ _) hz,λt' k=>⟨.str _,H,I.tok _,⟨_,rfl⟩,q⟩⟩)
theorem uf:fR X (compareOp .IsNot) (λx y H Q=>∃a b,x=.bl a/\y=.bl b/\Q (.bl (a != b)) H):=by
 intro aa s σ H x y v u Q I rx ry h;obtain⟨a,b,rfl,rfl,q⟩:=h;cases rx;cases ry;exact isnot_bool (iG I q rfl)
theorem ug:eY X (.builtin "isinstance") (λxs H Q=>∃x T t b,xs=[x,.ty T]/\i8 X.K H x t/\qM X.K t (.type T)=some b/\Q (.bl b) H):=by
 intro aa s σ H xs us Q I r h;obtain⟨x,T,t,b,rfl,ty,e,q⟩:=h;obtain⟨u,u',rfl,ru,Q_⟩:=vals2 r;cases Q_;exact qa I ru ty e λtk=>⟨.bl b,H,I.tok _,rfl,q⟩
theorem mZ{ks:Fh}{its:B2}(r:Vals (ks.map V.bl) its)(A:Around):TruthOf X.prog X.w A (λi v=>its.toArray[i]?=some v) (λi=>ks.getD i true):=by
 intro i v s Q E hv hQ;have hv:its[i]?=some v:=by simpa using hv
 have hi:i<ks.length:=by
  have h1:=(dc.mp hv).1;have h2:=r.length;rw[bF]at h2;omega
 obtain⟨u,e,ru⟩:=r.get (i:=i) (x:=.bl ks[i]) (by rw[dB,b8 hi];rfl)
 rw[hv]at e;cases e;cases ru;have g:ks.getD i true=ks[i]:=by rw[fj,b8 hi];rfl
 have hQ:Q (ks.getD i true) s:=hQ;rw[g]at hQ;exact wpAny_truthy_bool hQ
theorem range_all(ks:Fh):(dZ ks.length).all (λi=>ks.getD i true)=ks.all id:=by
 induction ks with
 |nil=>rfl
 |cons k ks ih=>
  rw[bz,BN,e9,JD,e9,<- ih];rfl
theorem range_any(ks:Fh):(dZ ks.length).any (λi=>ks.getD i true)=ks.any id:=by
 induction ks with
 |nil=>rfl
 |cons k ks ih=>
  rw[bz,BN,qN,BO,qN,<- ih];rfl
theorem CW(hc:X.calm=true):eY X (.builtin "all") (λxs H Q=>∃(p:Addr)(ks:Fh),xs=[.ref p]/\dh X.K H p (ks.map V.bl)/\Q (.bl (ks.all id)) H):=by
 intro aa s σ H xs us Q I r h;obtain⟨p,ks,rfl,hp,q⟩:=h;obtain⟨u,rfl,ru⟩:=vals1 r;cases ru;obtain⟨its,rv,pl,hz⟩:=I.list hp;have bO:=rv.length;rw[bF]at bO;refine call_all_walk (wpAny_pyIter_list pl.isList ?_);have ie:p≠s.heap.objs.size:=let⟨_,e,_⟩:=pl.isList;fk (Heap.lt_size e);refine⟨s.heap.objs.size,_,[s.heap.objs.size],its.toArray.size,_,_,λi=>ks.getD i true,rfl,Walks.list (show X.A.in1.handled=none from I.ok.hd hc) s.heap.objs.size p ie its.toArray,⟨⟨_,Heap.get?_push_size _ rfl,rfl,rfl⟩,Heap.IsList.push pl.isList _⟩,mZ rv _,λh' tk kk=>?_⟩;rw[bX,<- bO,range_all];refine⟨.bl _,H,?_,rfl,q⟩;refine I.kept λb o e=>kk b o (λz=>?_) (Heap.get?_push_of_some _ e);have hb:b=s.heap.objs.size:=by simpa using z
 rw[hb]at e;exact qR _ (Heap.lt_size e)
theorem CY(hc:X.calm=true):eY X (.builtin "any") (λxs H Q=>∃(p:Addr)(ks:Fh),xs=[.ref p]/\dh X.K H p (ks.map V.bl)/\Q (.bl (ks.any id)) H):=by
 intro aa s σ H xs us Q I r h;obtain⟨p,ks,rfl,hp,q⟩:=h;obtain⟨u,rfl,ru⟩:=vals1 r;cases ru;obtain⟨its,rv,pl,hz⟩:=I.list hp;have bO:=rv.length;rw[bF]at bO;refine call_any_walk (wpAny_pyIter_list pl.isList ?_);have ie:p≠s.heap.objs.size:=let⟨_,e,_⟩:=pl.isList;fk (Heap.lt_size e);refine⟨s.heap.objs.size,_,[s.heap.objs.size],its.toArray.size,_,_,λi=>ks.getD i true,rfl,Walks.list (show X.A.in1.handled=none from I.ok.hd hc) s.heap.objs.size p ie its.toArray,⟨⟨_,Heap.get?_push_size _ rfl,rfl,rfl⟩,Heap.IsList.push pl.isList _⟩,mZ rv _,λh' tk kk=>?_⟩;rw[bX,<- bO,range_any];refine⟨.bl _,H,?_,rfl,q⟩;refine I.kept λb o e=>kk b o (λz=>?_) (Heap.get?_push_of_some _ e);have hb:b=s.heap.objs.size:=by simpa using z
 rw[hb]at e;exact qR _ (Heap.lt_size e)
theorem k_:∀{xs:List V}{us:B2},xs.length=us.length->(∀(i:Nat)x u,xs[i]?=some x->us[i]?=some u->RelV x u)->Vals xs us
 |[],[],_,_=>.nil
 |[],_::_,h,_=>by simp at h
 |_::_,[],h,_=>by simp at h
 |x::xs,u::us,h,k=>.cons (k 0 x u rfl rfl) (k_ (by simpa using h) λi y w h1 h2=>k (i+1) y w (by simpa using h1) (by simpa using h2))
theorem AG:eY X (.type "range") (λxs H Q=>∃j,xs=[.int j]/\∀p,H p=none->Q (.ref p) (upd H p (.iT 0 j))):=by
 intro aa s σ H xs us Q I r h;obtain⟨j,rfl,q⟩:=h;obtain⟨u,rfl,⟨t,rfl⟩⟩:=vals1 r;refine call_range_1 ⟨.ref s.heap.objs.size,_,I.laid (o:=.iT 0 j) (λb o e=>Heap.get?_push_of_some _ e) (cC _) ⟨_,_,_,Heap.get?_push_size _ rfl⟩,rfl,q _ I.fresh⟩
theorem pI(hc:X.calm=true):eY X (.type "list") (λxs H Q=>∃p hi,xs=[.ref p]/\H p=some (.iT 0 hi)/\0<=hi/\hi<=2^20/\∀l,H l=none->Q (.ref l) (upd H l (.lst ((dZ hi.toNat).map λk=>V.int (k:Nat))))):=by
 intro aa s σ H xs us Q I r h;obtain⟨p,hi,rfl,hp,h0,h1,q⟩:=h;obtain⟨u,rfl,ru⟩:=vals1 r;cases ru;obtain⟨t,u,v,e⟩:=I.bx p _ hp;refine call_list_range (I.ok.hd hc) (a:=0) (b:=hi) (c:=1) (n:=hi.toNat) e (small_one (by omega) (by omega) (by omega) (by omega)) (by rw[rangeSize_one];split<;>omega) (by omega) λh' tk dD c' hk hl hit=>?_
 obtain⟨hsz,hit⟩:=hit;refine⟨.ref s.heap.objs.size,_,I.laid (o:=.lst ((dZ hi.toNat).map λk=>V.int (k:Nat))) (λb o e=>hk b o e) (cC _) ⟨?_,dD.toList,c',?_,by simpa using hl⟩,rfl,q _ I.fresh⟩
 ·rw[bF,jg,sizeLine_eq];omega
 ·refine k_ (by rw[bF,jg,Array.length_toList,hsz]) λi x u hx hu=>?_
  have WI:i<hi.toNat:=by
   have:=(dc.mp hx).1
   rw[bF,jg]at this;exact this
  rw[dB,vV WI]at hx;cases hx;obtain⟨t,rfl⟩:=hit i u (by simpa using hu)
  exact⟨t,by congr 1;omega⟩
end
end L2
namespace K33
open PySem L2
noncomputable abbrev top(i:Nat):Stmt:=PySem.Challenge.pw_rowblade_k33_stretches_over_rows.main.body.getD i (.Pass ⟨0,0,0,0⟩)
end K33
noncomputable section
namespace KH
open PySem PySem.W PySem.Calls PyProof.Rows L2 K33
abbrev pw:Program:=PySem.Challenge.pw_rowblade_k33_stretches_over_rows
noncomputable abbrev r(a:Nat):Value:=.ref a
noncomputable abbrev O(c:Value)(d:Option Addr)(x:Data)(s:List D1):Obj:=⟨c,d,x,⟨s⟩⟩
abbrev W:=Params->Obj
abbrev Z:=Str×Nat×Value
noncomputable abbrev D(P:Params)(e:Z):DictEntry:=⟨PyData.keyHash P e.1,.str e.1 e.2.1,e.2.2⟩
abbrev fN(n q:Str)(s:Stmt)(g:Addr)(cl:List (Str×Addr))(dv kv doc pm:Value)(an:Option Addr)(cd ct:Value)(b:Addr):FuncData:=⟨n,q,jP s,.stmts (cL s),aD s,g,cl,dv,kv,doc,pm,an,cd,ct,b⟩
abbrev C(n q:Str)(t u L a b c g:Nat)(x:Addr)(B:Bool)(y:Addr)(k l m o:Value):W:=λ_=>O (.type "code") none (.fields ⟨[.str n t,.str q (t+1),.str "/claim/cut.py" (t+2),.int (lF L) 0,.int (lF a) 0,.int (lF b) 0,.int (lF c) 0,.int (lF g) 0,r x,.bool B,.int (lF 181) 0,r y,k,l,m,o,.int (lF u) 0,.int (lF L) 0,.str "/claim/cut.py" (u+1)]⟩) []
abbrev cf(n q:Str)(t u L a x:Nat):W:=C n q t u L a 0 0 3 x true (x+1) .none (r (x+2)) (r (x+3)) (r (x+4))
abbrev cg(n:Str)(t u L a x:Nat):W:=cf n n t u L a x
abbrev cc(n:Str)(t L x:Nat):W:=C n n t (t+3) L 0 0 0 0 x false (x+1) .none .none .none .none
abbrev lt(b:Nat)(l:List (Nat×Nat)):W:=λ_=>O .none none (.fields ⟨(l.map λp=>[.int (lF p.1) 0,.int (lF b) 0,r p.2]).flatten⟩) []
abbrev fO(n q:Str)(s:Stmt)(m:Value)(c:Nat):W:=λ_=>O (.type "function") none (.func (fN n q s 3 [] .none .none .none m none (r c) .none 0)) []
abbrev fn(n q:Str)(s:Stmt):W:=λ_=>O .none none (.func (fN n q s 0 [] .none .none .none .none none .none .none 0)) []
def sS:Nat->Bi->B2
 |_,[]=>[]
 |k,x::l=>.str x k::sS (k+1) l
abbrev tS(k:Nat)(l:Bi):W:=λ_=>O (.type "tuple") none (.seq ⟨sS k l⟩ 0) []
abbrev tV(l:B2):W:=λ_=>O (.type "tuple") none (.seq ⟨l⟩ 0) []
abbrev di(n:Nat)(l:List Z):W:=λP=>O (.type "dict") none (.dict ⟨l.map (D P)⟩ n) []
abbrev c1(m:Value)(b:Nat)(q:Str)(L:Nat)(xs:List Z)(st sr n:Nat):W:=di n (("__module__",b,m)::("__qualname__",b+2,.str q (b+1))::("__firstlineno__",b+4,.int (lF L) (b+3))::(xs.append [("__static_attributes__",st,r sr)]))
abbrev c2(m:Value)(b L:Nat)(xs:List Z)(st sr:Nat)(ys:List Z)(dt n:Nat):W:=di n (("__module__",b,m)::("__firstlineno__",b+4,.int (lF L) (b+3))::(xs.append (("__static_attributes__",st,r sr)::(ys.append [("__doc__",dt,.none)]))))
abbrev cG(n:Str)(bs mr:B2)(d:Nat)(su:B2)(h:D1)(t:Nat)(nw:String):W:=λ_=>O (.type "type") none (.cls ⟨n,bs,mr,d,n,true,[],su,false,none,false⟩) [h,none,some (.str n t),some (.str n (t+8)),some (.builtin nw),some (.bool true)]
abbrev ob:Value:=.type "object"
abbrev cB(n:Str)(d b:Nat)(su:B2)(h t:Nat):W:=cG n [r b] [r (d+1),r b,ob] d su (some (r h)) t "object.__new__"
abbrev c0(n:Str)(d:Nat)(su:B2)(t:Nat):W:=cG n [ob] [r (d+1),ob] d su none t "object.__new__"
abbrev fr(c l:Nat)(m:Value):W:=λ_=>O (.type "frame") none .plain [some (r c),some (r 3),some (r l),none,some m,none,some (r 0)]
abbrev is(c:Nat):W:=λ_=>O (.type "builtin_function_or_method") none (.fields ⟨[.builtin "object.__init_subclass__",r c]⟩) []
abbrev su(c:Nat):W:=λ_=>O (.type "super") none (.fields ⟨[r c,r c,r c]⟩) []
noncomputable abbrev gd(t c:Nat):W:=λ_=>O (.type "getset_descriptor") none (.fields ⟨[.str "__dict__" t,r c,.builtin "function.__dict__",.builtin "function.__dict__#set"]⟩) []
abbrev gw(t c:Nat):W:=λ_=>O (.type "getset_descriptor") none (.fields ⟨[.str "__weakref__" t,r c,.builtin "ExceptionGroup.__weakref__",.none]⟩) []
noncomputable abbrev N(o:Params->Obj)(l r:Params->BT):Params->BT:=λP=>.node (o P) (l P) (r P)
noncomputable abbrev E:Params->BT:=λ_=>.nil
abbrev L(o:Params->Obj):Params->BT:=N o E E
abbrev m0:Value:=.str "__main__" 164
abbrev m1:Value:=.str "rowblade.rows" 194
abbrev m2:Value:=.str "rowblade.lines" 204
abbrev m3:Value:=.str "rowblade.errors" 755
abbrev m4:Value:=.str "rowblade.signs" 893
abbrev m5:Value:=.str "rowblade.patterns" 916
abbrev m6:Value:=.str "rowblade.stretches" 1044
abbrev m7:Value:=.str "rowblade.truths" 1102
abbrev m8:Value:=.str "rowblade.pieces" 1223
abbrev m9:Value:=.str "rowblade.walker" 1273
abbrev m10:Value:=.str "rowblade.walk" 1497
abbrev lV:Value:=.str "rowblade.linereading" 1511
abbrev Vo:Value:=.str "rowblade.reading" 1729
abbrev FW:Value:=.str "law_rowblade_k33_stretches_over_rows" 1772
abbrev d0:List Z:=[("__doc__",166,.none),("__package__",167,.none),("__loader__",168,(.builtin "__main__.__loader__#opaque")),("__spec__",169,.none),("__annotations__",170,(r 6)),("__builtins__",171,(r 4)),("__file__",173,(.str "/claim/cut.py" 172)),("__cached__",174,.none),("_wall",193,(r 21)),("cut",203,(r 28)),("Program",234,(r 45)),("Line",265,(r 66)),("Cond",285,(r 80)),("Always",301,(r 94)),("RowIs",326,(r 113))]
noncomputable abbrev l0:List (Nat×Nat):=[(1,20),(5,27),(11,34),(15,55),(20,76),(22,90),(24,102)]
abbrev d1:=d0.append [("Last",342,(r 125)),("Like",367,(r 144)),("Soon",394,(r 163)),("FromTo",421,(r 182)),("Not",446,(r 201))]
abbrev l1:=l0++[(28,121),(30,133),(34,152),(39,171),(44,190)]
abbrev d2:=d1.append [("End",462,(r 213)),("Deed",482,(r 225)),("Mark",507,(r 246)),("Drop",523,(r 258)),("Print",539,(r 270))]
abbrev l2:=l1++[(48,209),(50,221),(52,235),(56,254),(58,266)]
abbrev d3:=d2.append [("Done",555,(r 282)),("Say",580,(r 301)),("Swap",609,(r 320)),("Join",634,(r 339)),("Pile",661,(r 358))]
abbrev l3:=l2++[(60,278),(62,290),(66,309),(72,328),(76,347)]
abbrev d4:=d3.append [("Bring",686,(r 377)),("Go",711,(r 396)),("Add",738,(r 415)),("Tell",754,(r 427)),("BladeError",774,(r 439))]
abbrev l4:=l3++[(81,366),(85,385),(89,404),(94,423),(97,435)]
abbrev d5:=d4.append [("NoPattern",790,(r 452)),("NoLine",815,(r 471)),("TwoMarks",840,(r 490)),("NoMark",865,(r 509)),("Endless",892,(r 528))]
abbrev l5:=l4++[(99,448),(101,460),(105,479),(109,498),(113,517)]
abbrev d6:=(d5.append [("SIGNS",896,(.str "abcdefghijklmnopqrstuvwxyzABCDEFGHIJKLMNOPQRSTUVWXYZ0123456789 !\"#$&'()*+,-./:;<=>?\x40[\\]^_`{|}~" 895)),("SMALL_LETTERS",898,(.str "abcdefghijklmnopqrstuvwxyz" 897)),("FIGURES",900,(.str "0123456789" 899)),("made_of",906,(r 535)),("beginning_of",915,(r 542)),("MOST_ITEMS",919,(.int (8) 918)),("MOST_SIGNS",921,(.int (12) 920)),("NEVER_PLAIN",923,(.str "^$.[]*+?/" 922)),("NEVER_IN_A_SET",925,(.str "]^/" 924)),("ONCE",927,(.str "1" 926)),("HOW_MANY",929,(.str "*+?" 928)),("may_stand_plain",936,(r 549)),("pattern",947,(r 556)),("items_of",958,(r 563)),("place_behind_core",967,(r 570)),("many_at",975,(r 577)),("item_of",983,(r 584)),("set_item",989,(r 589)),("is_written_plain",997,(r 596)),("written",1008,(r 603)),("written_core",1016,(r 610)),("may_be_empty",1023,(r 617)),("least_length",1029,(r 622)),("may_be_left_out",1036,(r 629)),("may_come_again",1043,(r 636))]).append [("NOWHERE",1048,(.int (-1) 1047)),("stretch",1060,(r 644)),("found",1068,(r 651)),("greatest_ends",1078,(r 658)),("ends_behind_items",1086,(r 665)),("ends_with_item",1101,(r 672)),("TextRow",1144,(r 696)),("text_rows",1150,(r 705))]
abbrev l6:=l5++[(122,534),(124,541),(136,548),(138,555),(150,562),(159,569),(166,576),(170,583),(178,588),(190,595),(192,602),(199,609),(207,616),(209,621),(211,628),(213,635),(217,643),(223,650),(225,657),(230,664),(234,671),(248,678),(260,704)]
abbrev d7:=d6.append [("Truths",1206,(r 739)),("holds",1214,(r 750)),("is_row_up_to",1222,(r 757)),("MOST_FIGURES_pieces",1226,(.int (60) 1225)),("first_swapped",1236,(r 764)),("every_swapped",1249,(r 771)),("words_of",1255,(r 776)),("word_of",1264,(r 783)),("number_of",1272,(r 790))]
abbrev l7:=l6++[(262,711),(293,749),(299,756),(303,763),(308,770),(321,775),(323,782),(328,789)]
abbrev d8:=d7.append [("Walker",1480,(r 947)),("given_in",1486,(r 956)),("numbers_of_marks",1496,(r 963)),("walk",1510,(r 970)),("COND_BEGINNINGS",1520,(r 971)),("MOST_ROW",1522,(.int (999) 1521)),("MOST_FIGURES_linereading",1524,(.int (3) 1523)),("MOST_SOON",1526,(.int (3) 1525)),("LEAST_JOIN",1528,(.int (2) 1527)),("MOST_SMALL",1530,(.int (9) 1529)),("MOST_LETTERS",1532,(.int (8) 1531)),("MOST_TEXT",1534,(.int (40) 1533))]
abbrev l8:=l7++[(334,796),(483,955),(485,962),(492,969)]
abbrev d9:=(d8.append [("Scan",1607,(r 1023)),("line_of",1617,(r 1034)),("line_next",1623,(r 1039)),("cond_next",1630,(r 1046)),("plain_cond_next",1639,(r 1053)),("row_or_pattern_next",1646,(r 1060)),("deed_next",1653,(r 1067)),("swap_next",1662,(r 1074)),("pile_next",1670,(r 1081)),("add_next",1678,(r 1088)),("number_next",1689,(r 1095)),("name_next",1697,(r 1102)),("words_next",1705,(r 1109)),("pattern_next",1713,(r 1116)),("may_stand",1721,(r 1123)),("may_swap",1728,(r 1130)),("MOST_LINES",1732,(.int (24) 1731)),("read",1741,(r 1137)),("lines_of",1751,(r 1144)),("marks_of",1761,(r 1151)),("refuse_go_without_mark",1771,(r 1158)),("_law_cell_at",1781,(r 1165)),("_law_signs",1790,(r 1172)),("_law_row",1801,(r 1179)),("_law_edge",1807,(r 1184))]).append [("_law_text",1814,(r 1191)),("_law_part",1821,(r 1198)),("_law_line",1832,(r 1205))]
abbrev l9:=l8++[(508,977),(540,1033),(546,1038),(554,1045),(560,1052),(572,1059),(576,1066),(601,1073),(605,1080),(610,1087),(614,1094),(622,1101),(627,1108),(632,1115),(638,1122),(644,1129),(650,1136),(655,1143),(662,1150),(670,1157),(675,1164),(679,1171),(683,1178),(690,1183),(695,1190),(699,1197),(703,1204)]
abbrev d10:=d9.append [("_law_holds",1842,(r 1212)),("_law_stretches",1853,(r 1219)),("law",1859,(r 1224))]
abbrev l10:=l9++[(708,1211),(719,1218),(733,1223)]
abbrev eM:=tV []
abbrev lW:W:=λP=>O .none none (.fields ⟨[]⟩) []
abbrev AH:W:=λP=>O (.type "builtin_function_or_method") none (.fields ⟨[(.builtin "type.__prepare__"),(.type "type")]⟩) []
abbrev Ko:=tV [(r 80)]
abbrev lK:=tV [(r 225)]
abbrev Ra:=tV [(r 439)]
abbrev WJ:W:=λP=>O (.type "function") none (.func (fN "stretch" "stretch" (top 64) 3 [] (r 637) .none .none (.str "rowblade.stretches" 1044) none (r 643) .none 0)) []
def od:List W->List W
 |[]=>[]
 |x::r=>x::(match r with
  |[]=>[]
  |_::r=>od r)
def br:Nat->List W->Params->BT
 |0,_,_=>.nil
 |n+1,l,P=>(match l with
  |[]=>.nil
  |x::r=>.node (x P) (br n (od r) P) (br n (od r.tail) P))
def ov:List W->Nat->Nat->List (Nat×W)->List W
 |[],_,_,_=>[]
 |x::l,i,n,q=>(match n.beq i with
  |true=>[]
  |false=>(match q with
   |[]=>x::ov l (i+1) n []
   |y::r=>(match y.1.beq i with
    |true=>y.2::ov l (i+1) n r
    |false=>x::ov l (i+1) n q)))
abbrev ZA:List Z:=[("__init__",1124,(r 686)),("has",1133,(r 693))]
abbrev ZC:List Z:=[("__init__",1168,(r 717)),("told_of",1180,(r 724)),("truth",1186,(r 729)),("truth_of_stretch",1196,(r 736))]
abbrev ZD:List Z:=[("__init__",1294,(r 804)),("want",1301,(r 811)),("take",1310,(r 818)),("take_with",1319,(r 825)),("go_on",1326,(r 832)),("meet",1336,(r 839)),("hand_over",1343,(r 846)),("finish",1351,(r 853)),("find_none",1358,(r 860)),("give",1366,(r 867)),("end_turn",1373,(r 874)),("give_hand_and_end",1380,(r 881)),("do",1389,(r 888)),("do_giving",1397,(r 895)),("do_swap",1405,(r 902)),("do_join",1413,(r 909)),("do_pile",1422,(r 916)),("do_bring",1431,(r 923)),("rows_on_shelves",1438,(r 930)),("do_add",1450,(r 937)),("do_tell",1458,(r 944))]
abbrev ZE:List Z:=[("__init__",1555,(r 985)),("refuse",1562,(r 992)),("passes",1570,(r 999)),("must_pass",1578,(r 1006)),("while_made_of",1587,(r 1013)),("between",1597,(r 1020))]
abbrev eB(s1:Str)(n3 n4 n5 n6 n7:Nat)(l0:Bi)(m2:Value):List W:=[eM,lW,tS (n7+3) l0,eM,fn s1 s1 (top n4),cg s1 n7 (n7+l0.length+3) n5 n3 n6,fO s1 s1 (top n4) m2 (n6+5)]
abbrev MC(s1:Str)(n2 n3 n4 n5:Nat)(w0:W):List W:=[w0,AH,c1 m2 (n5+7) s1 n2 [] (n5+12) (n4+7) 4,eM,lW,cc s1 (n5+2) n2 (n4+3),fr (n4+5) (n4+2) m2,eM,c2 m2 (n5+7) n2 [] (n5+12) (n4+7) [] (n5+13) 2,cB s1 (n4+8) n3 [] n4 n5,su (n4+9),is (n4+9)]
abbrev AI(s1 s3:Str)(n5 n6 n7 n8 n9 AJ:Nat)(l2 l4:Bi)(w0:W):List W:=[w0,AH,c1 m2 (AJ+7) s1 n7 [("__init__",(AJ+l2.length+17),(r (n9+13)))] (AJ+l2.length+l2.length+17) (n9+14) 5,eM,lt 4 [((n7+2),(n9+12))],cc s1 (AJ+2) n7 (n9+3),fr (n9+5) (n9+2) m2,eM,lW,tS (AJ+15) l2,eM,fn "__init__" s3 (inClass (top n6) 0),cf "__init__" s3 (AJ+12) (AJ+l2.length+15) (n7+2) n5 (n9+7),fO "__init__" s3 (inClass (top n6) 0) m2 (n9+12),tS (AJ+l2.length+18) l4,c2 m2 (AJ+7) n7 [("__init__",(AJ+l2.length+17),(r (n9+13)))] (AJ+l2.length+l2.length+17) (n9+14) [] (AJ+l2.length+l2.length+18) 2,cB s1 (n9+15) n8 [] n9 AJ,su (n9+16),is (n9+16)]
abbrev Vp(s0 s2:Str)(n4 n5 n6 n7 n8:Nat)(l1 l3:Bi):List W:=[Ra,AH,c1 m3 (n8+7) s0 n6 [("__init__",(n8+l1.length+17),(r (n7+13)))] (n8+l1.length+l1.length+17) (n7+14) 5,eM,lt 4 [((n6+2),(n7+12))],cc s0 (n8+2) n6 (n7+3),fr (n7+5) (n7+2) m3,eM,lW,tS (n8+15) l1,eM,fn "__init__" s2 (inClass (top n5) 0),cf "__init__" s2 (n8+12) (n8+l1.length+15) (n6+2) n4 (n7+7),fO "__init__" s2 (inClass (top n5) 0) m3 (n7+12),tS (n8+l1.length+18) l3,c2 m3 (n8+7) n6 [("__init__",(n8+l1.length+17),(r (n7+13)))] (n8+l1.length+l1.length+17) (n7+14) [] (n8+l1.length+l1.length+18) 2,cG s0 [(r 439)] [(r (n7+16)),(r 439),(.type "ValueError"),(.type "Exception"),(.type "BaseException"),(.type "object")] (n7+15) [] (some (r n7)) n8 "ValueError.__new__",su (n7+16),is (n7+16)]
abbrev ji(s1 s2:Str)(n4 n5 n6 n7 n8 n9:Nat)(l0:Bi)(m3:Value):List W:=[eM,lW,tS (n9+3) l0,eM,fn s1 s2 (inClass (top n6) n5),cf s1 s2 n9 (n9+l0.length+3) n7 n4 n8,fO s1 s2 (inClass (top n6) n5) m3 (n8+5)]
abbrev a0:List W:=mG [[boot_o_0,boot_o_1,boot_o_2,di 126 (("__name__",165,(.str "law_rowblade_k33_stretches_over_rows" 1772))::d10),boot_o_4,boot_o_5,boot_o_6,boot_o_7,boot_o_8,boot_o_9,boot_o_10,eM,lt 0 l10,cc "<module>" 182 1 11,fr 13 3 m0],eB "_wall" 1 0 1 15 187 ["k"] m0,eB "cut" 1 2 5 22 196 ["text","rows"] m1,[eM,AH,c1 m2 213 "Program" 11 [("__init__",225,(r 42))] 227 43 5,eM,lt 4 [(13,41)],cc "Program" 208 11 32,fr 34 31 m2,eM,lW,tS 221 ["self","lines"],eM,fn "__init__" "Program.__init__" (inClass (top 4) 0),cf "__init__" "Program.__init__" 218 223 13 2 36,fO "__init__" "Program.__init__" (inClass (top 4) 0) m2 41,tS 226 ["lines"],c2 m2 213 11 [("__init__",225,(r 42))] 227 43 [("__dict__",229,(r 46)),("__weakref__",231,(r 47))] 232 4,c0 "Program" 44 [] 206,gd 228 45,gw 230 45,su 45,is 45,eM,AH,c1 m2 242 "Line" 15 [("__init__",255,(r 63))] 258 64 5,eM,lt 4 [(17,62)],cc "Line" 237 15 53,fr 55 52 m2,eM,lW,tS 250 ["self","cond","deed"],eM,fn "__init__" "Line.__init__" (inClass (top 5) 0),cf "__init__" "Line.__init__" 247 253 17 3 57,fO "__init__" "Line.__init__" (inClass (top 5) 0) m2 62,tS 256 ["cond","deed"],c2 m2 242 15 [("__init__",255,(r 63))] 258 64 [("__dict__",260,(r 67)),("__weakref__",262,(r 68))] 263 4,c0 "Line" 65 [] 235,gd 259 66,gw 261 66,su 66,is 66,eM,AH,c1 m2 273 "Cond" 20 [] 278 78 4,eM,lW,cc "Cond" 268 20 74,fr 76 73 m2,eM,c2 m2 273 20 [] 278 78 [("__dict__",280,(r 81)),("__weakref__",282,(r 82))] 283 4,c0 "Cond" 79 [(r 94),(r 113),(r 125),(r 144),(r 163),(r 182),(r 201),(r 213)] 266,gd 279 80,gw 281 80,su 80,is 80],MC "Always" 22 80 85 286 Ko,AI "RowIs" "RowIs.__init__" 2 8 24 80 97 302 ["self","number"] ["number"] Ko]
abbrev a1:List W:=mG [MC "Last" 28 80 116 327 Ko,AI "Like" "Like.__init__" 2 10 30 80 128 343 ["self","pattern"] ["pattern"] Ko,AI "Soon" "Soon.__init__" 3 11 34 80 147 368 ["self","many","pattern"] ["many","pattern"] Ko,AI "FromTo" "FromTo.__init__" 3 12 39 80 166 395 ["self","first","second"] ["first","second"] Ko,AI "Not" "Not.__init__" 2 13 44 80 185 422 ["self","inner"] ["inner"] Ko,MC "End" 48 80 204 447 Ko,[eM,AH,c1 m2 470 "Deed" 50 [] 475 223 4,eM,lW,cc "Deed" 465 50 219,fr 221 218 m2,eM,c2 m2 470 50 [] 475 223 [("__dict__",477,(r 226)),("__weakref__",479,(r 227))] 480 4,c0 "Deed" 224 [(r 246),(r 258),(r 270),(r 282),(r 301),(r 320),(r 339),(r 358),(r 377),(r 396),(r 415),(r 427)] 463,gd 476 225,gw 478 225,su 225,is 225]]
abbrev a2:List W:=mG [AI "Mark" "Mark.__init__" 2 16 52 225 230 483 ["self","name"] ["name"] lK,MC "Drop" 56 225 249 508 lK,MC "Print" 58 225 261 524 lK,MC "Done" 60 225 273 540 lK,AI "Say" "Say.__init__" 2 20 62 225 285 556 ["self","words"] ["words"] lK,AI "Swap" "Swap.__init__" 4 21 66 225 304 581 ["self","pattern","words","every"] ["every","pattern","words"] lK,AI "Join" "Join.__init__" 2 22 72 225 323 610 ["self","most"] ["most"] lK]
abbrev a3:List W:=mG [AI "Pile" "Pile.__init__" 3 23 76 225 342 635 ["self","shelf","most"] ["most","shelf"] lK,AI "Bring" "Bring.__init__" 2 24 81 225 361 662 ["self","shelf"] ["shelf"] lK,AI "Go" "Go.__init__" 2 25 85 225 380 687 ["self","name"] ["name"] lK,AI "Add" "Add.__init__" 3 26 89 225 399 712 ["self","first","second"] ["first","second"] lK,MC "Tell" 94 225 418 739 lK,[tV [(.type "ValueError")],AH,c1 m3 764 "BladeError" 97 [] 769 437 4,eM,lW,cc "BladeError" 759 97 433,fr 435 432 m3,eM,c2 m3 764 97 [] 769 437 [("__weakref__",771,(r 440))] 772 3,cG "BladeError" [(.type "ValueError")] [(r 439),(.type "ValueError"),(.type "Exception"),(.type "BaseException"),(.type "object")] 438 [(r 452),(r 471),(r 490),(r 509),(r 528)] (some (r 430)) 757 "ValueError.__new__",gw 770 439,su 439,is 439,Ra,AH,c1 m3 782 "NoPattern" 99 [] 787 450 4,eM,lW,cc "NoPattern" 777 99 446,fr 448 445 m3,eM,c2 m3 782 99 [] 787 450 [] 788 2,cG "NoPattern" [(r 439)] [(r 452),(r 439),(.type "ValueError"),(.type "Exception"),(.type "BaseException"),(.type "object")] 451 [] (some (r 443)) 775 "ValueError.__new__",su 452,is 452]]
abbrev a4:List W:=mG [Vp "NoLine" "NoLine.__init__" 2 31 101 455 791 ["self","row"] ["row"],Vp "TwoMarks" "TwoMarks.__init__" 2 32 105 474 816 ["self","row"] ["row"],Vp "NoMark" "NoMark.__init__" 2 33 109 493 841 ["self","row"] ["row"],Vp "Endless" "Endless.__init__" 3 34 113 512 866 ["self","row","line"] ["line","row"],[eM,lW,fn "made_of" "made_of" (top 39),C "made_of" "made_of" 901 904 122 2 0 0 3 531 true 532 .none .none .none (r 533),fO "made_of" "made_of" (top 39) m4 534],eB "beginning_of" 2 40 124 536 907 ["text","signs","many"] m4,eB "may_stand_plain" 1 48 136 543 930 ["sign"] m5,eB "pattern" 1 49 138 550 937 ["text","front","body","back","items"] m5,eB "items_of" 1 50 150 557 948 ["body","items","place","behind","many"] m5,eB "place_behind_core" 2 51 159 564 959 ["body","place","bracket"] m5]
abbrev a5:List W:=mG [eB "many_at" 2 52 166 571 968 ["body","place"] m5,eB "item_of" 2 53 170 578 976 ["core","many"] m5,[eM,lW,fn "set_item" "set_item" (top 54),C "set_item" "set_item" 984 987 178 2 0 0 3 585 true 586 .none .none .none (r 587),fO "set_item" "set_item" (top 54) m5 588],eB "is_written_plain" 2 55 190 590 990 ["signs","others"] m5,eB "written" 1 56 192 597 998 ["one","parts","signs","others","many"] m5,eB "written_core" 2 57 199 604 1009 ["signs","others"] m5,eB "may_be_empty" 1 58 207 611 1017 ["one"] m5,[eM,lW,fn "least_length" "least_length" (top 59),C "least_length" "least_length" 1024 1027 209 1 0 0 3 618 true 619 .none .none .none (r 620),fO "least_length" "least_length" (top 59) m5 621],eB "may_be_left_out" 1 60 211 623 1030 ["item"] m5,eB "may_come_again" 1 61 213 630 1037 ["item"] m5,[tV [(.int (0) 1049)],eM,lW,tS 1053 ["one","row","start","ends","begin"],eM,fn "stretch" "stretch" (top 64),cg "stretch" 1050 1058 217 3 638,WJ],eB "found" 2 65 223 645 1061 ["one","row"] m6,eB "greatest_ends" 2 66 225 652 1069 ["one","row","ends","item"] m6,eB "ends_behind_items" 2 67 230 659 1079 ["row","back"] m6,eB "ends_with_item" 3 68 234 666 1087 ["item","row","behind","signs","others","again","ends","place","end"] m6,[eM,AH,c1 m7 1111 "TextRow" 248 ZA 1137 694 6,eM,lt 4 [(250,685),(255,692)],cc "TextRow" 1106 248 676,fr 678 675 m7],ji "__init__" "TextRow.__init__" 3 0 70 250 680 1116 ["self","text","number"] m7]
abbrev a6:List W:=mG [ji "has" "TextRow.has" 2 1 70 255 687 1125 ["self","one","name"] m7,[tS 1134 ["known","number","text"],c2 m7 1111 248 ZA 1137 694 [("__dict__",1139,(r 697)),("__weakref__",1141,(r 698))] 1142 4,c0 "TextRow" 695 [] 1104,gd 1138 696,gw 1140 696,su 696,is 696,eM,lW,fn "text_rows" "text_rows" (top 71),C "text_rows" "text_rows" 1145 1148 260 1 0 0 3 701 true 702 .none .none .none (r 703),fO "text_rows" "text_rows" (top 71) m7 704,eM,AH,c1 m7 1158 "Truths" 262 ZC 1199 737 8,eM,lt 4 [(264,716),(268,723),(274,728),(285,735)],cc "Truths" 1153 262 709,fr 711 708 m7,eM,lW,fn "__init__" "Truths.__init__" (inClass (top 72) 0),C "__init__" "Truths.__init__" 1163 1166 264 2 0 0 3 713 true 714 .none .none .none (r 715),fO "__init__" "Truths.__init__" (inClass (top 72) 0) m7 716],ji "told_of" "Truths.told_of" 3 1 72 268 718 1169 ["self","row","behind","truths","place","cond"] m7,[eM,lW,fn "truth" "Truths.truth" (inClass (top 72) 2),C "truth" "Truths.truth" 1181 1184 274 5 0 0 3 725 true 726 .none .none .none (r 727),fO "truth" "Truths.truth" (inClass (top 72) 2) m7 728],ji "truth_of_stretch" "Truths.truth_of_stretch" 4 3 72 285 730 1187 ["self","place","cond","row"] m7,[tS 1197 ["conds","up"],c2 m7 1158 262 ZC 1199 737 [("__dict__",1201,(r 740)),("__weakref__",1203,(r 741))] 1204 4,c0 "Truths" 738 [] 1151,gd 1200 739,gw 1202 739,su 739,is 739],eB "holds" 2 73 293 744 1207 ["cond","row"] m7,eB "is_row_up_to" 2 74 299 751 1215 ["cond","number"] m7,eB "first_swapped" 3 77 303 758 1227 ["hand","one","words","place"] m8,eB "every_swapped" 3 78 308 765 1237 ["hand","one","words","ends","parts","kept_to","place"] m8,[eM,lW,fn "words_of" "words_of" (top 79),C "words_of" "words_of" 1250 1253 321 1 0 0 3 772 true 773 .none .none .none (r 774),fO "words_of" "words_of" (top 79) m8 775],eB "word_of" 2 80 323 777 1256 ["hand","number","words"] m8,eB "number_of" 1 81 328 784 1265 ["word","figures"] m8,[eM,AH,c1 m9 1282 "Walker" 334 ZD 1473 945 25,eM,lt 4 [(336,803),(353,810),(357,817),(360,824),(371,831),(378,838),(389,845),(392,852),(402,859),(405,866),(408,873),(415,880),(419,887),(439,894),(447,901),(453,908),(459,915),(463,922),(468,929),(471,936),(480,943)],cc "Walker" 1277 334 794]]
abbrev a7:List W:=mG [[fr 796 793 m9],ji "__init__" "Walker.__init__" 2 0 83 336 798 1287 ["self","program"] m9,ji "want" "Walker.want" 1 1 83 353 805 1295 ["self"] m9,ji "take" "Walker.take" 3 2 83 357 812 1302 ["self","row","behind"] m9,ji "take_with" "Walker.take_with" 3 3 83 360 819 1311 ["self","text","truths"] m9,ji "go_on" "Walker.go_on" 1 4 83 371 826 1320 ["self"] m9,ji "meet" "Walker.meet" 3 5 83 378 833 1327 ["self","line","number","truth"] m9,ji "hand_over" "Walker.hand_over" 1 6 83 389 840 1337 ["self"] m9,ji "finish" "Walker.finish" 1 7 83 392 847 1344 ["self","line"] m9,ji "find_none" "Walker.find_none" 1 8 83 402 854 1352 ["self"] m9,ji "give" "Walker.give" 2 9 83 405 861 1359 ["self","row"] m9,ji "end_turn" "Walker.end_turn" 1 10 83 408 868 1367 ["self"] m9,ji "give_hand_and_end" "Walker.give_hand_and_end" 1 11 83 415 875 1374 ["self"] m9,ji "do" "Walker.do" 3 12 83 419 882 1381 ["self","deed","number"] m9,ji "do_giving" "Walker.do_giving" 2 13 83 439 889 1390 ["self","deed"] m9,ji "do_swap" "Walker.do_swap" 2 14 83 447 896 1398 ["self","deed"] m9,ji "do_join" "Walker.do_join" 2 15 83 453 903 1406 ["self","deed"] m9]
abbrev a8:List W:=mG [ji "do_pile" "Walker.do_pile" 2 16 83 459 910 1414 ["self","deed","things"] m9,ji "do_bring" "Walker.do_bring" 2 17 83 463 917 1423 ["self","deed","thing"] m9,ji "rows_on_shelves" "Walker.rows_on_shelves" 1 18 83 468 924 1432 ["self"] m9,ji "do_add" "Walker.do_add" 3 19 83 471 931 1439 ["self","deed","number","name","word","amount"] m9,ji "do_tell" "Walker.do_tell" 1 20 83 480 938 1451 ["self","name"] m9,[tS 1459 ["behind_marks","hand","hand_rows","lines","log","met","noted","passed","shelves","sums","taken","teller","truths","wanting"],c2 m9 1282 334 ZD 1473 945 [("__dict__",1475,(r 948)),("__weakref__",1477,(r 949))] 1478 4,c0 "Walker" 946 [] 1275,gd 1474 947,gw 1476 947,su 947,is 947,eM,lW,fn "given_in" "given_in" (top 84),C "given_in" "given_in" 1481 1484 483 1 0 0 3 952 true 953 .none .none .none (r 954),fO "given_in" "given_in" (top 84) m9 955],eB "numbers_of_marks" 1 85 485 957 1487 ["lines","numbers","number","line"] m9,eB "walk" 2 87 492 964 1499 ["program","text","rows","walker","number","row"] m10,[tS 1513 ["row ","last","/","soon ","from ","not ","end"],eM,AH,c1 lV 1542 "Scan" 508 ZE 1600 1021 10,eM,lt 4 [(510,984),(514,991),(517,998),(523,1005),(527,1012),(532,1019)],cc "Scan" 1537 508 975,fr 977 974 lV],ji "__init__" "Scan.__init__" 3 0 97 510 979 1547 ["self","row","number"] lV,ji "refuse" "Scan.refuse" 1 1 97 514 986 1556 ["self"] lV,ji "passes" "Scan.passes" 2 2 97 517 993 1563 ["self","words"] lV,ji "must_pass" "Scan.must_pass" 2 3 97 523 1000 1571 ["self","words"] lV,ji "while_made_of" "Scan.while_made_of" 2 4 97 527 1007 1579 ["self","signs","taken"] lV,ji "between" "Scan.between" 2 5 97 532 1014 1588 ["self","sign","place","inside"] lV]
abbrev a9:List W:=mG [[tS 1598 ["number","rest"],c2 lV 1542 508 ZE 1600 1021 [("__dict__",1602,(r 1024)),("__weakref__",1604,(r 1025))] 1605 4,c0 "Scan" 1022 [] 1535,gd 1601 1023,gw 1603 1023,su 1023,is 1023],eB "line_of" 2 98 540 1028 1608 ["row","number","scan","line"] lV,[eM,lW,fn "line_next" "line_next" (top 99),C "line_next" "line_next" 1618 1621 546 1 0 0 3 1035 true 1036 .none .none .none (r 1037),fO "line_next" "line_next" (top 99) lV 1038],eB "cond_next" 1 100 554 1040 1624 ["scan"] lV,eB "plain_cond_next" 1 101 560 1047 1631 ["scan","many","first"] lV,eB "row_or_pattern_next" 1 102 572 1054 1640 ["scan"] lV,eB "deed_next" 1 103 576 1061 1647 ["scan"] lV,eB "swap_next" 2 104 601 1068 1654 ["scan","every","one"] lV,eB "pile_next" 1 105 605 1075 1663 ["scan","shelf"] lV,eB "add_next" 1 106 610 1082 1671 ["scan","first"] lV,eB "number_next" 3 107 614 1089 1679 ["scan","least","most","figures","number"] lV,eB "name_next" 1 108 622 1096 1690 ["scan","name"] lV,eB "words_next" 1 109 627 1103 1698 ["scan","words"] lV,eB "pattern_next" 1 110 632 1110 1706 ["scan","text"] lV,eB "may_stand" 2 111 638 1117 1714 ["cond","deed"] lV,eB "may_swap" 1 112 644 1124 1722 ["deed"] lV]
abbrev a10:List W:=mG [eB "read" 1 115 650 1131 1733 ["text","lines","marks"] Vo,eB "lines_of" 1 116 655 1138 1742 ["rows","lines","number","row"] Vo,eB "marks_of" 1 117 662 1145 1752 ["lines","marks","number","line"] Vo,eB "refuse_go_without_mark" 2 118 670 1152 1762 ["lines","marks","number","line"] Vo,eB "_law_cell_at" 2 120 675 1159 1774 ["_law_script","_law_k"] FW,eB "_law_signs" 1 121 679 1166 1782 ["_law_cell","_law_some","_law_number"] FW,eB "_law_row" 2 122 683 1173 1791 ["_law_cell","_law_signs_here","_law_row_here","_law_number","_law_k"] FW,[eM,lW,fn "_law_edge" "_law_edge" (top 123),C "_law_edge" "_law_edge" 1802 1805 690 2 0 0 3 1180 true 1181 .none .none .none (r 1182),fO "_law_edge" "_law_edge" (top 123) FW 1183],eB "_law_text" 1 124 695 1185 1808 ["_law_edge_here"] FW,eB "_law_part" 1 125 699 1192 1815 ["_law_edge_here"] FW,eB "_law_line" 4 126 703 1199 1822 ["_law_first","_law_second","_law_turned","_law_k","_law_cond"] FW,eB "_law_holds" 3 127 708 1206 1833 ["_law_edge_here","_law_rows","_law_at","_law_row_here"] FW,eB "_law_stretches" 3 128 719 1213 1843 ["_law_first","_law_second","_law_rows","_law_truths","_law_at"] FW,[eM,lW,fn "law" "law" (top 129),C "law" "law" 1854 1857 733 1 0 0 3 1220 true 1221 .none .none .none (r 1222),fO "law" "law" (top 129) FW 1223]]
abbrev os:List W:=a0++(a1++(a2++(a3++(a4++(a5++(a6++(a7++(a8++(a9++(a10))))))))))
abbrev tr(n:Nat)(q:List (Nat×W)):Params->BT:=br 12 (ov os 0 n q)
abbrev lf:Life:=⟨[],[],[],0,[],[],false,#[],[],0,false,false,false,0,[2000,10,10],false,0,true,[],[],0,false⟩
abbrev TA(w:World)(os:OsState):SharedT:=⟨tr 15 [(3,boot_o_3),(12,lW)] w.params,15,lf,⟨[]⟩,⟨0,0,0,0⟩,187,os⟩
abbrev T0(w:World)(os:OsState):SharedT:=⟨tr 116 [(3,di 16 (("__name__",165,(.str "rowblade.lines" 204))::d0)),(12,lt 0 l0),(80,c0 "Cond" 79 [(r 94),(r 113)] 266)] w.params,116,lf,⟨[]⟩,⟨0,0,0,0⟩,327,os⟩
abbrev T1(w:World)(os:OsState):SharedT:=⟨tr 204 [(3,di 21 (("__name__",165,(.str "rowblade.lines" 204))::d1)),(12,lt 0 l1),(80,c0 "Cond" 79 [(r 94),(r 113),(r 125),(r 144),(r 163),(r 182),(r 201)] 266)] w.params,204,lf,⟨[]⟩,⟨0,0,0,0⟩,447,os⟩
abbrev T2(w:World)(os:OsState):SharedT:=⟨tr 273 [(3,di 26 (("__name__",165,(.str "rowblade.lines" 204))::d2)),(12,lt 0 l2),(225,c0 "Deed" 224 [(r 246),(r 258),(r 270)] 463)] w.params,273,lf,⟨[]⟩,⟨0,0,0,0⟩,540,os⟩
abbrev T3(w:World)(os:OsState):SharedT:=⟨tr 361 [(3,di 31 (("__name__",165,(.str "rowblade.lines" 204))::d3)),(12,lt 0 l3),(225,c0 "Deed" 224 [(r 246),(r 258),(r 270),(r 282),(r 301),(r 320),(r 339),(r 358)] 463)] w.params,361,lf,⟨[]⟩,⟨0,0,0,0⟩,662,os⟩
abbrev T4(w:World)(os:OsState):SharedT:=⟨tr 443 [(3,di 36 (("__name__",165,(.str "rowblade.errors" 755))::d4)),(12,lt 0 l4),(439,cG "BladeError" [(.type "ValueError")] [(r 439),(.type "ValueError"),(.type "Exception"),(.type "BaseException"),(.type "object")] 438 [] (some (r 430)) 757 "ValueError.__new__")] w.params,443,lf,⟨[]⟩,⟨0,0,0,0⟩,775,os⟩
abbrev T5(w:World)(os:OsState):SharedT:=⟨tr 531 [(3,di 41 (("__name__",165,(.str "rowblade.errors" 755))::d5)),(12,lt 0 l5)] w.params,531,lf,⟨[]⟩,⟨0,0,0,0⟩,893,os⟩
abbrev T6(w:World)(os:OsState):SharedT:=⟨tr 706 [(3,di 74 (("__name__",165,(.str "rowblade.truths" 1102))::d6)),(12,lt 0 l6)] w.params,706,lf,⟨[]⟩,⟨0,0,0,0⟩,1151,os⟩
abbrev T7(w:World)(os:OsState):SharedT:=⟨tr 791 [(3,di 83 (("__name__",165,(.str "rowblade.walker" 1273))::d7)),(12,lt 0 l7)] w.params,791,lf,⟨[]⟩,⟨0,0,0,0⟩,1275,os⟩
abbrev T8(w:World)(os:OsState):SharedT:=⟨tr 972 [(3,di 95 (("__name__",165,(.str "rowblade.linereading" 1511))::d8)),(12,lt 0 l8)] w.params,972,lf,⟨[]⟩,⟨0,0,0,0⟩,1535,os⟩
abbrev T9(w:World)(os:OsState):SharedT:=⟨tr 1206 [(3,di 123 (("__name__",165,(.str "law_rowblade_k33_stretches_over_rows" 1772))::d9)),(12,lt 0 l9)] w.params,1206,lf,⟨[]⟩,⟨0,0,0,0⟩,1833,os⟩
abbrev Rb(w:World)(os:OsState):SharedT:=⟨tr 1225 [] w.params,1225,lf,⟨[]⟩,⟨0,0,0,0⟩,1860,os⟩
abbrev bE:Ee:=behindTheImports pw
abbrev nv:Env:={scope:=pw.main.scope,locals:=mainNs,globals:=mainNs,cells:=[],code:=(r 13),frame:=some 14}
abbrev cE:Code:=.body bE nv
abbrev BF:List Frame:=[topFrame ⟨0,0,0,0⟩]
abbrev an:D1:=(some (r 6))
abbrev Rf:Ee:=(bE.drop 0).take 9
abbrev Rg:Ee:=(bE.drop 9).take 5
abbrev Ri:Ee:=(bE.drop 14).take 5
abbrev Rj:Ee:=(bE.drop 19).take 5
abbrev Rk:Ee:=(bE.drop 24).take 6
abbrev Rl:Ee:=(bE.drop 30).take 5
abbrev Rm:Ee:=(bE.drop 35).take 37
abbrev Rn:Ee:=(bE.drop 72).take 11
abbrev Ro:Ee:=(bE.drop 83).take 14
abbrev Rp:Ee:=(bE.drop 97).take 30
abbrev Kp:Ee:=(bE.drop 127).take 3
abbrev S0(w:World)(os:OsState):Shared:=⟨boot_heap w.params,Array.mk [],boot_drawn,boot_toks,os⟩
abbrev th0:Thread:=piecesOf Rf nv cE ⟨0,0,0,0⟩ BF
abbrev th1:Thread:=piecesOf Rg nv cE ⟨24,0,27,28⟩ BF
abbrev th2:Thread:=piecesOf Ri nv cE ⟨44,0,47,26⟩ BF
abbrev th3:Thread:=piecesOf Rj nv cE ⟨58,0,59,8⟩ BF
abbrev th4:Thread:=piecesOf Rk nv cE ⟨76,0,80,24⟩ BF
abbrev th5:Thread:=piecesOf Rl nv cE ⟨97,0,98,8⟩ BF
abbrev th6:Thread:=piecesOf Rm nv cE ⟨113,0,117,24⟩ BF
abbrev th7:Thread:=piecesOf Rn nv cE ⟨260,0,261,77⟩ BF
abbrev th8:Thread:=piecesOf Ro nv cE ⟨333,0,333,8⟩ BF
abbrev th9:Thread:=piecesOf Rp nv cE ⟨507,0,507,9⟩ BF
abbrev WK:Thread:=piecesOf Kp nv cE ⟨703,0,707,54⟩ BF
abbrev thA:Thread:=⟨denote treeTable cE,cE,⟨0,0,0,0⟩,BF⟩
abbrev thB:Thread:=blockOf bE nv cE ⟨0,0,0,0⟩ BF
abbrev thF:Thread:=⟨doneF .next,cE,⟨733,0,764,151⟩,BF⟩
def ZF:Nat->Nat->Nat->B1
 |0,a,_=>[a]
 |k+1,a,n=>a::ZF k (a+n % 16) (n/16)
noncomputable abbrev as:BM:=ZF 701 2 0x1311212112121121211212112121131121211212112121121211212112121121211212112121121211212112121121211212112121121211212112121121211212113112123111111212112121121211212112121121281121211212113311111121211212112121121211212112121121211212112121121211212112121121211212112121121211212112121121211212112128121211212113112121121211212112123111111212113112121138133111111212112128121211212112121121211212111212112121131121211212112121121211311212112121121211212112121121211212113311112127311112127311112127311112127311731117311731111212731111212731111212731111212731111212731111212731111212731173117311731111212731111a1173111121273111121273111121273111121273117311112127311731111a111111212a1111112128121211212c1
def sl:List W->Nat->B1->List W
 |[],_,_=>[]
 |x::l,i,q=>(match q with
  |[]=>[]
  |y::r=>(match y.beq i with
   |true=>x::sl l (i+1) r
   |false=>sl l (i+1) q))
abbrev K(P:Params):Frag:=as.zip ((sl os 0 as).map λo=>o P)
abbrev vw:Program:={pw with main:={pw.main with body:=([0,2,4,5,6,7,8,9,10,11,12,13,14,15,16,17,18,19,20,21,22,23,24,25,26,27,29,30,31,32,33,34,36,37,38,39,40,42,43,44,45,46,47,48,49,50,51,52,53,54,55,56,57,58,59,60,61,63,65,66,67,68,70,71,72,73,74,76,77,78,79,80,81,83,84,85,87,89,90,91,92,93,94,95,96,97,98,99,100,101,102,103,104,105,106,107,108,109,110,111,112,114,115,116,117,118,120,121,122,123,124,125,126,127,128,129]:B1).map top}}
abbrev lz:Bi:=["stretch"]
theorem pre:∀w:World,(λos=>topGo treeTable pw w 11 an 12 (S0 w os) (topStub pw))=λos=>some ((TA w os).abs,thA):=by
 exact λw=>by kernel_rfl
theorem Vq:∀w:World,(λos=>segRun treeTable pw w 11 an 1 1 (TA w os).abs thB)=λos=>some (Flow.next,(TA w os).abs,cE,(⟨0,0,0,0⟩:Pos)):=by
 exact λw=>by kernel_rfl
theorem g0:∀w:World,(λos=>segRunT treeTable pw w 11 an 1 1172 (TA w os) th0)=λos=>some (Flow.next,T0 w os,cE,(⟨24,0,27,28⟩:Pos)):=by
 rewrite [PySem.W.Fast.te10110043849684766642]
 exact λw=>by kernel_rfl
theorem g1:∀w:World,(λos=>segRunT treeTable pw w 11 an 1 1198 (T0 w os) th1)=λos=>some (Flow.next,T1 w os,cE,(⟨44,0,47,26⟩:Pos)):=by
 rewrite [PySem.W.Fast.te10110043849684766642]
 exact λw=>by kernel_rfl
theorem g2:∀w:World,(λos=>segRunT treeTable pw w 11 an 1 1075 (T1 w os) th2)=λos=>some (Flow.next,T2 w os,cE,(⟨58,0,59,8⟩:Pos)):=by
 rewrite [PySem.W.Fast.te10110043849684766642]
 exact λw=>by kernel_rfl
theorem g3:∀w:World,(λos=>segRunT treeTable pw w 11 an 1 1200 (T2 w os) th3)=λos=>some (Flow.next,T3 w os,cE,(⟨76,0,80,24⟩:Pos)):=by
 rewrite [PySem.W.Fast.te10110043849684766642]
 exact λw=>by kernel_rfl
theorem g4:∀w:World,(λos=>segRunT treeTable pw w 11 an 1 1146 (T3 w os) th4)=λos=>some (Flow.next,T4 w os,cE,(⟨97,0,98,8⟩:Pos)):=by
 rewrite [PySem.W.Fast.te10110043849684766642]
 exact λw=>by kernel_rfl
theorem g5:∀w:World,(λos=>segRunT treeTable pw w 11 an 1 1196 (T4 w os) th5)=λos=>some (Flow.next,T5 w os,cE,(⟨113,0,117,24⟩:Pos)):=by
 rewrite [PySem.W.Fast.te10110043849684766642]
 exact λw=>by kernel_rfl
theorem g6:∀w:World,(λos=>segRunT treeTable pw w 11 an 1 1055 (T5 w os) th6)=λos=>some (Flow.next,T6 w os,cE,(⟨260,0,261,77⟩:Pos)):=by
 rewrite [PySem.W.Fast.te10110043849684766642]
 exact λw=>by kernel_rfl
theorem g7:∀w:World,(λos=>segRunT treeTable pw w 11 an 1 559 (T6 w os) th7)=λos=>some (Flow.next,T7 w os,cE,(⟨333,0,333,8⟩:Pos)):=by
 rewrite [PySem.W.Fast.te10110043849684766642]
 exact λw=>by kernel_rfl
theorem g8:∀w:World,(λos=>segRunT treeTable pw w 11 an 1 1070 (T7 w os) th8)=λos=>some (Flow.next,T8 w os,cE,(⟨507,0,507,9⟩:Pos)):=by
 rewrite [PySem.W.Fast.te10110043849684766642]
 exact λw=>by kernel_rfl
theorem g9:∀w:World,(λos=>segRunT treeTable pw w 11 an 1 1201 (T8 w os) th9)=λos=>some (Flow.next,T9 w os,cE,(⟨703,0,707,54⟩:Pos)):=by
 rewrite [PySem.W.Fast.te10110043849684766642]
 exact λw=>by kernel_rfl
theorem g10:∀w:World,(λos=>segRunT treeTable pw w 11 an 1 92 (T9 w os) WK)=λos=>some (Flow.next,Rb w os,cE,(⟨733,0,764,151⟩:Pos)):=by
 rewrite [PySem.W.Fast.te10110043849684766642]
 exact λw=>by kernel_rfl
theorem fin:∀w:World,(λos=>topRun treeTable pw w 11 an 2 (Rb w os).abs thF)=λos=>some (Rb w os).abs:=by
 exact λw=>by kernel_rfl
theorem chn(w:World)(os:OsState):∀l,l=(Rf++(Rg++(Ri++(Rj++(Rk++(Rl++(Rm++(Rn++(Ro++(Rp++(Kp++[])))))))))))->topRun treeTable pw w 11 an (1172+(1198+(1075+(1200+(1146+(1196+(1055+(559+(1070+(1201+(92+2))))))))))) (TA w os).abs (restOf l nv cE ⟨0,0,0,0⟩ BF)=some (Rb w os).abs:=λl e=>by
 rw[e];exact piece_app (segRun_of (congrFun (g0 w) os)) (piece_app (segRun_of (congrFun (g1 w) os)) (piece_app (segRun_of (congrFun (g2 w) os)) (piece_app (segRun_of (congrFun (g3 w) os)) (piece_app (segRun_of (congrFun (g4 w) os)) (piece_app (segRun_of (congrFun (g5 w) os)) (piece_app (segRun_of (congrFun (g6 w) os)) (piece_app (segRun_of (congrFun (g7 w) os)) (piece_app (segRun_of (congrFun (g8 w) os)) (piece_app (segRun_of (congrFun (g9 w) os)) (piece_app (segRun_of (congrFun (g10 w) os)) (congrFun (fin w) os)))))))))))
theorem run(w:World)(os:OsState):topRun treeTable pw w 11 an (12+(1+(1172+(1198+(1075+(1200+(1146+(1196+(1055+(559+(1070+(1201+(92+2))))))))))))) (S0 w os) (topStub pw)=some (Rb w os).abs:=go_top (congrFun (pre w) os) (piece_block (congrFun (Vq w) os) (chn w os bE (by kernel_rfl)))
theorem PQ:∀P,as=(K P).map (·.1):=λ_=>by kernel_rfl
abbrev H:Hook:=kHook K as PQ
abbrev H1(P:Params):Heap:=absHeap ((tr 1225 []) P) 1225 lf
abbrev SF(w:World)(os:OsState):Shared:=⟨H1 w.params,Array.mk [],⟨0,0,0,0⟩,1860,os⟩
abbrev Xt(s:Shared):Bool:=xlAt vw [] s&&recOk (RowW.records (OpenRow.toRowW (OpenLaw.row PySem.Challenge.rw_rowblade_k33_stretches_over_rows))) s
theorem opn:∀w:World,(fencedOpening treeTable pw w 22032).map (λs=>(s.heap,s.gens,s.drawn,s.toks))=some (boot_heap w.params,Array.mk [],boot_drawn,boot_toks):=boot_open (by kernel_rfl) (by decide) (λs=>by kernel_rfl)
theorem siz:∀w:World,((boot_heap w.params).isNs mainGlobals&&(Array.mk []:Array GenState).size == 0,(boot_heap w.params).objs.size,(boot_heap w.params).nsMap mainGlobals "__annotations__")=(true,11,an):=λw=>by kernel_rfl
theorem lk1:∀w:World,(λos=>(staticsOk (importedModules pw.main.body) (boot_heap w.params) (H1 w.params)&&namesBound pw (H1 w.params)&&gensDone (SF w os)&&laidKept (boot_heap w.params) (H1 w.params)))=λ_=>true:=λw=>by kernel_rfl
theorem q1:∀w:World,(λos=>PyProof.Rows.seen (Aa (λx=>x.name) (J8 vw)) (PyProof.Rows.ownsOf vw) [] {heap:=(SF w os).heap,drawn:=(SF w os).drawn,toks:=(SF w os).toks,os:=(SF w os).os})=λ_=>PyProof.Rows.expectedOf vw:=λw=>by kernel_rfl
theorem q2:∀w:World,(λos=>(SF w os).heap.bltView)=λ_=>bltViewBooted:=λw=>by kernel_rfl
theorem b1:∀w:World,(λos=>(SF w os).heap.keysOk (looseW vw lz) (Aa (λx=>x.name) (J8 vw)) (Aa (λx=>x.fst) (PyProof.Rows.litsOf vw)) (Aa (λx=>x.name) (PyProof.Rows.clssOf vw (looseW vw lz))))=λ_=>true:=λw=>by kernel_rfl
theorem b2:∀w:World,(λos=>(SF w os).heap.accountedOkI (importedModules pw.main.body))=λ_=>true:=λw=>by kernel_rfl
theorem b3:∀w:World,(λos=>(SF w os).heap.isNs mainGlobals)=λ_=>true:=λw=>by kernel_rfl
theorem b4:∀w:World,(λos=>(SF w os).heap.isNs builtinsNs)=λ_=>true:=λw=>by kernel_rfl
theorem b5:∀w:World,(λos=>PyProof.Rows.tablesOk vw (SF w os).heap)=λ_=>true:=λw=>by kernel_rfl
theorem b6:∀w:World,(λos=>Xt (SF w os))=λ_=>true:=λw=>by kernel_rfl
theorem q4:∀w:World,(λos=>PyProof.Rows.tabsOk vw (SF w os))=λ_=>true:=λw=>by kernel_rfl
theorem q5:∀w:World,(λos=>pinSeenD vw (J9 vw) (SF w os))=λ_=>pinGoodD (J9 vw):=λw=>by kernel_rfl
theorem q6:∀w:World,(λos=>PyProof.Rows.plainSeenE vw (looseW vw lz) (SF w os))=λ_=>PyProof.Rows.plainGoodE vw (looseW vw lz):=λw=>by kernel_rfl
theorem q7:∀w:World,(λos=>PyProof.Rows.plainSeenD vw lz (SF w os))=λ_=>PyProof.Rows.plainGoodD vw lz:=λw=>by kernel_rfl
theorem q8:∀w:World,(λos=>wideSeen vw (SF w os))=λ_=>wideGood vw:=λw=>by kernel_rfl
theorem q9:∀w:World,(λos=>clsSeenW vw lz (SF w os))=λ_=>clsGoodW vw lz:=λw=>by kernel_rfl
theorem lk2:∀w:World,(λos=>openSeen vw lz (importedModules pw.main.body) Xt true (SF w os))=λ_=>openGood vw lz:=λw=>funext λos=>looks_pair (congrFun (q1 w) os) (looks_pair (congrFun (q2 w) os) (looks_pair (by
 show(_&&_&&_&&_&&_&&_&&_)=true;rw[congrFun (b1 w) os,congrFun (b2 w) os,congrFun (b3 w) os,congrFun (b4 w) os,congrFun (b5 w) os,congrFun (b6 w) os];rfl) (looks_pair (congrFun (q4 w) os) (looks_pair (congrFun (q5 w) os) (looks_pair (congrFun (q6 w) os) (looks_pair (congrFun (q7 w) os) (looks_pair (congrFun (q8 w) os) (congrFun (q9 w) os))))))))
theorem sp{α β γ:Type}{f:α->γ}{g:β->γ}(n:Nat){a:List α}{k:List β}(h1:(a.take n).map f=(k.take n).map g)(h2:(a.drop n).map f=(k.drop n).map g):a.map f=k.map g:=by
 rw[<- JE n a,<- JE n k,gy,gy,h1,h2]
theorem l3a:∀w:World,(λos=>(as.take 235).map (SF w os).heap.get?)=λ_=>((K w.params).take 235).map λp=>some p.2:=λw=>by kernel_rfl
theorem l3b:∀w:World,(λos=>((as.drop 235).take 235).map (SF w os).heap.get?)=λ_=>(((K w.params).drop 235).take 235).map λp=>some p.2:=λw=>by kernel_rfl
theorem l3c:∀w:World,(λos=>((as.drop 235).drop 235).map (SF w os).heap.get?)=λ_=>(((K w.params).drop 235).drop 235).map λp=>some p.2:=λw=>by kernel_rfl
theorem lk3:∀w:World,(λos=>Hook.obs H (SF w os))=λ_=>Hook.val H w:=λw=>funext λos=>sp 235 (congrFun (l3a w) os) (sp 235 (congrFun (l3b w) os) (congrFun (l3c w) os))
theorem left:LeftO pw vw lz Xt (Hook.obs H) (Hook.val H) 22032:=LeftO.of_pieces (H₁:=H1) (gs₁:=Array.mk []) (d₁:=⟨0,0,0,0⟩) (k₁:=1860) opn siz run (by decide) λw=>funext λos=>looks_pair (congrFun (lk1 w) os) (looks_pair (congrFun (lk2 w) os) (congrFun (lk3 w) os))
end KH
end
namespace L2
open PySem PySem.Spec PyProof.Rows
section
variable{κ:Type}[DecidableEq κ]
def jj(aF:List (κ×V))(k:κ):Option V:=(aF.find? λkv=>decide (kv.1=k)).map (·.2)
def putK(aF:List (κ×V))(k:κ)(v:V):List (κ×V):=
 if(aF.any λkv=>decide (kv.1=k))=true then aF.map (λkv=>if kv.1=k then(kv.1,v)else kv)else aF++[(k,v)]
theorem iJ{p:κ×V}{r:List (κ×V)}{k:κ}(e:p.1=k):jj (p::r) k=some p.2:=by simp[jj,Ab,e]
theorem iK{p:κ×V}{r:List (κ×V)}{k:κ}(e:¬ p.1=k):jj (p::r) k=jj r k:=by simp[jj,Ab,e]
theorem m_(k:κ):∀aF:List (κ×V),(aF.any λkv=>decide (kv.1=k))=(jj aF k).isSome
 |[]=>rfl
 |p::r=>by
  rw[qN];by_cases e:p.1=k
  ·simp only[iJ e,decide_eq_true e,Bool.true_or,Option.isSome_some]
  ·rw[iK e,decide_eq_false e,J0];exact m_ k r
theorem iL(aF:List (κ×V))(k:κ)(v:V):(putK aF k v).length<=aF.length+1:=by
 unfold putK;split
 ·rw[bF];omega
 ·rw[cK,bz,qO];omega
theorem iy.gC{o:Option V}{u:D1}(r:iy o u):o.isSome=u.isSome:=by
 cases o with
 |none=>cases u with
  |none=>rfl
  |some _=>exact(show False from r).elim
 |some _=>cases u with
  |none=>exact(show False from r).elim
  |some _=>rfl
theorem iy.getD{o:Option V}{u:D1}{d:V}{d':Value}(r:iy o u)(rd:RelV d d'):RelV (o.getD d) (u.getD d'):=by
 cases o with
 |none=>cases u with
  |none=>exact rd
  |some _=>exact(show False from r).elim
 |some _=>cases u with
  |none=>exact(show False from r).elim
  |some _=>exact r
theorem KV.val{aF:List (κ×V)}{vs:List (κ×Value)}(r:KV aF vs)(k:κ):iy (jj aF k) (valueAt vs k):=by
 unfold KV at r
 induction r with
 |nil=>exact True.intro
 | @cons p q ps qs h t ih=>
  obtain⟨h1,h2⟩:=h;by_cases e:p.1=k
  ·have e':q.1=k:=h1.symm.trans e
   have b:valueAt (q::qs) k=some q.2:=by simp[valueAt,Ab,e']
   rw[iJ e,b];exact h2
  ·have e':¬ q.1=k:=λz=>e (h1.trans z)
   have b:valueAt (q::qs) k=valueAt qs k:=by simp[valueAt,Ab,e']
   rw[iK e,b];exact ih
theorem KV.any{aF:List (κ×V)}{vs:List (κ×Value)}(r:KV aF vs)(k:κ):(aF.any λkv=>decide (kv.1=k))=vs.any λkv=>decide (kv.1=k):=by
 unfold KV at r
 induction r with
 |nil=>rfl
 |cons h t ih=>rw[qN,qN,ih,h.1]
theorem KV.MD{aF:List (κ×V)}{vs:List (κ×Value)}(r:KV aF vs)(k:κ){y:V}{u:Value}(ry:RelV y u) :
  KV (aF.map λkv=>if kv.1=k then(kv.1,y)else kv) (vs.map λkv=>if kv.1=k then(kv.1,u)else kv):=by
 unfold KV at r ⊢
 induction r with
 |nil=>exact .nil
 | @cons p q ps qs h t ih=>
  rw[cU,cU];refine .cons ?_ ih;obtain⟨h1,h2⟩:=h;by_cases e:p.1=k
  ·rw[if_pos e,if_pos (h1.symm.trans e)];exact⟨h1,ry⟩
  ·rw[if_neg e,if_neg (λz=>e (h1.trans z))];exact⟨h1,h2⟩
theorem KV.put{aF:List (κ×V)}{vs:List (κ×Value)}(r:KV aF vs)(k:κ){y:V}{u:Value}(ry:RelV y u):KV (putK aF k y) (stored vs k u):=by
 unfold putK stored;rw[r.any k];by_cases e:(vs.any λkv=>decide (kv.1=k))=true
 ·rw[if_pos e,if_pos e];exact r.MD k ry
 ·rw[if_neg e,if_neg e];exact Paired.snoc r ⟨rfl,ry⟩
theorem KV.length{aF:List (κ×V)}{vs:List (κ×Value)}(r:KV aF vs):aF.length=vs.length:=Paired.length r
end
theorem ng{P:Program}{w:World}{k:Key}{u:Value}(r:RelV (kV k) u):(bw P w).is k u=true:=by
 cases k with
 |inl i=>obtain⟨t,e⟩:=(show ∃t,u=Value.int i t from r);subst e;exact tK P w i t
 |inr x=>obtain⟨t,e⟩:=(show ∃t,u=Value.str x t from r);subst e;exact tL P w x t
theorem qk{P:Program}{w:World}:∀{ks:List Key}{us:B2},Vals (ks.map kV) us->ItemsAre (bw P w) ks us
 |[],_,r=>by rw[BL]at r;cases r;exact .nil
 |k::ks,_,r=>by
  rw[cU]at r;cases r with
  |cons h t=>exact .cons (ng h) (qk t)
abbrev KT(H:Hp):List (List Key×V)->List (List Key×Addr×Value)->Prop:=Paired λp q=>p.1=q.1/\H q.2.1=some (.tup (p.1.map kV))/\RelV p.2 q.2.2
theorem KT.val{H:Hp}{aF:List (List Key×V)}{xs:List (List Key×Addr×Value)}(r:KT H aF xs)(k:List Key):iy (jj aF k) ((atKey xs k).map (·.2)):=by
 induction r with
 |nil=>exact True.intro
 | @cons p q ps qs h t ih=>
  obtain⟨h1,_,h2⟩:=h;by_cases e:p.1=k
  ·have e':q.1=k:=h1.symm.trans e
   have b:atKey (q::qs) k=some q.2:=by simp[atKey,Ab,e']
   rw[iJ e,b];exact h2
  ·have e':¬ q.1=k:=λz=>e (h1.trans z)
   have b:atKey (q::qs) k=atKey qs k:=by simp[atKey,Ab,e']
   rw[iK e,b];exact ih
theorem KT.MD{H:Hp}{aF:List (List Key×V)}{xs:List (List Key×Addr×Value)}(r:KT H aF xs)(k:List Key){y:V}{u:Value}(ry:RelV y u) :
  KT H (aF.map λkv=>if kv.1=k then(kv.1,y)else kv) (xs.map (putAt k u)):=by
 induction r with
 |nil=>exact .nil
 | @cons p q ps qs h t ih=>
  rw[cU,cU];refine .cons ?_ ih;obtain⟨h1,h2,h3⟩:=h;unfold putAt;by_cases e:p.1=k
  ·rw[if_pos e,if_pos (h1.symm.trans e)];exact⟨h1,h2,ry⟩
  ·rw[if_neg e,if_neg (λz=>e (h1.trans z))];exact⟨h1,h2,h3⟩
theorem KT.put{H:Hp}{aF:List (List Key×V)}{xs:List (List Key×Addr×Value)}(r:KT H aF xs)(k:List Key){b:Addr}{y:V}{u:Value}(hb:H b=some (.tup (k.map kV)))(ry:RelV y u) :
  KT H (putK aF k y) (storedH xs k b u):=by
 have e:(aF.any λkv=>decide (kv.1=k))=(atKey xs k).isSome:=by
  rw[m_,(r.val k).gC,Cd]
 unfold putK storedH;rw[e];by_cases q:(atKey xs k).isSome=true
 ·rw[if_pos q,if_pos q];exact r.MD k ry
 ·rw[if_neg q,if_neg q];exact Paired.snoc r ⟨rfl,hb,ry⟩
theorem KT.keeps{H H':Hp}{aF:List (List Key×V)}{xs:List (List Key×Addr×Value)}(r:KT H aF xs)(ht:∀b ys,H b=some (.tup ys)->H' b=some (.tup ys)):KT H' aF xs:=
 Paired.LJ r λ_ _ z=>⟨z.1,ht _ _ z.2.1,z.2.2⟩
variable{a:Addr}{A:Around}{X:Cx}{H:Hp}{aa:c7}{s:Shared}{σ:St}{y:V}{u:Value}{E:Value->Shared->Prop}
section
variable{P:Program}{w:World}{h:Heap}
theorem Kq{u:HO}(ok:jC P w H h)(e:Rd H a u):bQ P w H h a u:=e.ok ok
theorem nh{aF:List (Key×V)}(ok:jC P w H h)(e:Rd H a (.dK aF)):aF.length<=sizeLine/\(a == sysModules)=false/\∃vs,KV aF vs/\h.DictOf (bw P w) a vs:=
 show bQ P w H h a (.dK aF)from Kq ok e
theorem Kr{aF:List (Key×V)}(ok:jC P w H h)(e:H a=some (.dK aF)):aF.length<=sizeLine/\(a == sysModules)=false/\∃vs,KV aF vs/\h.DictOf (bw P w) a vs:=nh ok (.inl e)
theorem kE{ks:List Key}(ok:jC P w H h)(e:H a=some (.tup (ks.map kV))):(tupleKind (bw P w)).is h ks a:=by
 obtain⟨_,its,r,o,h1,h2,n,h3⟩:=(show bQ P w H h a (.tup (ks.map kV))from ok a _ e);exact⟨o,its.toArray,n,h1,h2,h3,by simpa using qk r⟩
theorem ni{aF:List (List Key×V)}(ok:jC P w H h)(e:Rd H a (.dT aF)):aF.length<=sizeLine/\(a == sysModules)=false /\
  ∃xs,KT H aF xs/\h.DictOfH (tupleKind (bw P w)) a xs:=by
 obtain⟨z,y,xs,r,o,es,ep,h1,h2,h3,h4,h5⟩:=(show bQ P w H h a (.dT aF)from Kq ok e);refine⟨z,y,xs,r,o,es,ep,h1,h2,h3,h4,λx hx=>?_,h5⟩;have all:∀{l:List (List Key×V)}{m:List (List Key×Addr×Value)},KT H l m->∀x∈m,(tupleKind (bw P w)).is h x.1 x.2.1:=by
  intro l m q
  induction q with
  |nil=>intro x hx;exact nomatch hx
  | @cons p q ps qs hq t ih=>
   intro x hx;rcases cu.mp hx with e|hx
   ·subst e
    exact kE ok (by rw[<- hq.1];exact hq.2.1)
   ·exact ih x hx
 exact all r x hx
theorem Rq{aF:List (List Key×V)}(ok:jC P w H h)(e:H a=some (.dT aF)):aF.length<=sizeLine/\(a == sysModules)=false /\
  ∃xs,KT H aF xs/\h.DictOfH (tupleKind (bw P w)) a xs:=ni ok (.inl e)
end
def pJ(H:Hp)(a:Addr)(y:V)(r:Option V):Prop:=
 (∃aF k,Rd H a (.dK aF)/\y=kV k/\r=jj aF k)\/∃aF k b,Rd H a (.dT aF)/\y=.ref b/\H b=some (.tup (k.map kV))/\r=jj aF k
def G3(H:Hp)(a:Addr)(y v:V)(H':Hp):Prop:=
 (∃aF k,H a=some (.dK aF)/\y=kV k/\aF.length<sizeLine/\H'=upd H a (.dK (putK aF k v))) \/
 ∃aF k b,H a=some (.dT aF)/\y=.ref b/\H b=some (.tup (k.map kV))/\aF.length<sizeLine/\H'=upd H a (.dT (putK aF k v))
theorem pJ.k{H:Hp}{a:Addr}{aF:List (Key×V)}{k:Key}(e:H a=some (.dK aF)):pJ H a (kV k) (jj aF k):=.inl ⟨aF,k,.inl e,rfl,rfl⟩
theorem G3.k{H:Hp}{a:Addr}{aF:List (Key×V)}{k:Key}{v:V}(e:H a=some (.dK aF))(hl:aF.length<sizeLine):G3 H a (kV k) v (upd H a (.dK (putK aF k v))):=.inl ⟨aF,k,e,rfl,hl,rfl⟩
section
variable{v:V}{r:Value}{o:Option V}
theorem Inv.big(I:Inv X aa σ H s):sysModules<s.heap.objs.size:=by
 have h:mainGlobals<s.heap.objs.size:=(I.mod.glob.keeps I.bk).lt;exact Nat.lt_trans (by decide) h
theorem AK{Q:Value->Shared->Prop}(hu:A.units+1<cLine)(I:Inv X aa σ H s)(g:pJ H a y (some v))(ry:RelV y u)(h:∀w' s',Inv X aa σ H s'->RelV v w'->Q w' s') :
  wpAny (model X.prog X.w) A (getItem (.ref a) u) Q E s:=by
 rcases g with⟨aF,k,e,ey,l⟩|⟨aF,k,b,e,ey,eb,l⟩
 ·subst ey
  obtain⟨z,hd,vs,rel,dd⟩:=nh I.bx e;obtain⟨w',hw,wy⟩:=iy.some_of (v:=v) (o:=valueAt vs k) (by rw[l];exact rel.val k)
  exact wpAny_getItem_of (ng ry) dd.mapOf hw (h w' _ (I.tok _) wy)
 ·subst ey
  cases(show u=Value.ref b from ry);obtain⟨z,hd,xs,rel,dd⟩:=ni I.bx e;obtain⟨w',hw,wy⟩:=iy.some_of (v:=v) (o:=(atKey xs k).map (·.2)) (by rw[l];exact rel.val k)
  obtain⟨p,hp,WL⟩:=cz.mp hw;refine wpAny_getItem_heap (tupleKind_room_in1 hu) (kE I.bx eb) dd hp ?_;rw[WL];exact h w' _ (I.tok _) wy
theorem WM{Q:Value->Shared->Prop}(hu:A.units+1<cLine)(I:Inv X aa σ H s)(g:pJ H a y o)(ry:RelV y u)(h:∀s',Inv X aa σ H s'->Q (.bool o.isSome) s') :
  wpAny (model X.prog X.w) A (compareOp .In u (.ref a)) Q E s:=by
 rcases g with⟨aF,k,e,ey,l⟩|⟨aF,k,b,e,ey,eb,l⟩
 ·subst ey
  obtain⟨z,hd,vs,rel,dd⟩:=nh I.bx e;refine wpAny_in_of (ng ry) hd dd.mapOf ?_;rw[<- (rel.val k).gC,<- l];exact h _ (I.tok _)
 ·subst ey
  cases(show u=Value.ref b from ry);obtain⟨z,hd,xs,rel,dd⟩:=ni I.bx e;refine wpAny_in_heap (tupleKind_room_in1 hu) (kE I.bx eb) hd dd ?_;have q:=(rel.val k).gC;rw[Cd]at q;rw[<- q,<- l];exact h _ (I.tok _)
theorem G4{Q:Value->Shared->Prop}(hu:A.units+1<cLine)(I:Inv X aa σ H s)(g:pJ H a y o)(ry:RelV y u)(h:∀s',Inv X aa σ H s'->Q (.bool (!o.isSome)) s') :
  wpAny (model X.prog X.w) A (compareOp .NotIn u (.ref a)) Q E s:=by
 rcases g with⟨aF,k,e,ey,l⟩|⟨aF,k,b,e,ey,eb,l⟩
 ·subst ey
  obtain⟨z,hd,vs,rel,dd⟩:=nh I.bx e;refine wpAny_notIn_of (ng ry) hd dd.mapOf ?_;rw[<- (rel.val k).gC,<- l];exact h _ (I.tok _)
 ·subst ey
  cases(show u=Value.ref b from ry);obtain⟨z,hd,xs,rel,dd⟩:=ni I.bx e;refine wpAny_notIn_heap (tupleKind_room_in1 hu) (kE I.bx eb) hd dd ?_;have q:=(rel.val k).gC;rw[Cd]at q;rw[<- q,<- l];exact h _ (I.tok _)
theorem rD{h':Heap}{t':Nat}{ob:HO}(I:Inv X aa σ H s)(mu:P8 (H a))(hs:Heap.SameBut a s.heap h')(he:∃q,h'.get? a=some q)(new:bQ X.prog X.w (upd H a ob) h' a ob) :
  Inv X aa σ (upd H a ob) {s with heap:=h',toks:=t'}:=
 I.write (x:=a) (e:=a) mu (.inl rfl) (λb q hb z=>(hs.2 b hb).trans z) he new
theorem CZ{P:Program}{w:World}{H':Hp}{h':Heap}{aF:List (Key×V)}{vs:List (Key×Value)}(z:aF.length<=sizeLine)(hd:(a == sysModules)=false)(rel:KV aF vs)(dd:h'.DictOf (bw P w) a vs) :
  bQ P w H' h' a (.dK aF):=⟨z,hd,vs,rel,dd⟩
theorem AL{H':Hp}{Q:Unit->Shared->Prop}(hu:A.units+1<cLine)(I:Inv X aa σ H s)(g:G3 H a y v H')(ry:RelV y u)(rv:RelV v r)(h:∀s',Inv X aa σ H' s'->Q () s') :
  wpAny (model X.prog X.w) A (setItem (.ref a) u r) Q E s:=by
 rcases g with⟨aF,k,e,ey,l,eH⟩|⟨aF,k,b,e,ey,eb,l,eH⟩
 ·subst ey eH
  obtain⟨z,hd,vs,rel,dd⟩:=Kr I.bx e;have hz:vs.length<=sizeLine:=by rw[<- rel.length];exact z
  have hl:(putK aF k v).length<=sizeLine:=by have:=iL aF k v;omega
  refine wpAny_setItem_pairs (hsz:=hz) (ng ry) dd λh' ME hs=>h _ ?_;have he:∃q,h'.get? a=some q:=let⟨q,_,_,hq,_⟩:=ME;⟨q,hq⟩;exact rD I (by rw[e];exact True.intro) hs he (CZ hl hd (rel.put k rv) ME)
 ·subst ey eH
  cases(show u=Value.ref b from ry);obtain⟨z,hd,xs,rel,dd⟩:=Rq I.bx e;have hz:xs.length<=sizeLine:=by rw[<- Paired.length rel];exact z
  have hl:(putK aF k v).length<=sizeLine:=by have:=iL aF k v;omega
  refine wpAny_setItem_heap (hsz:=hz) (tupleKind_room_in1 hu) (kE I.bx eb) dd λh' ME hs=>h _ ?_;obtain⟨q,es,ep,hq,h2,h3,h4,_,h5⟩:=ME;refine rD I (by rw[e];exact True.intro) hs ⟨q,hq⟩ ⟨hl,hd,_,(rel.put k eb rv).keeps λc ys ec=>?_,q,es,ep,hq,h2,h3,h4,h5⟩
  rw[aq (P7 ec e (λz=>nomatch z))];exact ec
end
section
variable{aF:List (Key×V)}{k:Key}
end
def MF(i:Expr):Prop:=∀ov iv,subscripted i false ov iv=operate [ov,iv] (getItem ov iv)
theorem G5{prog:Program}{w:World}{A:Around}{E:Value->Shared->Prop}{s:Shared}{env:Env}{value slice:Expr}{pos:Pos}{T id:String}{Q:Value->Shared->Prop}
  (hl:typeLookup (.type T) "__getitem__" = pure (some (.builtin id))) (hs:MF slice)
  (h:wpAny (model prog w) A (eval value env) (λo s₁=>wpAny (model prog w) A (eval slice env) (λi s₂=>s₂.TypeIs o T/\wpAny (model prog w) A (getItem o i) Q E s₂) E s₁) E s) :
  wpAny (model prog w) A (eval (.Subscript value slice pos) env) Q E s:=by
 refine Subscript_ (wpAny_mono h (λo s₁ h₁=>wpAny_mono h₁ (λi s₂ h₂=>?_) λ_ _ x=>x) λ_ _ x=>x);obtain⟨hT,h₂⟩:=h₂;unfold subscriptTail;refine wpAny_bind ?_;rw[getitemInPython_of_ne hT.not_modules];refine wpAny_bind (wpAny_specialOf hT hl ?_);have fin:wpAny (model prog w) A (subscripted slice false o i) (λr s₃=>wpAny (model prog w) A (letTemporaryGo value o r >>= λ_=>pure r) Q E s₃) E s₂:=by
  rw[hs o i];exact wpAny_operating (wpAny_mono h₂ (λr s₃ h₃=>wpAny_bind (wpAny_letTemporaryGo (wpAny_pure h₃))) λ_ _ x=>x)
 first
  |exact wpAny_pure (wpAny_bind fin)
  |exact wpAny_bind (wpAny_pure (wpAny_bind fin))
  |exact wpAny_bind fin
theorem uh{X:Cx}{aa:c7}{σ:St}{H:Hp}{s:Shared}{a:Addr}{y:V}{o:Option V}(I:Inv X aa σ H s)(g:pJ H a y o):s.TypeIs (.ref a) "dict" := by
 rcases g with⟨aF,k,e,_,_⟩|⟨aF,k,b,e,_,_,_⟩
 ·obtain⟨_,_,vs,_,dd⟩:=nh I.bx e
  exact dd.typeIs
 ·obtain⟨_,_,xs,_,dd⟩:=ni I.bx e
  exact dd.typeIs
def Rr(td ty:TE):TE:=λσ H Q=>td σ H λx H1=>ty σ H1 λy H2=>∃a v,x=.ref a/\pJ H2 a y (some v)/\Q v H2
def Rt(td ty tv:TE):TS:=λD σ H=>tv σ H λv H1=>td σ H1 λx H2=>ty σ H2 λy H3=>∃a H4,x=.ref a/\G3 H3 a y v H4/\D.nx σ H4
section
variable{o i e value:Expr}{pos b9 lH:Pos}{td ty tv:TE}
theorem yv(hu:X.A.units+1<cLine)(ho:PE X o td)(hi:PE X i ty)(hs:MF i):PE X (.Subscript o i pos) (Rr td ty):=by
 intro aa s σ H Q I h;refine G5 PySem.F.slot_dict_getitem.lookup hs (bJ (ho aa s σ H _ I h) λu s1 ⟨x,H1,I1,rx,q1⟩=>bJ (hi aa s1 σ H1 _ I1 q1) λiv s2 zz=>?_);obtain⟨y,H2,I2,ry,a,v,ex,g,q2⟩:=zz;subst ex
 obtain rfl:u=Value.ref a:=rx
 exact⟨uh I2 g,AK hu I2 g ry λw' s3 I3 wy=>⟨v,H2,I3,wy,q2⟩⟩
theorem yw(hu:X.A.units+1<cLine)(ho:PE X o td)(hi:PE X i ty)(hv:PE X value tv)(hs:swapsWith value (some (.Subscript o i b9)) pos.line X.env=pure false) :
  PS X (.Assign [.Subscript o i b9] value pos) (Rt td ty tv):=by
 intro aa s σ H D I h;refine wpAny_Assign_Subscript (bJ (hv aa s σ H _ I h) λr s1 ⟨v,H1,I1,rv,q1⟩=>bJ (ho aa s1 σ H1 _ I1 q1) λu s2 ⟨x,H2,I2,rx,q2⟩=>bJ (hi aa s2 σ H2 _ I2 q2) λiv s3 ⟨y,H3,I3,ry,a,H4,ex,g,q3⟩=>?_) hs;subst ex
 obtain rfl:u=Value.ref a:=rx
 exact AL hu I3 g ry rv λs4 I4=>⟨σ,H4,I4,q3⟩
end
theorem um{P:Program}{w:World}{H:Hp}(h:Heap)(hb:sysModules<h.objs.size):bQ P w H (h.push {cls:=.type "dict",data:=.dict #[]}) h.objs.size (.dK []):=
 ⟨i6 _,beq_eq_false_iff_ne.mpr (Ne.symm (fk hb)),[],.nil,Heap.DictOf.new h⟩
def MG:TE:=λ_ H Q=>∀p,H p=none->Q (.ref p) (upd H p (.dK []))
section
variable{pos:Pos}
theorem nj:PE X (.Dict [] [] pos) MG:=λaa s σ H Q I h=>
 wpAny_Dict_empty ⟨.ref s.heap.objs.size,_,I.laid (a:=s.heap.objs.size) (o:=.dK []) (t':=s.toks) (λ_ _ q=>Heap.get?_push_of_some _ q) (cC _) (um s.heap I.big),rfl,h _ (I.bx.fresh (cC _))⟩
end
def rE:List (TE×TE)->St->Hp->(List (V×V)->Hp->Prop)->Prop
 |[],_,H,Q=>Q [] H
 |(tk,tv)::r,σ,H,Q=>tk σ H λx H1=>tv σ H1 λy H2=>rE r σ H2 λps H3=>Q ((x,y)::ps) H3
abbrev VV:List (V×V)->List (Value×Value)->Prop:=Paired λp q=>RelV p.1 q.1/\RelV p.2 q.2
def Ru(X:Cx)(pos:Pos)(keys:List (Option Expr))(values:Bz)(G6:List (TE×TE)):Prop:=
 ∀(aa:c7)(s:Shared)(σ:St)(H:Hp)(Q:List (V×V)->Hp->Prop),Inv X aa σ H s->rE G6 σ H Q ->
  wpAny (model X.prog X.w) X.A (evalPairs (pairTrees keys values X.env pos)) (λvs s'=>∃ps H',Inv X aa σ H' s'/\VV ps vs/\Q ps H') X.xe s
theorem G7{X:Cx}{pos:Pos}:Ru X pos [] [] []:=λaa s σ H Q I h=>pairTrees_nil_walk ⟨[],H,I,.nil,h⟩
theorem C0{X:Cx}{pos:Pos}{k v:Expr}{ks:List (Option Expr)}{vs:Bz}{tk tv:TE}{G6:List (TE×TE)}(hk:PE X k tk)(hv:PE X v tv)(hr:Ru X pos ks vs G6) :
  Ru X pos (some k::ks) (v::vs) ((tk,tv)::G6):=λaa s σ H Q I h=>
 pairTrees_cons_walk (bJ (hk aa s σ H _ I h) λu s1 ⟨x,H1,I1,rx,q1⟩=>bJ (hv aa s1 σ H1 _ I1 q1) λw2 s2 ⟨y,H2,I2,ry,q2⟩=>
  bJ (hr aa s2 σ H2 _ I2 q2) λws s3 ⟨ps,H3,I3,rel,q3⟩=>⟨(x,y)::ps,H3,I3,.cons ⟨rx,ry⟩ rel,q3⟩)
def jk(aF more:List (Key×V)):List (Key×V):=more.foldl (λdD kv=>putK dD kv.1 kv.2) aF
theorem KV.merge:∀{more:List (Key×V)}{rs:List (Key×Value)}{aF:List (Key×V)}{vs:List (Key×Value)},KV more rs->KV aF vs->KV (jk aF more) (merged vs rs):=by
 intro more rs aF vs r;unfold KV at r
 induction r generalizing aF vs with
 |nil=>intro q;exact q
 | @cons p q ps qs h t ih=>
  intro r0;have e:KV (putK aF p.1 p.2) (stored vs q.1 q.2):=by
   have:=r0.put p.1 h.2
   rw[<- h.1];exact this
  exact ih e
theorem jb:∀(more aF:List (Key×V)),(jk aF more).length<=aF.length+more.length
 |[],aF=>by show aF.length<=aF.length+0;omega
 |p::r,aF=>by
  have h1:=jb r (putK aF p.1 p.2);have h2:=iL aF p.1 p.2;show(jk (putK aF p.1 p.2) r).length<=_;rw[bz];omega
theorem nk{P:Program}{w:World}:∀{aF:List (Key×V)}{ws:List (Value×Value)},VV (aF.map λkv=>(kV kv.1,kv.2)) ws->∃rs,Carries (bw P w) ws rs/\KV aF rs
 |[],_,r=>by rw[BL]at r;cases r;exact⟨[],True.intro,.nil⟩
 |p::aF,_,r=>by
  rw[cU]at r;cases r with
  | @cons a b as bs h t=>
   obtain⟨rs,c,q⟩:=nk (P:=P) (w:=w) t;obtain⟨b1,b2⟩:=b;exact⟨(p.1,b2)::rs,⟨ng h.1,rfl,c⟩,.cons ⟨rfl,h.2⟩ q⟩
def Rv(G6:List (TE×TE)):TE:=λσ H Q=>∀p,H p=none->rE G6 σ (upd H p (.dK [])) λps H2=>H2 p=some (.dK [])/\∃aF:List (Key×V),ps=aF.map (λkv=>(kV kv.1,kv.2))/\aF.length<=15/\Q (.ref p) (upd H2 p (.dK (jk [] aF)))
theorem G8{X:Cx}{pos:Pos}{keys:List (Option Expr)}{values:Bz}{G6:List (TE×TE)}(h:Ru X pos keys values G6)(Mx:keys.all (·.isSome)=true)(hl:keys.length=values.length)(h0:keys≠[])
  (WN:keys.length<=15):PE X (.Dict keys values pos) (Rv G6):=by
 intro aa s σ H Q I q;have hn:=I.bx.fresh (cC s.heap.objs.size);have I1:=I.laid (a:=s.heap.objs.size) (o:=.dK []) (h':=s.heap.push {cls:=.type "dict",data:=.dict #[]}) (t':=s.toks) (λ_ _ q=>Heap.get?_push_of_some _ q) (cC _) (um s.heap I.big);refine wpAny_Dict_walk (knd:=bw X.prog X.w) Mx hl h0 WN (bJ (h aa _ σ _ _ I1 (q _ hn)) λws s2 zz=>?_);obtain⟨ps,H2,I2,rel,e,aF,ep,lk,q2⟩:=zz;subst ep;obtain⟨rs,c,rk⟩:=nk (P:=X.prog) (w:=X.w) rel;obtain⟨z,hd,vs0,r0,dd⟩:=Kr I2.bx e;cases r0;refine⟨rs,c,dd,λh' ME hs=>⟨.ref s.heap.objs.size,_,?_,rfl,q2⟩⟩;have hz:(jk [] aF).length<=sizeLine:=by
  have h1:=jb aF [];rw[qO]at h1;rw[sizeLine_eq];omega
 have he:∃q,h'.get? s.heap.objs.size=some q:=let⟨q,_,_,hq,_⟩:=ME;⟨q,hq⟩;exact rD I2 (by rw[e];exact True.intro) hs he (CZ hz hd (rk.merge .nil) ME)
structure M2(X:Cx)(o:Expr)(m:Str)(b_:Pos)(e f:Expr)(c9:Pos):Prop where
 base:attributeBase o m X.env (eval o X.env)=eval o X.env
 nq:((backTo c9 (starEach [e,f] X.env)).all (λx=>!x.1)&&(backToKw c9 (keywordEach [] X.env)).all (λx=>x.1.isSome)
  && decide (([e,f]:Bz).length+([]:List Keyword).length+(if([]:List Keyword).isEmpty then 0 else 1)<30))=true
 line:(b_.endLine == c9.line)=true
 trees:backTo c9 (starEach [e,f] X.env)=[(false,eval e X.env),(false,eval f X.env)]
def ZH(H:Hp)(a:Addr):Prop:=(∃aF,Rd H a (.dK aF))\/∃aF,Rd H a (.dT aF)
theorem MH{X:Cx}{aa:c7}{σ:St}{H:Hp}{s:Shared}{a:Addr}(I:Inv X aa σ H s)(d:ZH H a) :
  s.TypeIs (.ref a) "dict" /\ (∀b,Value.ref a=.ref b->∃ob,s.heap.get? b=some ob/\ob.dict=none)/\(a == sysModules)=false:=by
 rcases d with⟨aF,e⟩|⟨aF,e⟩
 ·obtain⟨_,hd,vs,_,dd⟩:=nh I.bx e
  refine⟨dd.typeIs,λb q=>?_,hd⟩;cases q;obtain⟨ob,_,_,h1,h2,_⟩:=dd;exact⟨ob,h1,h2.2.1⟩
 ·obtain⟨_,hd,xs,_,dd⟩:=ni I.bx e
  refine⟨dd.typeIs,λb q=>?_,hd⟩;cases q;obtain⟨ob,_,_,h1,h2,_⟩:=dd;exact⟨ob,h1,h2.2.1⟩
section
variable{d:V}{r:Value}{o:Option V}
theorem MI{Q:Value->Shared->Prop}(hu:A.units+1<cLine)(I:Inv X aa σ H s)(g:pJ H a y o)(ry:RelV y u)(rd:RelV d r)(h:∀w' s',Inv X aa σ H s'->RelV (o.getD d) w'->Q w' s') :
  wpAny (model X.prog X.w) A (call (.builtin "dict.get") [.ref a,u,r]) Q E s:=by
 rcases g with⟨aF,k,e,ey,l⟩|⟨aF,k,b,e,ey,eb,l⟩
 ·subst ey
  obtain⟨z,hd,vs,rel,dd⟩:=nh I.bx e;refine call_meetsIn PySem.F.slot_dict_get dd.typeIs PySem.F.entry_dict_get (PySem.F.args_dict_get_3 _ _ _) (meets_dict_get_default (bw X.prog X.w) a (ng ry) hd r) ⟨_,dd.mapOf,h _ _ (I.tok _) ?_⟩;rw[l];exact(rel.val k).getD rd
 ·subst ey
  cases(show u=Value.ref b from ry);obtain⟨z,hd,xs,rel,dd⟩:=ni I.bx e;refine call_meetsIn PySem.F.slot_dict_get dd.typeIs PySem.F.entry_dict_get (PySem.F.args_dict_get_3 _ _ _) (meetsH_dict_get_default (tupleKind (bw X.prog X.w)) a b hd r) ⟨tupleKind_room_in1 hu,k,xs,kE I.bx eb,dd,h _ _ (I.tok _) ?_⟩;rw[l];exact(rel.val k).getD rd
end
def MJ(td ty tx:TE):TE:=λσ H Q=>td σ H λx H1=>∃a,x=.ref a/\ZH H1 a/\ty σ H1 λy H2=>tx σ H2 λz H3=>∃o,pJ H3 a y o/\Q (o.getD z) H3
section
variable{o e f:Expr}{b_ c9:Pos}{td ty tx:TE}
theorem C1(hu:X.A.units+1<cLine)(ho:PE X o td)(he:PE X e ty)(hf:PE X f tx)(m:M2 X o "get" b_ e f c9):PE X (.Call (.Attribute o "get" b_) [e,f] [] c9) (MJ td ty tx):=by
 intro aa s σ H Q I h;refine wpAny_Call_method m.base m.nq m.line PySem.F.plainAttrs_dict PySem.F.slot_dict_get PySem.F.type_dict_get (bJ (ho aa s σ H _ I h) λu s1 zz=>?_);obtain⟨x,H1,I1,rx,a,ex,d,q1⟩:=zz;subst ex
 obtain rfl:u=Value.ref a:=rx
 obtain⟨t1,t2,_⟩:=MH I1 d;refine⟨t1,t2,?_⟩;rw[m.trees];refine Calls.callWith_builtin rfl (Calls.evalArgs_plain (Calls.spliced_cons (bJ (he aa s1 σ H1 _ I1 q1) λiv s2 ⟨y,H2,I2,ry,q2⟩=>
  Calls.spliced_cons (bJ (hf aa s2 σ H2 _ I2 q2) λfv s3 ⟨z,H3,I3,rz,ov,g,q3⟩=>Calls.spliced_nil ?_))))
 exact MI hu I3 g ry rz λw' s4 I4 wy=>⟨_,H3,I4,wy,q3⟩
end
section
variable{aF:List (Key×V)}
end
section
end
end L2
namespace PySem
open Sem (wp)
open AutoSeq1 (wpAny_loadPart')
section
variable{prog:Program}{w:World}{A:Around}{E:Value->Shared->Prop}{s:Shared}
set_option maxHeartbeats 4000000 in
theorem iM(l:Addr)(items:Array Value)(n:Nat)(dq:Option Addr)(sl:Array D1)(t:Tok) :
  Meets (Builtin.«enumerate.__new__» ⟨[.type "enumerate",.ref l],[(Str.ofString "start",.int 1 t)]⟩) (λ_ R s=>s.heap.get? l=some {cls:=.type "list",dict:=dq,data:=.seq items n,slots:=sl} /\
   R (.ok (.ret (.ref (s.heap.push {cls:=.type "list_iterator",data:=.fields #[.ref l,.int 0 0]}).objs.size)))
    {s with heap:=(s.heap.push {cls:=.type "list_iterator",data:=.fields #[.ref l,.int 0 0]}).push {cls:=.type "enumerate",data:=.fields #[.none,.bool false,.ref s.heap.objs.size,rawInt 1,.none,.none]}}):=
 .of_wp λprog w A R s h=>by
  obtain⟨hp,g,d,tk,os⟩:=s;obtain⟨hl,h⟩:=h;have WO:=sub_enumerate;have hL:Heap.IsList (Shared.heap ⟨hp,g,d,tk,os⟩) l items:=⟨_,hl,rfl,n,rfl⟩
  wp_walk using wpAny_loadPart' hl
  refine wpAny_stack_any λst=>wpAny_pure ?_;split
  ·rename_i c _ _ _ _ _
   cases(c == Value.type "enumerate")
   ·wp_walk using wpAny_loadPart' hl,wpAny_pyIter_list hL
    exact⟨_,rfl,h⟩
   ·wp_walk using wpAny_loadPart' hl,wpAny_pyIter_list hL
    exact⟨_,rfl,h⟩
  ·wp_walk using wpAny_loadPart' hl,wpAny_pyIter_list hL
   exact⟨_,rfl,h⟩
theorem jl{T newId:String}{self:Value}{rest:B2}{kw:List (Str×Value)}(hl:typeLookup (.type T) "__init__" = pure (some (.builtin "object.__init__")))
  (hm:Bind.madeBy (.type T)=pure (some newId)) (ie:(some newId != some "object.__new__")=true) :
  Meets (Builtin.«object.__init__» ⟨self::rest,kw⟩) (λ_ R s=>s.TypeIs self T/\R (.ok (.ret .none)) s):=by
 refine Meets.of_wp λprog w A R s hs=>?_;obtain⟨hT,hq⟩:=hs;cases rest with
 |nil=>
  cases kw with
  |nil=>exact wpAny_pure ⟨_,rfl,hq⟩
  |cons a kw=>
   repeat (any_goals (first|assumption|wp_step))
   exact⟨_,rfl,hq⟩
 |cons a rest=>
  repeat (any_goals (first|assumption|wp_step))
  exact⟨_,rfl,hq⟩
theorem iN(a b:Value):checkTypeCall "enumerate" ⟨[a],[(Str.ofString "start",b)]⟩=pure ():=by kernel_rfl
theorem i9(a b:Value):checkBuiltinCall "enumerate.__new__" ⟨[.type "enumerate",a],[(Str.ofString "start",b)]⟩=pure ():=by kernel_rfl
theorem uo(o a b:Value):argsOk "object.__init__" ⟨[o,a],[(Str.ofString "start",b)]⟩:=by
 unfold argsOk;rw[signature?_of (id := "object.__init__") (n:=['_','_','t','i','n','i','_','_']) (o:=['t','c','e','j','b','o']) (by kernel_rfl) F.owner_object];kernel_rfl
set_option maxHeartbeats 4000000 in
theorem kF{l:Addr}{items:Array Value}{t:Tok}{Q:Value->Shared->Prop}(hL:s.heap.IsList l items)
  (h:∀h',IsEnum h' (s.heap.objs.size+1) s.heap.objs.size 1 .none->h'.IsListIter s.heap.objs.size l 0->h'.objs.size=s.heap.objs.size+2 ->
   (∀b o,s.heap.get? b=some o->h'.get? b=some o)->Q (.ref (s.heap.objs.size+1)) {s with heap:=h'}) :
  wpAny (model prog w) A (call (.type "enumerate") [.ref l] [(Str.ofString "start",.int 1 t)]) Q E s:=by
 obtain⟨⟨c,dq,dt,sl⟩,hl,hc,n,hd⟩:=hL
 replace hc:c=.type "list" := hc
 replace hd:dt=.seq items n:=hd
 subst hc hd;have ft:=F.called_enumerate;obtain⟨c,tl,aad⟩:=ft.mro;have ZI:=ft.made;have WO:=ft.sub;have hct:=iN (.ref l) (.int 1 t);have hcn:=i9 (.ref l) (.int 1 t);refine wpAny_call (codeAny_of_tree ?_);show wpAny _ _ (callAny (.type "enumerate") _) _ _ _;refine wpAny_pure ⟨Code.quiet_builtin _ (by decide +kernel),codeAny_builtin F.entry_type_call ?_⟩
 rw[Around.under_plain (weight_type_call_type "enumerate" _ _) (units_type_call_type "enumerate" _ _)];have h1:=ft.notType;have h2:=ft.canCreate
 repeat (any_goals (first|assumption|wp_step))
 have hz:(s.heap.push {cls:=.type "list_iterator",data:=.fields #[.ref l,.int 0 0]}).objs.size=s.heap.objs.size+1:=Heap.size_push ..;have he:IsEnum ((s.heap.push {cls:=.type "list_iterator",data:=.fields #[.ref l,.int 0 0]}).push
   {cls:=.type "enumerate",data:=.fields #[.none,.bool false,.ref s.heap.objs.size,rawInt 1,.none,.none]}) (s.heap.objs.size+1) s.heap.objs.size 1 .none:=by
  have:=Heap.get?_push_size (s.heap.push {cls:=.type "list_iterator",data:=.fields #[.ref l,.int 0 0]})
   (o:={cls:=.type "enumerate",data:=.fields #[.none,.bool false,.ref s.heap.objs.size,rawInt 1,.none,.none]}) rfl
  rw[hz]at this;exact this
 have fin:=h _ he ⟨_,Heap.get?_push_of_some _ (Heap.get?_push_size _ rfl),rfl,rfl⟩ (by rw[Heap.size_push,hz]) λb o x=>Heap.get?_push_of_some _ (Heap.get?_push_of_some _ x)
 refine codeAny_mono (codeAny_call_builtin ft.plain F.entry_enumerate_new (wpAny_of_eq hcn (iM l items n dq sl t prog w A.in1 (wants (λobj s₁=>s₁.TypeIs obj "enumerate" /\ Q obj s₁) E) s ⟨hl,?_⟩))) λr s₁ hr=>?_
 ·show _/\_
  rw[hz];exact⟨⟨_,he,rfl⟩,fin⟩
 cases r with
 |error e=>exact hr
 |ok fl=>
  cases fl with
  |ret obj=>
   obtain⟨hT,hq⟩:=hr;have WQ:=ft.init.lookup;have hbi:=ft.init.bind obj
   repeat (any_goals (first|assumption|wp_step))
   refine codeAny_mono (codeAny_call_builtin ft.init.plain F.entry_object_init (ft.init.check _ _ _ _ _ _ _ _ hT (uo _ _ _) (jl ft.init.lookup ft.made (by decide) prog w A.in1 (wants (λr s₂=>r=.none/\Q obj s₂) E) s₁ ⟨hT,rfl,hq⟩))) λr₂ s₂ hr₂=>?_
   cases r₂ with
   |error e=>exact hr₂
   |ok fl₂=>
    cases fl₂ with
    |ret r=>
     obtain⟨rfl,hq⟩:=hr₂
     repeat (any_goals (first|assumption|wp_step))
    |_=>exact hr₂.elim
  |_=>exact hr.elim
end
end PySem
namespace L2
open PySem PySem.Spec PyProof.Rows
theorem C2{prog:Program}{w:World}{A:Around}{it:Addr}{fp:BM}{n:Nat}{P:Nat->Value->Prop}{St:Nat->Heap->Prop}(D:Draws prog w A it fp n P St)(m:Nat):Draws prog w A it fp (m+n) (λj x=>∃i,j=m+i/\P i x) (λj h=>∃i,j=m+i/\St i h) where
 live:=λ_ h ⟨i,_,st⟩=>D.live i h st
 frame:=λ_ h h' ⟨i,e,st⟩ k=>⟨i,e,D.frame i h h' st k⟩
 item:=λj s Q E hj ⟨i,e,st⟩ hQ=>D.item i s Q E (by omega) st λx h' tk p rh sb=>hQ x h' tk ⟨i,e,p⟩ ⟨i+1,by omega,rh⟩ sb
 done:=λs Q E ⟨i,e,st⟩ hE=>by
  have:i=n:=by omega
  subst this;exact D.done s Q E st hE
def Rw(K:bu)(m:Nat)(l:Addr)(xs:List V):It:=
 ⟨λi H=>i<xs.length/\dh K H l xs,λi H v H'=>∃p x,H p=none/\xs[i]?=some x/\v=.ref p/\H'=upd H p (.tup [.int ((m+i:Nat):Int),x]),λi H=>i=xs.length/\dh K H l xs⟩
theorem nu{P:Program}{w:World}{K:bu}{elts:Bz}{x1:Nat}{pos:Pos}{l e it:Addr}{xs:List V}{m:Nat}(WT:e≠it)(hle:l≠e)(WQ:l≠it) :
  Turn P w K (.Tuple elts x1 pos) (Rw K m l xs) [e,it] e (λi h=>(∃old,IsEnum h e it ((m+i:Nat):Int) old)/\h.IsListIter it l i) where
 mem:=by simp
 obj:=λi h st b hb=>by
  obtain⟨⟨old,he⟩,o1,e1,_,d1⟩:=st;simp only[cu,o_,or_false]at hb;rcases hb with rfl|rfl
  ·exact⟨_,he,λv q=>by cases q⟩
  ·exact⟨o1,e1,λv q=>by rw[d1]at q;cases q⟩
 keep:=λi h h' st k=>by
  obtain⟨⟨old,he⟩,h1⟩:=st;exact⟨⟨old,k e (by simp) _ he⟩,h1.at λo q=>k it (by simp) o q⟩
 item:=by
  intro X hP hw hK hc i aa s σ H E I hf st hg;subst hP hw hK;obtain⟨hi,hq⟩:=hg;obtain⟨⟨old,he⟩,h1⟩:=st;obtain⟨its,rv,pl,hsz⟩:=I.list hq;obtain⟨u,hu,ru⟩:=rv.get (b8 hi);have hil:i<its.toArray.size:=by rw[bX,<- rv.length];exact hi
  have D:=C2 (Draws.list (prog:=X.prog) (w:=X.w) (A:=X.A.in1) (I.ok.hd hc) it l WQ its.toArray) m;refine wpAny_pyNext_enum_itemD (n:=m+its.toArray.size) D he ⟨i,rfl,h1,pl.isList⟩ (by omega) WT (by simp only[cu,o_,or_false,not_or];exact⟨WT,Ne.symm hle⟩) λx h' tk px a1 a2 a3 a4 kk=>?_
  obtain⟨i',ei,px⟩:=px
  have:i'=i:=by omega
  subst this;have hx:x=u:=by
   rw[List.getElem?_toArray,hu]at px;exact(ku.inj px).symm
  subst hx;obtain⟨i2,ei2,a2,_⟩:=a2
  have:i2=i'+1:=by omega
  subst this;refine⟨.ref s.heap.objs.size,rfl,?_⟩;refine wpAny_letOwnedTupleGo_enum (s:={s with heap:=h',toks:=tk+1}) a1 λFY b1 b2=>?_
  have lt:∀{d o},s.heap.get? d=some o->s.heap.objs.size≠d:=λe=>yd (Heap.lt_size e);have fpn:∀b∈[e,it],s.heap.objs.size≠b:=λb hb=>by
   obtain⟨o1,e1,_⟩:=h1;simp only[cu,o_,or_false]at hb;rcases hb with rfl|rfl
   ·exact lt he
   ·exact lt e1
  have keep:∀b o,b∉[e,it]->s.heap.get? b=some o->FY.get? b=some o:=λb o hb q=>by
   simp only[cu,o_,or_false,not_or]at hb;exact(b2.2 b hb.1).trans (kk b o hb.1 hb.2 q)
  have hn:H s.heap.objs.size=none:=I.bx.fresh (cC _);have hT:FY.get? s.heap.objs.size=some {cls:=.type "tuple",data:=.seq #[.int ((m+i':Nat):Int) tk,x]}:=(b2.2 _ (lt he)).trans a3;have Rx:IsTup FY s.heap.objs.size ([.int ((m+i':Nat):Int) tk,x]:B2).toArray:=⟨_,hT,rfl,0,rfl⟩;have Ry:∀b v,H b=some v->b∉[e,it]:=λb v q hb=>by rw[(hf b hb).1]at q;cases q
  have I1:Inv X aa σ (upd H s.heap.objs.size (.tup [.int ((m+i':Nat):Int),xs[i']])) {s with heap:=FY,toks:=tk+1}:=by
   refine I.step (g':=s.gens) (d':=s.drawn) (t':=tk+1) (ch:=[e,it]) (λb hb=>⟨(hf b hb).2.2.2.1,(hf b hb).2.1,(hf b hb).2.2.2.2.1,(hf b hb).2.2.2.2.2⟩) (λb o _ _ hb e _=>keep b o hb e) (λb o _ _ hb e _=>⟨o.slots,keep b o hb e⟩)
    (λb o hb e n=>by rw[aq (Ne.symm (lt e))];exact n) (λb o hb e=>⟨o,keep b o hb e⟩) (λb ys e=>by rw[aq (aG e hn)];exact e) (λb o v e=>by rw[aq (aG e hn)];exact e)
    (λb ps e=>⟨#[],by rw[aq (aG e hn),e];simp⟩) (λm hm=>?_) ?_ I.bare
   ·obtain⟨o,es,ep,ho,r⟩:=hm
    exact⟨o,es,ep,keep _ o (λhb=>(hf _ hb).2.1 rfl) ho,r⟩
   ·intro b v e
    by_cases hb:b=s.heap.objs.size
    ·subst hb
     rw[ah]at e;cases e;exact⟨by show 2<=sizeLine;decide,_,.cons ⟨_,rfl⟩ (.cons ru .nil),Rx⟩
    ·rw[aq hb]at e
     refine(I.bx b v e).vY (λc o hc q=>keep c o ?_ q) (λc q=>by rw[aq (aG q hn)];exact q) λc ys q=>by rw[aq (aG q hn)];exact q
     rcases hc with rfl|hc
     ·exact Ry c v e
     ·exact Ry c _ hc
  have eN:((m+i':Nat):Int)+1=((m+(i'+1):Nat):Int):=by omega
  refine⟨.ref s.heap.objs.size,_,I1,rfl,⟨_,_,hn,b8 hi,rfl,rfl⟩,⟨⟨x,eN▸b1⟩,a2.at λo q=>(b2.2 it WT.symm).trans q⟩,λb hb=>?_⟩;rw[aq (Ne.symm (fpn b hb))];exact(hf b hb).1
 done:=by
  intro X hP hw hK hc i aa s σ H E I hf st hg;subst hP hw hK;obtain⟨hi,hq⟩:=hg;obtain⟨⟨old,he⟩,h1⟩:=st;obtain⟨its,rv,pl,hsz⟩:=I.list hq;have hl:=rv.length;have D:=C2 (Draws.list (prog:=X.prog) (w:=X.w) (A:=X.A.in1) (I.ok.hd hc) it l WQ its.toArray) m;refine wpAny_pyNext_enum_endD (n:=m+its.toArray.size) D he ⟨i,by rw[bX];omega,h1,pl.isList⟩ λh' kk=>⟨rfl,?_⟩
  have Ry:∀b v,H b=some v->b∉[e,it]:=λb v q hb=>by rw[(hf b hb).1]at q;cases q
  have keep:∀b o,b∉[e,it]->s.heap.get? b=some o->h'.get? b=some o:=λb o hb q=>by
   simp only[cu,o_,or_false,not_or]at hb;exact kk b o hb.2 q
  refine I.step (g':=s.gens) (d':=s.drawn) (t':=s.toks) (ch:=[e,it]) (λb hb=>⟨(hf b hb).2.2.2.1,(hf b hb).2.1,(hf b hb).2.2.2.2.1,(hf b hb).2.2.2.2.2⟩) (λb o _ _ hb e _=>keep b o hb e) (λb o _ _ hb e _=>⟨o.slots,keep b o hb e⟩)
   (λb o hb e n=>n) (λb o hb e=>⟨o,keep b o hb e⟩) (λ_ _ e=>e) (λ_ _ _ e=>e) (λb ps e=>⟨#[],by rw[e];simp⟩) (λm hm=>?_) (λb v e=>?_) I.bare
  ·obtain⟨o,es,ep,ho,r⟩:=hm
   exact⟨o,es,ep,keep _ o (λhb=>(hf _ hb).2.1 rfl) ho,r⟩
  ·refine(I.bx b v e).vY (λc o hc q=>keep c o ?_ q) (λ_ q=>q) λ_ _ q=>q
   rcases hc with rfl|hc
   ·exact Ry c v e
   ·exact Ry c _ hc
 self:=λ_ _ _ _ _ st h=>by obtain⟨⟨old,he⟩,_⟩:=st;exact wpAny_pyIter_enum he h
section
variable{X:Cx}
def MK(K:bu)(m:Nat)(ta:TA):TI:=λσ H R=>ta σ H λvs H1=>∃l xs,vs=[.ref l]/\dh K H1 l xs/\R (Rw K m l xs) H1
theorem Rz{a:Expr}{ta:TA}{elts:Bz}{x1:Nat}{lH p pos:Pos}(hg:Gl X "enumerate")(hm:X.mg "enumerate" = none)(ha:PA X [a] ta)(hs:starEach [a] X.env=[(false,eval a X.env)]) :
  PI X (.Tuple elts x1 lH) (.Call (.Name "enumerate" p) [a] [] pos) (MK X.K 0 ta):=by
 intro aa s σ H R I h;refine Call_ (gI I hg hm J_ (Ah (bJ (ha pos aa s σ H _ I h) λus s1 ⟨vs,H1,I1,r1,q1⟩=>?_) (by rw[hs];rfl) rfl))
 obtain⟨l,xs,e,hq,q⟩:=q1;subst e;obtain⟨u,rfl,rx⟩:=vals1 r1;cases rx;obtain⟨its,rv,pl,hz⟩:=I1.list hq;refine call_enumerate_list pl.isList λh' a1 a2 _ kk=>wpAny_pyIter_enum (s:={s1 with heap:=h'}) a1 ?_
 have ll:l<s1.heap.objs.size:=let⟨_,e,_⟩:=pl.isList;Heap.lt_size e;refine⟨s1.heap.objs.size+1,_,_,_,H1,rfl,I1.kept (t':=s1.toks) kk,nu (l:=l) (it:=s1.heap.objs.size) (yd (vW _)) (fk (JY ll)) (fk ll),⟨⟨_,a1⟩,a2⟩,λb hb=>?_,q⟩;have ML:s1.heap.objs.size<=b:=by
  simp only[cu,o_,or_false]at hb;rcases hb with rfl|rfl
  ·exact vX _ _
  ·exact cC _
 exact I1.rf ML (I1.bx.fresh ML)
theorem MM{a:Expr}{ta:TA}{elts:Bz}{x1 k1:Nat}{lH p pos p1 kp:Pos}(hg:Gl X "enumerate")(hm:X.mg "enumerate" = none)(ha:PA X [a] ta)(hs:starEach [a] X.env=[(false,eval a X.env)]) :
  PI X (.Tuple elts x1 lH) (.Call (.Name "enumerate" p) [a] [⟨some (Str.ofString "start"),.Constant (.int 1) k1 p1,kp⟩] pos) (MK X.K 1 ta):=by
 intro aa s σ H R I h;refine wpAny_Call_Name_kw (gI I hg hm J_ ?_);refine PySem.W.callWith_of (P:=λ_=>True) (by rw[hs];rfl) (λh _=>⟨.machine,.inr (.inl rfl),.now⟩) ?_
 refine PyProof.Rows.evalArgs_kw2 rfl (bJ (ha pos aa s σ H _ I h) λus s1 ⟨vs,H1,I1,r1,q1⟩=>?_) hs;show wpAny _ _ (evalAll [(do let v <- eval (.Constant (.int 1) k1 p1) X.env;standAt pos;pure v)]) _ _ s1
 refine wpAny_evalAll_cons (wpAny_bind (wpAny_Constant_int (wpAny_bind (wpAny_standAt (wpAny_pure (wpAny_evalAll_nil ⟨trivial,?_⟩))))));obtain⟨l,xs,e,hq,q⟩:=q1;subst e;obtain⟨u,rfl,rx⟩:=vals1 r1;cases rx;have I2:Inv X aa σ H1 {s1 with toks:=s1.toks+1}:=I1.tok _
 obtain⟨its,rv,pl,hz⟩:=I2.list hq;show wpAny _ _ (call (.type "enumerate") [.ref l] [(Str.ofString "start",.int 1 s1.toks)]) _ _ {s1 with toks:=s1.toks+1}
 refine kF pl.isList λh' a1 a2 _ kk=>wpAny_pyIter_enum (s:={s1 with heap:=h',toks:=s1.toks+1}) a1 ?_
 have ll:l<s1.heap.objs.size:=let⟨_,e,_⟩:=pl.isList;Heap.lt_size e;refine⟨s1.heap.objs.size+1,_,_,_,H1,rfl,I2.kept (t':=s1.toks+1) kk,nu (m:=1) (l:=l) (it:=s1.heap.objs.size) (yd (vW _)) (fk (JY ll)) (fk ll),⟨⟨_,a1⟩,a2⟩,λb hb=>?_,q⟩;have ML:s1.heap.objs.size<=b:=by
  simp only[cu,o_,or_false]at hb;rcases hb with rfl|rfl
  ·exact vX _ _
  ·exact cC _
 exact I2.rf ML (I2.bx.fresh ML)
end
end L2
namespace D
inductive Ky where
 |i (n:Int)|s (l:B1)
 deriving DecidableEq
inductive T where
 |non|bl (b:Bool)|int (i:Int)|str (l:B1)|tup (xs:List T)|lst (xs:List T)
 |scr (ns:Dx)
 |obj (c:Nat) (fs:List T)
 |own (k:Nat)
 |dq (ks:List Ky) (vs:List T)
inductive C where
 |val (t:T)|ol (ts:List T)|od (ks:List Ky) (vs:List T)
 |yg (t:T)
structure Ob where
 c:Nat
 fs:List C
structure S where
 r:List (Option C)
 m:List Ob
abbrev Fs:=List (Option C)
abbrev FC:=Option (List T)
abbrev FK:=List T
abbrev FR:=Option T
abbrev FV:=List Ob
inductive Res(α:Type) where
 |ok (a:α)|bad
 |exc (c:Nat) (fs:FK) (s:S)
noncomputable def Res.bind{α β:Type}(x:Res α)(f:α->Res β):Res β:=match x with
 |.ok a=>f a
 |.bad=>.bad
 |.exc c fs s=>.exc c fs s
theorem ae{α β:Type}{x:Res α}{f:α->Res β}{b:β}(h:x.bind f=.ok b):∃a,x=.ok a/\f a=.ok b:=by
 cases x with
 |ok a=>exact⟨a,rfl,h⟩
 |bad=>cases h
 |exc c fs s=>cases h
noncomputable def aS{α:Type}:Option α->Res α
 |some a=>.ok a
 |none=>.bad
theorem aj{α:Type}{o:Option α}{a:α}(h:aS o=.ok a):o=some a:=by
 cases o with
 |none=>cases h
 |some b=>cases h;rfl
noncomputable def gd{α:Type}(p:Prop)[Decidable p](x:α):Option α:=if p then some x else none
theorem aW{α:Type}{p:Prop}[Decidable p]{x a:α}(h:gd p x=some a):p/\x=a:=by
 unfold gd at h;split at h
 ·rename_i q;cases h;exact⟨q,rfl⟩
 ·cases h
abbrev FE:=S->Res (T×S)
abbrev FT:=S->Res (Bool×S)
abbrev FL:=S->Res (FK×S)
inductive Out where
 |nx|rt (t:T)|bk|ct
abbrev FS:=S->Res (Out×S)
abbrev Fn:=FK->FV->Res (T×FV)
def RA:T->T->FR
 |.int i,.int j=>some (.int (i+j))
 |.str a,.str b=>gd (a.length+b.length<=1000000) (.str (a++b))
 |.lst a,.lst b=>gd (a.length+b.length<=1000000) (.lst (a++b))
 |_,_=>none
def RB:T->T->FR
 |.int i,.int j=>some (.int (i-j))
 |_,_=>none
def C3:T->T->FR
 |.int i,.int j=>gd (((-(2^64)<i/\i<2^64)\/(-(2^64)<j/\j<2^64))\/(i.natAbs.log2<2000000/\j.natAbs.log2<2000000)) (.int (i*j))
 |.lst a,.int k=>gd (k<1000000/\-1000000<k/\a.length*k.toNat<=1000000) (.lst (ck k.toNat a).flatten)
 |.str a,.int k=>gd (2<=k/\k<1000000/\a≠[]/\a.length*k.toNat<=1000000) (.str (ck k.toNat a).flatten)
 |_,_=>none
def G9:T->T->FR
 |.int i,.int j=>gd (0<j/\j<1073741824) (.int (i/j))
 |_,_=>none
def MN:T->T->FR
 |.int i,.int j=>gd (0<j) (.int (i % j))
 |_,_=>none
def MO:T->T->FR
 |.int i,.int j=>gd (0<=j/\j<=1000000/\i.natAbs<2^64) (.int (i^j.toNat))
 |_,_=>none
def lL:T->FR
 |.int i=>some (.int (-i))
 |_=>none
def C4(f:Int->Int->Bool):T->T->FR
 |.int i,.int j=>some (.bl (f i j))
 |_,_=>none
mutual
noncomputable def eqT:T->T->Bool
 |.non,.non=>true
 |.bl a,.bl b=>a == b
 |.int a,.int b=>decide (a=b)
 |.bl a,.int b=>decide ((if a then 1 else 0:Int)=b)
 |.int a,.bl b=>decide (a=(if b then 1 else 0:Int))
 |.str a,.str b=>decide (a=b)
 |.tup a,.tup b=>iO a b
 |.lst a,.lst b=>iO a b
 |.scr a,.scr b=>decide (a=b)
 |.obj c a,.obj d b=>decide (c=d)&&iO a b
 |.own a,.own b=>decide (a=b)
 |.dq ks a,.dq ls b=>decide (ks=ls)&&iO a b
 |_,_=>false
noncomputable def iO:FK->FK->Bool
 |[],[]=>true
 |a::as,b::bs=>eqT a b&&iO as bs
 |_,_=>false
end
mutual
theorem ny:∀t:T,eqT t t=true
 |.non=>rfl
 |.bl b=>by cases b<;>rfl
 |.int i=>decide_eq_true rfl
 |.str l=>decide_eq_true rfl
 |.tup xs=>gD xs
 |.lst xs=>gD xs
 |.scr ns=>decide_eq_true rfl
 |.obj c xs=>by
  show(decide (c=c)&&iO xs xs)=true;rw[decide_eq_true rfl,gD xs];rfl
 |.own k=>decide_eq_true rfl
 |.dq ks xs=>by
  show(decide (ks=ks)&&iO xs xs)=true;rw[decide_eq_true rfl,gD xs];rfl
theorem gD:∀ts:FK,iO ts ts=true
 |[]=>rfl
 |t::ts=>by
  show(eqT t t&&iO ts ts)=true;rw[ny t,gD ts];rfl
end
def a_:T->Bool
 |.bl _=>true
 |.int _=>true
 |.str _=>true
 |.non=>true
 |_=>false
def all2(p:T->T->Bool):FK->FK->Bool
 |a::as,b::bs=>p a b&&all2 p as bs
 |_,_=>true
def shape:Nat->T->T->Bool
 |n+1,.tup as,.tup bs=>all2 (shape n) as bs
 |n+1,.lst as,.lst bs=>all2 (shape n) as bs
 |_+1,.dq [] [],.dq [] []=>true
 |_,a,b=>a_ a&&a_ b
def WU:T->T->FR:=λa b=>gd (shape 5 a b=true) (.bl (eqT a b))
def WW:T->T->FR:=λa b=>gd (shape 5 a b=true) (.bl (!eqT a b))
def WZ:T->T->FR
 |.bl a,.bl b=>some (.bl (a == b))
 |.non,.non=>some (.bl true)
 |.own _,.own _=>none
 |_,.non=>some (.bl false)
 |_,_=>none
def MP:T->T->FR
 |.bl a,.bl b=>some (.bl (a != b))
 |.non,.non=>some (.bl false)
 |.own _,.own _=>none
 |_,.non=>some (.bl true)
 |_,_=>none
def RC:B1->B1->Bool
 |[c],l=>decide (c∈l)
 |x,l=>(dZ (l.length+1)).any λi=>decide (i+x.length<=l.length)&&((l.drop i).take x.length == x)
def MQ:T->T->Option Bool
 |.str x,.str l=>some (RC x l)
 |x,.tup ys=>gd (a_ x=true/\ys.all a_=true) (ys.any λy=>eqT y x)
 |x,.lst ys=>gd (a_ x=true/\ys.all a_=true) (ys.any λy=>eqT y x)
 |_,_=>none
def inD:T->T->FR:=λx y=>(MQ x y).map .bl
def MR:T->T->FR:=λx y=>(MQ x y).map λb=>.bl (!b)
noncomputable def atT{α:Type}(xs:List α)(i:Int):Option α:=if 0<=i then(if i<xs.length then xs[i.toNat]? else none)else if -(xs.length:Int)<=i then xs[(i+xs.length).toNat]? else none
def dX(ks:List Ky)(vs:FK)(k:Ky):FR:=match ks,vs with
 |a::ks,v::vs=>if a=k then some v else dX ks vs k
 |_,_=>none
def putK:List Ky->FK->Ky->T->List Ky×FK
 |a::ks,v::vs,k,t=>if a=k then(a::ks,t::vs)else let p:=putK ks vs k t;(a::p.1,v::p.2)
 |_,_,k,t=>([k],[t])
def gO:T->Option Ky
 |.int i=>some (.i i)
 |.str l=>some (.s l)
 |_=>none
def vQ:T->T->FR
 |.lst xs,.int i=>atT xs i
 |.tup xs,.int i=>atT xs i
 |.str l,.int i=>(atT l i).map λc=>.str [c]
 |.scr ns,.int i=>(atT ns i).map .int
 |.dq ks vs,x=>(gO x).bind (dX ks vs)
 |_,_=>none
def AM:T->FR
 |.str l=>some (.int l.length)
 |.tup xs=>some (.int xs.length)
 |.lst xs=>some (.int xs.length)
 |.scr ns=>some (.int ns.length)
 |.dq ks _=>some (.int ks.length)
 |_=>none
def gx(n d:Nat):D2->Nat
 |none=>d
 |some v=>if v<0 then(v+(n:Int)).toNat else min v.toNat n
noncomputable def bA{α:Type}(xs:List α)(lo hi:D2):List α:=(xs.drop (gx xs.length 0 lo)).take (gx xs.length xs.length hi-gx xs.length 0 lo)
def G_(lo hi:D2):T->FR
 |.str l=>some (.str (bA l lo hi))
 |.lst l=>some (.lst (bA l lo hi))
 |.scr ns=>some (.lst ((bA ns lo hi).map .int))
 |_=>none
def Ha:T->Option Bool
 |.bl b=>some b
 |.lst ts=>some (!ts.isEmpty)
 |_=>none
noncomputable def strsOf:FK->Option Ap
 |[]=>some []
 |.str l::ts=>(strsOf ts).map (l::·)
 |_=>none
noncomputable def cQ(sep:B1):Ap->B1
 |[]=>[]
 |[a]=>a
 |a::b::r=>a++sep++cQ sep (b::r)
def yx:T->T->FR
 |.str sep,.lst ts=>(strsOf ts).bind λys=>gd ((ys.map (·.length)).sum+ys.length*sep.length<=1000000) (.str (cQ sep ys))
 |_,_=>none
noncomputable def pre(s l:B1):Bool:=decide (s.length<=l.length)&&(l.take s.length == s)
noncomputable def Hb(s l:B1):Bool:=decide (s.length<=l.length)&&(l.drop (l.length-s.length) == s)
def boolsOf:FK->Option Fh
 |[]=>some []
 |.bl b::ts=>(boolsOf ts).map (b::·)
 |_=>none
def MS:T->FR
 |.lst ts=>(boolsOf ts).map λbs=>.bl (bs.all id)
 |_=>none
def MT:T->FR
 |.lst ts=>(boolsOf ts).map λbs=>.bl (bs.any id)
 |_=>none
def Ks:T->FR
 |.lst a=>some (.lst a)
 |.tup a=>some (.lst a)
 |_=>none
def RD:T->FR
 |.int i=>some (.int (if i<0 then -i else i))
 |_=>none
def bG:FE:=λ_=>.bad
def cF(t:T):FE:=λs=>.ok (t,s)
def i_(s:S)(i:Nat)(c:C):S:={s with r:=s.r.set i (some c)}
noncomputable def vF(i:Nat):FE:=λs=>match s.r[i]? with
 |some (some (.val t))=>.ok (t,s)
 |some (some (.ol ts))=>.ok (.lst ts,i_ s i (.val (.lst ts)))
 |some (some (.od ks ts))=>.ok (.dq ks ts,i_ s i (.val (.dq ks ts)))
 |_=>.bad
def du(g:T->FR)(a:FE):FE:=λs=>(a s).bind λp=>(aS (g p.1)).bind λt=>.ok (t,p.2)
def bo(g:T->T->FR)(a b:FE):FE:=λs=>(a s).bind λp=>(b p.2).bind λq=>(aS (g p.1 q.1)).bind λt=>.ok (t,q.2)
def bq:FL:=λs=>.ok ([],s)
def cA(a:FE)(r:FL):FL:=λs=>(a s).bind λp=>(r p.2).bind λq=>.ok (p.1::q.1,q.2)
def fB:FL:=λ_=>.bad
def bg(g:FK->FR)(a:FL):FE:=λs=>(a s).bind λp=>(aS (g p.1)).bind λt=>.ok (t,p.2)
def eV(ts:FK):FR:=gd (ts.length<=1000) (.tup ts)
def jQ(ts:FK):FR:=gd (ts.length<=1000) (.lst ts)
def pK:FT:=λ_=>.bad
def tB(a:FE):FT:=λs=>(a s).bind λp=>(aS (Ha p.1)).bind λb=>.ok (b,p.2)
def fD(a b:FT):FT:=λs=>(a s).bind λp=>if p.1 then b p.2 else .ok (false,p.2)
def sP(a b:FT):FT:=λs=>(a s).bind λp=>if p.1 then .ok (true,p.2)else b p.2
def cW(a:FT):FT:=λs=>(a s).bind λp=>.ok (!p.1,p.2)
def cX:FT:=λs=>.ok (true,s)
def PR:T->Option Bool
 |.bl b=>some b
 |_=>none
def pL(a b:FE):FE:=λs=>(a s).bind λp=>(aS (PR p.1)).bind λk=>if k then b p.2 else .ok (.bl false,p.2)
def pM(a:FE):FE:=λs=>(a s).bind λp=>(aS (PR p.1)).bind λk=>.ok (.bl (!k),p.2)
def AN(c:FT)(a b:FE):FE:=λs=>(c s).bind λp=>if p.1 then a p.2 else b p.2
abbrev FO:=S->Res (D2×S)
def wF:FO:=λs=>.ok (none,s)
def RE:T->D2
 |.int i=>some i
 |_=>none
def kG(a:FE):FO:=λs=>(a s).bind λp=>(aS (RE p.1)).bind λi=>.ok (some i,p.2)
def oW(a:FE)(lo hi:FO):FE:=λs=>(a s).bind λp=>(lo p.2).bind λq=>(hi q.2).bind λz=>(aS (G_ q.1 z.1 p.1)).bind λt=>.ok (t,z.2)
def kH:Option (Option C)->FC
 |some (some (.ol ts))=>some ts
 |_=>none
def jm(i:Nat)(b:FE):FE:=λs=>(aS (kH s.r[i]?)).bind λ_=>(b s).bind λp=>(aS (kH p.2.r[i]?)).bind λts=>(aS (vQ (.lst ts) p.1)).bind λt=>.ok (t,p.2)
def gP(tab:Ap)(c f:Nat):Option Nat:=(tab[c]?).bind λns=>ns.idxOf? f
def aC(tab:Ap)(f:Nat)(a:FE):FE:=λs=>(a s).bind λp=>match p.1 with
 |.obj c fs=>(aS ((gP tab c f).bind λj=>fs[j]?)).bind λt=>.ok (t,p.2)
 |.own k=>(aS ((p.2.m[k]?).bind λob=>(gP tab ob.c f).bind λj=>ob.fs[j]?)).bind λc=>(match c with
  |.val t=>.ok (t,p.2)
  |_=>.bad)
 |_=>.bad
def cD(c n:Nat)(fl:FL):FE:=λs=>(fl s).bind λp=>if p.1.length=n then .ok (.obj c p.1,p.2)else .bad
def jR(c:Nat)(g:Fn)(fl:FL):FE:=λs=>(fl s).bind λp=>match g (.own p.2.m.length::p.1) (p.2.m++[⟨c,[]⟩])with
 |.ok (.non,m')=>.ok (.own p.2.m.length,{p.2 with m:=m'})
 |.exc c fs s'=>.exc c fs {p.2 with m:=s'.m}
 |_=>.bad
def AO(c:Nat):T->FR
 |.lst ts=>some (.obj c [.lst ts])
 |_=>none
def ao(g:Fn)(ds:FK)(fl:FL):FE:=λs=>(fl s).bind λp=>match g (p.1++ds) p.2.m with
 |.ok q=>.ok (q.1,{p.2 with m:=q.2})
 |.bad=>.bad
 |.exc c fs s'=>.exc c fs {p.2 with m:=s'.m}
def av(g:Nat->Option Fn)(o:FE)(fl:FL):FE:=λs=>(o s).bind λp=>match p.1 with
 |.own k=>(aS ((p.2.m[k]?).bind λob=>g ob.c)).bind λh=>ao h [] (λs=>(fl s).bind λq=>.ok (.own k::q.1,q.2)) p.2
 |.obj c fs=>(aS (g c)).bind λh=>ao h [] (λs=>(fl s).bind λq=>.ok (.obj c fs::q.1,q.2)) p.2
 |_=>.bad
def Vr:T->FC
 |.lst ts=>some ts
 |.tup ts=>some ts
 |.str l=>some (l.map λc=>.str [c])
 |.scr ns=>some (ns.map .int)
 |_=>none
def nz(a:FE):FL:=λs=>(a s).bind λp=>(aS (Vr p.1)).bind λts=>.ok (ts,p.2)
def iT(lo:Int)(n:Nat):FK:=(dZ n).map λk=>.int (lo+(k:Nat))
def iz:FK->FC
 |[.int j]=>gd (j<1000000/\-1000000<j) (iT 0 j.toNat)
 |[.int i,.int j]=>gd (i<1000000/\-1000000<i/\j<1000000/\-1000000<j) (iT i (j-i).toNat)
 |[.int i,.int j,.int k]=>gd (k=-1/\i<1000000/\-1000000<i/\j<1000000/\-1000000<j) ((dZ (i-j).toNat).map λk=>.int (i-(k:Nat)))
 |_=>none
def ql(g:FK->FC)(a:FL):FL:=λs=>(a s).bind λp=>(aS (g p.1)).bind λts=>.ok (ts,p.2)
def cZ:Int->FK->FK
 |_,[]=>[]
 |n,t::ts=>.tup [.int n,t]::cZ (n+1) ts
def RG(n:Int):T->FC
 |.lst ts=>some (cZ n ts)
 |_=>none
def ig(n:Int)(a:FE):FL:=λs=>(a s).bind λp=>(aS (RG n p.1)).bind λts=>.ok (ts,p.2)
abbrev FG:=T->Fs->Option Fs
def setG(i:Nat):FG:=λt r=>some (r.set i (some (.val t)))
def yy:B1->FK->Fs->Option Fs
 |[],[],r=>some r
 |i::is,t::ts,r=>yy is ts (r.set i (some (.val t)))
 |_,_,_=>none
def e7(is:B1):FG:=λt r=>match t with
 |.tup ts=>yy is ts r
 |_=>none
def Hc(r:Fs)(j:Nat):Fs:=match r[j]? with
 |some (some (.ol ts))=>r.set j (some (.val (.lst ts)))
 |_=>r
def jn:B1->Fs->Fs
 |[],r=>r
 |j::js,r=>jn js (Hc r j)
def iP(k:Nat)(js:B1)(r:Fs):Fs:=ck k none++js.map λj=>match r[j]? with
 |some (some (.val t))=>some (.val t)
 |_=>none
def aN(g:FG)(c:FT)(e:FE)(b:Fs):FK->FV->Res (FK×FV)
 |[],m=>.ok ([],m)
 |t::ts,m=>(aS (g t b)).bind λb1=>(c ⟨b1,m⟩).bind λp=>if p.1 then(e p.2).bind λq=>(aN g c e b ts q.2.m).bind λz=>.ok (q.1::z.1,z.2)else aN g c e b ts p.2.m
def bB(src:FL)(k:Nat)(js:B1)(g:FG)(c:FT)(e:FE):FL:=λs=>(src s).bind λp=>if p.1.length<=1000000 then
  (aN g c e (iP k js (jn js p.2.r)) p.1 p.2.m).bind λq=>.ok (q.1,⟨jn js p.2.r,q.2⟩)else .bad
def cY(fl:FL):FE:=λs=>(fl s).bind λp=>.ok (.lst p.1,p.2)
def aE:FS:=λs=>.ok (.nx,s)
def c_:FS:=λ_=>.bad
def af(a b:FS):FS:=λs=>(a s).bind λp=>match p.1 with
 |.nx=>b p.2
 |o=>.ok (o,p.2)
def aH(i:Nat)(a:FE):FS:=λs=>(a s).bind λp=>.ok (.nx,i_ p.2 i (.val p.1))
def iQ(i:Nat)(a:FL):FS:=λs=>(a s).bind λp=>.ok (.nx,i_ p.2 i (.ol p.1))
def aA(a:FE):FS:=λs=>(a s).bind λp=>.ok (.rt p.1,p.2)
def aL(a:FE):FS:=λs=>(a s).bind λp=>.ok (.nx,p.2)
def aU(c:FT)(a b:FS):FS:=λs=>(c s).bind λp=>if p.1 then a p.2 else b p.2
def RH:FS:=λs=>.ok (.bk,s)
def RI:FS:=λs=>.ok (.ct,s)
def gQ(i:Nat)(a:FE):FS:=λs=>(aS (kH s.r[i]?)).bind λ_=>(a s).bind λp=>(aS (kH p.2.r[i]?)).bind λts=>(aS (gd (ts.length<1000000) ts)).bind λts=>.ok (.nx,i_ p.2 i (.ol (ts++[p.1])))
def c8(i:Nat)(b a:FE):FS:=λs=>(a s).bind λp=>(aS (kH p.2.r[i]?)).bind λ_=>(b p.2).bind λq=>(aS (kH q.2.r[i]?)).bind λts=>(aS (RE q.1)).bind λj=>(aS (gd (0<=j/\j<ts.length) (ts.set j.toNat p.1))).bind λus=>.ok (.nx,i_ q.2 i (.ol us))
def C5(g:T->T->FR)(i:Nat)(a:FE):FS:=λs=>match s.r[i]? with
 |some (some (.val x))=>(a s).bind λp=>(aS (g x p.1)).bind λt=>.ok (.nx,i_ p.2 i (.val t))
 |_=>.bad
def setAt(fs:List C)(j:Nat)(c:C):Option (List C):=if j<fs.length then some (fs.set j c)else if j=fs.length then some (fs++[c])else none
def dM(tab:Ap)(f:Nat)(c:C)(ob:Ob):Option Ob:=(gP tab ob.c f).bind λj=>(setAt ob.fs j c).map λfs=>⟨ob.c,fs⟩
def aM(tab:Ap)(f:Nat)(o a:FE):FS:=λs=>(a s).bind λp=>(o p.2).bind λq=>match q.1 with
 |.own k=>(aS ((q.2.m[k]?).bind (dM tab f (.val p.1)))).bind λob=>.ok (.nx,{q.2 with m:=q.2.m.set k ob})
 |_=>.bad
def bU(g:FG)(b:FS):FK->FS
 |[],s=>.ok (.nx,s)
 |t::ts,s=>(aS (g t s.r)).bind λr=>(b ⟨r,s.m⟩).bind λp=>match p.1 with
  |.nx=>bU g b ts p.2
  |.ct=>bU g b ts p.2
  |.bk=>.ok (.nx,p.2)
  |.rt t=>.ok (.rt t,p.2)
def gR(src:FL)(g:FG)(b:FS):FS:=λs=>(src s).bind λp=>bU g b p.1 p.2
def aY(c:FT)(b:FS):Nat->FS
 |0,_=>.bad
 |n+1,s=>(c s).bind λp=>if p.1 then(b p.2).bind λq=>(match q.1 with
  |.nx=>aY c b n q.2
  |.ct=>aY c b n q.2
  |.bk=>.ok (.nx,q.2)
  |.rt t=>.ok (.rt t,q.2))else .ok (.nx,p.2)
def eW(n:Nat)(c:FT)(b:FS):FS:=aY c b n
def uq(c:Nat)(fl:FL):FE:=λs=>(fl s).bind λp=>.ok (.own p.2.m.length,{p.2 with m:=p.2.m++[⟨c,[.ol p.1]⟩]})
def aJ(np n:Nat)(b:FS):Fn:=λts m=>if ts.length=np then(b ⟨ts.map (λt=>some (.val t))++ck (n-ts.length) none,m⟩).bind λp=>match p.1 with
 |.rt t=>.ok (t,p.2.m)
 |.nx=>.ok (.non,p.2.m)
 |_=>.bad else .bad
mutual
def noOwn:T->Bool
 |.own _=>false
 |.tup xs=>aB xs
 |.lst xs=>aB xs
 |.obj _ xs=>aB xs
 |.dq _ xs=>aB xs
 |_=>true
def aB:FK->Bool
 |[]=>true
 |t::ts=>noOwn t&&aB ts
end
noncomputable def aO(g:Fn):Fn:=λts m=>if aB ts=true then(match g ts []with
 |.ok q=>if noOwn q.1=true then .ok (q.1,m)else .bad
 |.bad=>.bad
 |.exc c fs s=>if aB fs=true then .exc c fs ⟨s.r,m⟩else .bad)else .bad
end D
namespace D
open PySem L2
abbrev SV(l:B1):V:=.str ⟨l.toArray⟩
structure KT where
 K:bu
 P:Program
 w:World
 cn:Bi
 fn:List Bi
def iA(B:KT)(c:Nat)(C:Addr)(ns:Bi):Prop:=∃n,B.cn[c]?=some n/\B.fn[c]?=some ns/\ns.Nodup/\oZ B.K mainGlobals n=some (some (.ref C))
theorem iA.eq{B:KT}{c:Nat}{C C':Addr}{ns C6:Bi}(h:iA B c C ns)(h':iA B c C' C6):C=C'/\ns=C6:=by
 obtain⟨n,a,b,_,d⟩:=h;obtain⟨n',a',b',_,d'⟩:=h';rw[a]at a';cases a';rw[b]at b';cases b';rw[d]at d';cases d';exact⟨rfl,rfl⟩
def jE:Ky->Key
 |.i n=>.inl n
 |.s l=>.inr ⟨l.toArray⟩
inductive jo where
 |loc (i:Nat)|ob (k:Nat)|fld (k j:Nat)
 deriving DecidableEq
structure G where
 HF:Hp
 o:Addr->Option jo
 al:BM
mutual
def Rep(B:KT)(al:BM)(H:Hp):T->V->Prop
 |.non,v=>v=.non
 |.bl b,v=>v=.bl b
 |.int i,v=>v=.int i
 |.str l,v=>v=SV l/\l.length<=1000000
 |.tup ts,v=>∃a vs,v=.ref a/\k7 B.K H a vs/\az B al H ts vs
 |.lst ts,v=>∃a vs,v=.ref a/\H a=some (.lst vs)/\az B al H ts vs
 |.scr ns,v=>∃a,v=.ref a/\dh B.K H a (ns.map V.int)
 |.obj c ts,v=>∃a C dx ns vs,v=.ref a/\iA B c C ns/\H a=some (.ins C dx (ns.zip vs))/\vs.length<=ns.length/\H dx=some (.own a)/\az B al H ts vs
 |.own k,v=>∃a,v=.ref a/\al[k]?=some a
 |.dq ks ts,v=>∃a vs,v=.ref a/\H a=some (.dK ((ks.map jE).zip vs))/\ks.length=vs.length/\az B al H ts vs
def az(B:KT)(al:BM)(H:Hp):FK->List V->Prop
 |[],vs=>vs=[]
 |t::ts,vs=>∃v r,vs=v::r/\Rep B al H t v/\az B al H ts r
end
theorem bM{K:bu}{H H':Hp}(s:aK H H'){a:Addr}{xs:List V}(q:k7 K H a xs):k7 K H' a xs:=by
 rcases q with(q|⟨o,q⟩)|q
 ·exact .inl (.inl (s _ _ q))
 ·exact .inl (.inr ⟨o,s _ _ q⟩)
 ·exact .inr q
theorem dN{α:Type}{l m:List α}(p:l <+: m){k:Nat}{a:α}(h:l[k]?=some a):m[k]?=some a:=by
 obtain⟨r,rfl⟩:=p;rw[gp (dc.mp h).1];exact h
variable{X:Cx}{a b c e:Expr}{fa fb fc:FE}{g g':G}{H H':Hp}{B:KT}{p pos:Pos}{s s':S}{σ:St}
variable{al Hd:BM}{HF fY:Hp}
mutual
theorem Rep.mv(p:al <+: Hd)(s:aK H H'):∀{t:T}{v:V},Rep B al H t v->Rep B Hd H' t v
 |.non,_,h=>h
 |.bl _,_,h=>h
 |.int _,_,h=>h
 |.str _,_,h=>h
 |.tup ts,_,h=>by
  obtain⟨a,vs,e,q,r⟩:=h;exact⟨a,vs,e,bM s q,az.mv p s r⟩
 |.lst ts,_,h=>by
  obtain⟨a,vs,e,q,r⟩:=h;exact⟨a,vs,e,s _ _ q,az.mv p s r⟩
 |.scr ns,_,h=>by
  obtain⟨a,e,q⟩:=h;exact⟨a,e,s.seq q⟩
 |.obj c ts,_,h=>by
  obtain⟨a,C,dx,ns,vs,e,z,q,l,q2,r⟩:=h;exact⟨a,C,dx,ns,vs,e,z,s _ _ q,l,s _ _ q2,az.mv p s r⟩
 |.own k,_,h=>by
  obtain⟨a,e,q⟩:=h;exact⟨a,e,dN p q⟩
 |.dq ks ts,_,h=>by
  obtain⟨a,vs,e,q,l,r⟩:=h;exact⟨a,vs,e,s _ _ q,l,az.mv p s r⟩
theorem az.mv(p:al <+: Hd)(s:aK H H'):∀{ts:FK}{vs:List V},az B al H ts vs->az B Hd H' ts vs
 |[],_,h=>h
 |t::ts,_,h=>by
  obtain⟨v,r,e,h1,h2⟩:=h;exact⟨v,r,e,Rep.mv p s h1,az.mv p s h2⟩
end
theorem Rep.same(s:aK H H'){t:T}{v:V}(h:Rep B al H t v):Rep B al H' t v:=h.mv er s
theorem az.same(s:aK H H'){t:FK}{v:List V}(h:az B al H t v):az B al H' t v:=h.mv er s
theorem az.len:∀{ts:FK}{vs:List V},az B al H ts vs->ts.length=vs.length
 |[],_,h=>by cases(show _=[]from h);rfl
 |t::ts,_,h=>by
  obtain⟨v,r,rfl,_,h2⟩:=h;simp[az.len h2]
theorem az.get:∀{ts:FK}{vs:List V},az B al H ts vs->∀{i:Nat}{t:T},ts[i]?=some t->∃v,vs[i]?=some v/\Rep B al H t v
 |[],_,_,_,_,e=>by simp at e
 |t::ts,_,h,0,_,e=>by
  obtain⟨v,r,rfl,h1,_⟩:=h;simp at e;subst e;exact⟨v,rfl,h1⟩
 |t::ts,_,h,i+1,_,e=>by
  obtain⟨v,r,rfl,_,h2⟩:=h;obtain⟨v',e',h'⟩:=az.get h2 (i:=i) (by simpa using e)
  exact⟨v',by simpa using e',h'⟩
theorem az.wG:∀{ts:FK}{vs:List V},az B al H ts vs->∀{i:Nat}{v:V},vs[i]?=some v->∃t,ts[i]?=some t/\Rep B al H t v
 |[],_,h,_,_,e=>by have h:_=[]:=h;subst h;simp at e
 |t::ts,_,h,0,_,e=>by
  obtain⟨v,r,rfl,h1,_⟩:=h;simp at e;subst e;exact⟨t,rfl,h1⟩
 |t::ts,_,h,i+1,_,e=>by
  obtain⟨v,r,rfl,_,h2⟩:=h;obtain⟨t',e',h'⟩:=az.wG h2 (i:=i) (by simpa using e)
  exact⟨t',by simpa using e',h'⟩
theorem az.app:∀{ts us:FK}{vs ws:List V},az B al H ts vs->az B al H us ws->az B al H (ts++us) (vs++ws)
 |[],_,_,_,h,h'=>by have h:_=[]:=h;subst h;exact h'
 |t::ts,_,_,_,h,h'=>by
  obtain⟨v,r,rfl,h1,h2⟩:=h;exact⟨v,_,rfl,h1,h2.app h'⟩
theorem az.drop:∀{ts:FK}{vs:List V}(n:Nat),az B al H ts vs->az B al H (ts.drop n) (vs.drop n)
 |ts,vs,0,h=>by simpa using h
 |[],_,n+1,h=>by have h:_=[]:=h;subst h;rfl
 |t::ts,_,n+1,h=>by
  obtain⟨v,r,rfl,_,h2⟩:=h;simpa using h2.drop n
theorem az.take:∀{ts:FK}{vs:List V}(n:Nat),az B al H ts vs->az B al H (ts.take n) (vs.take n)
 |ts,vs,0,h=>by simp[az]
 |[],_,n+1,h=>by have h:_=[]:=h;subst h;rfl
 |t::ts,_,n+1,h=>by
  obtain⟨v,r,rfl,h1,h2⟩:=h;exact⟨v,r.take n,rfl,h1,h2.take n⟩
theorem az.set{t:T}{v:V}(q:Rep B al H t v):∀{ts:FK}{vs:List V}(n:Nat),az B al H ts vs->az B al H (ts.set n t) (vs.set n v)
 |[],_,n,h=>by have h:_=[]:=h;subst h;rfl
 |_::ts,_,0,h=>by
  obtain⟨w,r,rfl,h1,h2⟩:=h;exact⟨v,r,rfl,q,h2⟩
 |u::ts,_,n+1,h=>by
  obtain⟨w,r,rfl,h1,h2⟩:=h;exact⟨w,r.set n v,rfl,h1,h2.set q n⟩
theorem az.flat{ts:FK}{vs:List V}(h:az B al H ts vs):∀n:Nat,az B al H (ck n ts).flatten (ck n vs).flatten
 |0=>rfl
 |n+1=>by
  rw[jF,jF,sX,sX];exact h.app (h.flat n)
theorem az.one{t:T}{v:V}(q:Rep B al H t v):az B al H [t] [v]:=⟨v,[],rfl,q,rfl⟩
theorem az.ints:∀ns:Dx,az B al H (ns.map T.int) (ns.map V.int)
 |[]=>rfl
 |n::ns=>⟨_,_,rfl,rfl,az.ints ns⟩
theorem az.signs:∀l:B1,az B al H (l.map λc=>T.str [c]) (l.map λc=>V.str ⟨#[c]⟩)
 |[]=>rfl
 |c::l=>⟨_,_,rfl,⟨rfl,by simp⟩,az.signs l⟩
mutual
theorem Rep.no:∀{t:T}{v:V},noOwn t=true->Rep B al H t v->Rep B Hd H t v
 |.non,_,_,h=>h
 |.bl _,_,_,h=>h
 |.int _,_,_,h=>h
 |.str _,_,_,h=>h
 |.tup ts,_,n,h=>by
  obtain⟨a,vs,e,q,r⟩:=h;exact⟨a,vs,e,q,az.no n r⟩
 |.lst ts,_,n,h=>by
  obtain⟨a,vs,e,q,r⟩:=h;exact⟨a,vs,e,q,az.no n r⟩
 |.scr ns,_,_,h=>h
 |.obj c ts,_,n,h=>by
  obtain⟨a,C,dx,ns,vs,e,z,q,l,q2,r⟩:=h;exact⟨a,C,dx,ns,vs,e,z,q,l,q2,az.no n r⟩
 |.own k,_,n,h=>by cases n
 |.dq ks ts,_,n,h=>by
  obtain⟨a,vs,e,q,l,r⟩:=h;exact⟨a,vs,e,q,l,az.no n r⟩
theorem az.no:∀{ts:FK}{vs:List V},aB ts=true->az B al H ts vs->az B Hd H ts vs
 |[],_,_,h=>h
 |t::ts,_,n,h=>by
  obtain⟨v,r,e,h1,h2⟩:=h;have n:(noOwn t&&aB ts)=true:=n;rw[cO]at n;exact⟨v,r,e,Rep.no n.1 h1,az.no n.2 h2⟩
end
structure Gr(HF H fY H':Hp):Prop where
 fr:aK HF fY
 sub:aK fY H'
 rest:∀b o,H b=some o->HF b=none->H' b=some o/\fY b=none
theorem Gr.refl{HF H:Hp}(s:aK HF H):Gr HF H HF H:=⟨aK.refl _,s,λ_ _ h n=>⟨h,n⟩⟩
theorem Gr.trans{HF H ZJ H1 ZK H2:Hp}(a:Gr HF H ZJ H1)(b:Gr ZJ H1 ZK H2):Gr HF H ZK H2:=
 ⟨a.fr.trans b.fr,b.sub,λc o h n=>let⟨h1,n1⟩:=a.rest c o h n;b.rest c o h1 n1⟩
theorem Gr.same{HF H fY H':Hp}(s:aK HF H)(a:Gr HF H fY H'):aK H H':=λb o h=>by
 cases e:HF b with
 |none=>exact(a.rest b o h e).1
 |some u=>
  have:=s b u e
  rw[h]at this;cases this;exact a.sub _ _ (a.fr _ _ e)
theorem aQ{H:Hp}{p:Addr}{o:HO}(h:H p=none):aK H (upd H p o):=λb u e=>by rw[aq (aG e h)];exact e
theorem Gr.new{HF H:Hp}(s:aK HF H){p:Addr}{o:HO}(h:H p=none):Gr HF H (upd HF p o) (upd H p o):=by
 have hf:HF p=none:=s.free h;refine⟨aQ hf,λb u e=>?_,λb u e n=>?_⟩
 ·by_cases hb:b=p
  ·subst hb;rw[ah]at e ⊢;exact e
  ·rw[aq hb]at e ⊢;exact s _ _ e
 ·have hb:b≠p:=aG e h
  rw[aq hb,aq hb];exact⟨e,n⟩
theorem Gr.pO{HF H:Hp}(s:aK HF H){p:Addr}{o:HO}(h:H p=none):Gr HF H HF (upd H p o):=
 ⟨aK.refl _,s.trans (aQ h),λb u e n=>⟨aQ h _ _ e,n⟩⟩
def aX(B:KT)(g:G)(H:Hp)(p:jo):C->V->Prop
 |.val t,v=>Rep B g.al g.HF t v
 |.ol ts,v=>∃l vs,v=.ref l/\g.o l=some p/\H l=some (.lst vs)/\az B g.al g.HF ts vs
 |.od ks ts,v=>∃l vs,v=.ref l/\g.o l=some p/\H l=some (.dK ((ks.map jE).zip vs))/\ks.length=vs.length/\az B g.al g.HF ts vs
 |.yg t,v=>∃HY:Hp,(∀b u,HY b=some u->g.o b=some p/\H b=some u)/\Rep B [] HY t v
structure Bq(B:KT)(g:G)(H:Hp)(k:Nat)(ob:Ob)(a C dx:Addr)(ns:Bi)(vs:List V):Prop where
 al:g.al[k]?=some a
 o:g.o a=some (.ob k)
 cl:iA B ob.c C ns
 h:H a=some (.ins C dx (ns.zip vs))
 le:vs.length<=ns.length
 ln:vs.length=ob.fs.length
 f:∀j c,ob.fs[j]?=some c->∃v,vs[j]?=some v/\aX B g H (.fld k j) c v
structure Vs(B:KT)(g:G)(H:Hp)(k:Nat)(ob:Ob)(a:Addr):Prop where
 al:g.al[k]?=some a
 nc:B.cn[ob.c]?=none
 nf:B.fn[ob.c]?=none
 f:∀c,ob.fs=[c]->aX B g H (.ob k) c (.ref a)
def MU(B:KT)(g:G)(H:Hp)(k:Nat)(ob:Ob):Prop:=(∃a C dx ns vs,Bq B g H k ob a C dx ns vs)\/∃a,Vs B g H k ob a
structure fE(B:KT)(g:G)(H:Hp)(m:FV):Prop where
 sub:aK g.HF H
 live:∀b p,g.o b=some p->g.HF b=none/\∃u,H b=some u
 len:m.length=g.al.length
 at_:∀k ob,m[k]?=some ob->MU B g H k ob
structure nA(B:KT)(g:G)(H:Hp)(σ:St)(r:Fs):Prop where
 len:r.length=σ.length
 at_:∀i c,r[i]?=some (some c)->∃v,σ[i]?=some (some v)/\aX B g H (.loc i) c v
structure SR(B:KT)(g:G)(H:Hp)(σ:St)(s:S):Prop where
 st:fE B g H s.m
 lc:nA B g H σ s.r
structure eO(g:G)(H:Hp)(g':G)(H':Hp):Prop where
 fr:aK g.HF g'.HF
 pre:g.al <+: g'.al
 rest:∀b u,H b=some u->g.HF b=none->g.o b=none->H' b=some u/\g'.HF b=none/\g'.o b=none
 there:∀b,H' b=none->H b=none
variable{g1 g2:G}{H1 H2:Hp}
theorem eO.refl:eO g H g H:=⟨aK.refl _,er,λ_ _ h n o=>⟨h,n,o⟩,λ_ h=>h⟩
theorem eO.trans(a:eO g H g1 H1)(b:eO g1 H1 g2 H2):eO g H g2 H2:=
 ⟨a.fr.trans b.fr,a.pre.trans b.pre,λc u h n o=>let⟨h1,n1,o1⟩:=a.rest c u h n o;b.rest c u h1 n1 o1,λc h=>a.there c (b.there c h)⟩
abbrev G.grow(g:G)(fY:Hp):G:={g with HF:=fY}
theorem aX.grow(gr:Gr g.HF H fY H')(lv:∀b p,g.o b=some p->g.HF b=none/\∃u,H b=some u){p:jo}:∀{c:C}{v:V},aX B g H p c v->aX B (g.grow fY) H' p c v
 |.val t,v,h=>h.same gr.fr
 |.ol ts,v,h=>by
  obtain⟨l,vs,e,o,q,r⟩:=h;exact⟨l,vs,e,o,(gr.rest l _ q (lv l p o).1).1,r.same gr.fr⟩
 |.od ks ts,v,h=>by
  obtain⟨l,vs,e,o,q,n,r⟩:=h;exact⟨l,vs,e,o,(gr.rest l _ q (lv l p o).1).1,n,r.same gr.fr⟩
 |.yg t,v,h=>by
  obtain⟨HY,h1,r⟩:=h;exact⟨HY,λb u e=>let⟨h2,h3⟩:=h1 b u e;⟨h2,(gr.rest b u h3 (lv b p h2).1).1⟩,r⟩
theorem Bq.grow{k:Nat}{ob:Ob}{a C dx:Addr}{ns:Bi}{vs:List V}(x:Bq B g H k ob a C dx ns vs)(gr:Gr g.HF H fY H')(lv:∀b p,g.o b=some p->g.HF b=none/\∃u,H b=some u):Bq B (g.grow fY) H' k ob a C dx ns vs:=
 ⟨x.al,x.o,x.cl,(gr.rest _ _ x.h (lv _ _ x.o).1).1,x.le,x.ln,λj c e=>let⟨v,h1,h2⟩:=x.f j c e;⟨v,h1,h2.grow gr lv⟩⟩
theorem MU.grow{k:Nat}{ob:Ob}(x:MU B g H k ob)(gr:Gr g.HF H fY H')(lv:∀b p,g.o b=some p->g.HF b=none/\∃u,H b=some u):MU B (g.grow fY) H' k ob:=by
 rcases x with⟨a,C,dx,ns,vs,y⟩|⟨a,y⟩
 ·exact .inl ⟨a,C,dx,ns,vs,y.grow gr lv⟩
 ·exact .inr ⟨a,y.al,y.nc,y.nf,λc e=>(y.f c e).grow gr lv⟩
theorem fE.grow{m:FV}(x:fE B g H m)(gr:Gr g.HF H fY H'):fE B (g.grow fY) H' m:=
 ⟨gr.sub,λb p e=>by
  obtain⟨h1,u,h2⟩:=x.live b p e;obtain⟨h3,h4⟩:=gr.rest b u h2 h1;exact⟨h4,u,h3⟩,x.len,λk ob e=>(x.at_ k ob e).grow gr x.live⟩
theorem SR.grow(x:SR B g H σ s)(gr:Gr g.HF H fY H'):SR B (g.grow fY) H' σ s:=
 ⟨x.st.grow gr,x.lc.len,λi c e=>let⟨v,h1,h2⟩:=x.lc.at_ i c e;⟨v,h1,h2.grow gr x.st.live⟩⟩
theorem SR.sub(x:SR B g H σ s):aK g.HF H:=x.st.sub
theorem Gr.free(gr:Gr HF H fY H')(sm:aK HF H){b:Addr}(h:H' b=none):H b=none:=(gr.same sm).free h
theorem SR.gv(x:SR B g H σ s)(gr:Gr g.HF H fY H'):eO g H (g.grow fY) H':=
 ⟨gr.fr,er,λb u h n o=>let⟨h1,h2⟩:=gr.rest b u h n;⟨h1,h2,o⟩,λb h=>gr.free x.sub h⟩
variable{m:FV}
theorem aX.mv{p:jo}(fr:aK g.HF g'.HF)(pre:g.al <+: g'.al)(k:∀l,g.o l=some p->g'.o l=some p/\H' l=H l):∀{c:C}{v:V},aX B g H p c v->aX B g' H' p c v
 |.val t,v,h=>Rep.mv pre fr h
 |.ol ts,v,h=>by
  obtain⟨l,vs,e,o,q,r⟩:=h;obtain⟨o',h'⟩:=k l o;exact⟨l,vs,e,o',h'.trans q,r.mv pre fr⟩
 |.od ks ts,v,h=>by
  obtain⟨l,vs,e,o,q,n,r⟩:=h;obtain⟨o',h'⟩:=k l o;exact⟨l,vs,e,o',h'.trans q,n,r.mv pre fr⟩
 |.yg t,v,h=>by
  obtain⟨HY,h1,r⟩:=h;exact⟨HY,λb u e=>let⟨h2,h3⟩:=h1 b u e;let⟨h4,h5⟩:=k b h2;⟨h4,h5.trans h3⟩,r⟩
theorem Bq.mv{k:Nat}{ob:Ob}{a C dx:Addr}{ns:Bi}{vs:List V}(x:Bq B g H k ob a C dx ns vs)(fr:aK g.HF g'.HF)(pre:g.al <+: g'.al)(kk:∀l p,g.o l=some p->(p=.ob k\/∃j,p=.fld k j)->g'.o l=some p/\H' l=H l):Bq B g' H' k ob a C dx ns vs:=by
 obtain⟨o',h'⟩:=kk a _ x.o (.inl rfl);exact⟨dN pre x.al,o',x.cl,h'.trans x.h,x.le,x.ln,λj c e=>let⟨v,h1,h2⟩:=x.f j c e;⟨v,h1,h2.mv fr pre λl z=>kk l _ z (.inr ⟨j,rfl⟩)⟩⟩
theorem MU.mv{k:Nat}{ob:Ob}(x:MU B g H k ob)(fr:aK g.HF g'.HF)(pre:g.al <+: g'.al)(kk:∀l p,g.o l=some p->(p=.ob k\/∃j,p=.fld k j)->g'.o l=some p/\H' l=H l):MU B g' H' k ob:=by
 rcases x with⟨a,C,dx,ns,vs,y⟩|⟨a,y⟩
 ·exact .inl ⟨a,C,dx,ns,vs,y.mv fr pre kk⟩
 ·exact .inr ⟨a,dN pre y.al,y.nc,y.nf,λc e=>(y.f c e).mv fr pre λl z=>kk l _ z (.inl rfl)⟩
theorem fE.mv(x:fE B g H m)(sub:aK g'.HF H')(live:∀b p,g'.o b=some p->g'.HF b=none/\∃u,H' b=some u)(fr:aK g.HF g'.HF)(RJ:g'.al=g.al)(kk:∀l p,g.o l=some p->(∀i,p≠.loc i)->g'.o l=some p/\H' l=H l):fE B g' H' m:=
 ⟨sub,live,by rw[RJ];exact x.len,λk ob e=>(x.at_ k ob e).mv fr (by rw[RJ];exact er) λl p h q=>kk l p h (by
  rcases q with q|⟨j,q⟩
  ·subst q;exact λi z=>by cases z
  ·subst q;exact λi z=>by cases z)⟩
theorem nA.set{r:Fs}{i:Nat}{v:V}{c:C}(x:nA B g H σ r)(q:aX B g' H' (.loc i) c v)(kk:∀j c v,j≠i->aX B g H (.loc j) c v->aX B g' H' (.loc j) c v):nA B g' H' (σ.set i (some v)) (r.set i (some c)):=by
 refine⟨by rw[eA,eA];exact x.len,λj d h=>?_⟩
 by_cases hj:i=j
 ·subst hj
  have iW:i<r.length:=by have:=(dc.mp h).1;rw[eA]at this;exact this
  rw[dW iW]at h;cases h;exact⟨v,dW (by rw[<- x.len];exact iW),q⟩
 ·rw[cy hj]at h
  obtain⟨w,h1,h2⟩:=x.at_ j d h;exact⟨w,by rw[cy hj];exact h1,kk j d w (Ne.symm hj) h2⟩
theorem SR.set(x:SR B g H σ s){i:Nat}{t:T}{v:V}(r:Rep B g.al g.HF t v):SR B g H (σ.set i (some v)) (i_ s i (.val t)):=
 ⟨x.st,x.lc.set r λ_ _ _ _ h=>h⟩
def G.iU(g:G)(l:Addr)(o:HO):G:={g with HF:=upd g.HF l o,o:=λb=>if b=l then none else g.o b}
theorem nB{p q:jo}{l:Addr}{o:HO}(hl:g.o l=some p)(hf:g.HF l=none)(hq:q≠p){c:C}{v:V}(h:aX B g H q c v):aX B (g.iU l o) H q c v:=
 aX.mv (g':=g.iU l o) (aQ hf) er (λb hb=>by
  have:b≠l:=λe=>hq (by rw[e,hl]at hb;cases hb;rfl)
  exact⟨by show(if b=l then none else g.o b)=_;rw[if_neg this];exact hb,rfl⟩) h
theorem rF{p:jo}{l:Addr}{o:HO}(hl:g.o l=some p)(hf:g.HF l=none):eO g H (g.iU l o) H:=
 ⟨aQ hf,er,λb u h n z=>by
  have:b≠l:=λe=>by rw[e,hl]at z;cases z
  exact⟨h,by show upd g.HF l o b=none;rw[aq this];exact n,by show(if b=l then none else g.o b)=none;rw[if_neg this];exact z⟩,λ_ h=>h⟩
theorem yz{i:Nat}{l:Addr}{o:HO}(x:fE B g H m)(hl:g.o l=some (.loc i))(hh:H l=some o):fE B (g.iU l o) H m:=by
 have hf:=(x.live l _ hl).1;refine x.mv (λb u e=>?_) (λb p e=>?_) (aQ hf) rfl λb p hb hp=>?_
 ·have e:upd g.HF l o b=some u:=e
  by_cases hb:b=l
  ·subst hb;rw[ah]at e;cases e;exact hh
  ·rw[aq hb]at e;exact x.sub _ _ e
 ·have e:(if b=l then none else g.o b)=some p:=e
  by_cases hb:b=l
  ·rw[if_pos hb]at e;cases e
  ·rw[if_neg hb]at e
   obtain⟨h1,h2⟩:=x.live b p e;exact⟨by show upd g.HF l o b=none;rw[aq hb];exact h1,h2⟩
 ·have:b≠l:=λe=>hp i (by rw[e,hl]at hb;cases hb;rfl)
  exact⟨by show(if b=l then none else g.o b)=_;rw[if_neg this];exact hb,rfl⟩
theorem SR.iU(x:SR B g H σ s){i:Nat}{ts:FK}(h:s.r[i]?=some (some (.ol ts))):∃g' v,eO g H g' H/\SR B g' H σ (i_ s i (.val (.lst ts)))/\σ[i]?=some (some v)/\Rep B g'.al g'.HF (.lst ts) v:=by
 obtain⟨v,h1,l,vs,rfl,ho,hh,r⟩:=x.lc.at_ i _ h;have hf:=(x.st.live l _ ho).1;have rp:Rep B (g.iU l (.lst vs)).al (g.iU l (.lst vs)).HF (.lst ts) (.ref l):=⟨l,vs,rfl,ah,r.mv er (aQ hf)⟩;refine⟨g.iU l (.lst vs),.ref l,rF ho hf,⟨yz x.st ho hh,?_⟩,h1,rp⟩
 have:=x.lc.set (i:=i) (v:=.ref l) (c:=.val (.lst ts)) rp λj c v hj q=>nB (q:=.loc j) ho hf (λz=>hj (by cases z;rfl)) q
 have es:σ.set i (some (.ref l))=σ:=by
  apply sY;intro j;by_cases hj:i=j
  ·subst hj
   rw[dW (dc.mp h1).1,h1]
  ·rw[cy hj]
 rw[es]at this;exact this
theorem SR.W0(x:SR B g H σ s){i:Nat}{ks:List Ky}{ts:FK}(h:s.r[i]?=some (some (.od ks ts))):∃g' v,eO g H g' H/\SR B g' H σ (i_ s i (.val (.dq ks ts)))/\σ[i]?=some (some v)/\Rep B g'.al g'.HF (.dq ks ts) v:=by
 obtain⟨v,h1,l,vs,rfl,ho,hh,hl,r⟩:=x.lc.at_ i _ h;have hf:=(x.st.live l _ ho).1;have rp:Rep B (g.iU l (.dK ((ks.map jE).zip vs))).al (g.iU l (.dK ((ks.map jE).zip vs))).HF (.dq ks ts) (.ref l):=⟨l,vs,rfl,ah,hl,r.mv er (aQ hf)⟩;refine⟨g.iU l (.dK ((ks.map jE).zip vs)),.ref l,rF ho hf,⟨yz x.st ho hh,?_⟩,h1,rp⟩
 have:=x.lc.set (i:=i) (v:=.ref l) (c:=.val (.dq ks ts)) rp λj c v hj q=>nB (q:=.loc j) ho hf (λz=>hj (by cases z;rfl)) q
 have es:σ.set i (some (.ref l))=σ:=by
  apply sY;intro j;by_cases hj:i=j
  ·subst hj
   rw[dW (dc.mp h1).1,h1]
  ·rw[cy hj]
 rw[es]at this;exact this
def G.own(g:G)(l:Addr)(p:jo):G:={g with o:=λb=>if b=l then some p else g.o b}
theorem ur{p q:jo}{l:Addr}(hn:g.o l=none){c:C}{v:V}(h:aX B g H q c v):aX B (g.own l p) H q c v:=
 aX.mv (g:=g) (g':=g.own l p) (aK.refl g.HF) er (λb hb=>by
  have:b≠l:=λe=>by rw[e,hn]at hb;cases hb
  exact⟨by show(if b=l then some p else g.o b)=_;rw[if_neg this];exact hb,rfl⟩) h
theorem yC{p:jo}{l:Addr}{u:HO}(x:fE B g H m)(hn:g.o l=none)(hf:g.HF l=none)(hh:H l=some u):fE B (g.own l p) H m:=by
 refine x.mv x.sub (λb q e=>?_) (aK.refl _) rfl λb q hb hp=>?_
 ·have e:(if b=l then some p else g.o b)=some q:=e
  by_cases hb:b=l
  ·subst hb;exact⟨hf,u,hh⟩
  ·rw[if_neg hb]at e;exact x.live b q e
 ·have:b≠l:=λe=>by rw[e,hn]at hb;cases hb
  exact⟨by show(if b=l then some p else g.o b)=_;rw[if_neg this];exact hb,rfl⟩
theorem SR.own(x:SR B g H σ s){i:Nat}{l:Addr}{ts:FK}{vs:List V}(hn:g.o l=none)(hf:g.HF l=none)(hh:H l=some (.lst vs))(r:az B g.al g.HF ts vs):SR B (g.own l (.loc i)) H (σ.set i (some (.ref l))) (i_ s i (.ol ts)):=
 ⟨yC x.st hn hf hh,x.lc.set (c:=.ol ts) ⟨l,vs,rfl,by show(if l=l then some (jo.loc i)else g.o l)=_;rw[if_pos rfl],hh,r⟩ λj c v hj q=>ur hn q⟩
theorem SR.W2(x:SR B g H σ s){i:Nat}{l:Addr}{ks:List Ky}{ts:FK}{vs:List V}(hn:g.o l=none)(hf:g.HF l=none)(hh:H l=some (.dK ((ks.map jE).zip vs)))(hk:ks.length=vs.length)(r:az B g.al g.HF ts vs):SR B (g.own l (.loc i)) H (σ.set i (some (.ref l))) (i_ s i (.od ks ts)):=
 ⟨yC x.st hn hf hh,x.lc.set (c:=.od ks ts) ⟨l,vs,rfl,by show(if l=l then some (jo.loc i)else g.o l)=_;rw[if_pos rfl],hh,hk,r⟩ λj c v hj q=>ur hn q⟩
theorem yD{l:Addr}{i:Nat}{u:HO}(x:fE B g H m)(ho:g.o l=some (.loc i)):fE B g (upd H l u) m:=by
 have hf:=(x.live l _ ho).1;refine x.mv (λb w e=>?_) (λb q e=>?_) (aK.refl _) rfl λb q hb hp=>?_
 ·have:b≠l:=λz=>by rw[z,hf]at e;cases e
  rw[aq this];exact x.sub _ _ e
 ·obtain⟨h1,w,h2⟩:=x.live b q e
  by_cases hb:b=l
  ·exact⟨h1,u,by rw[hb,ah]⟩
  ·exact⟨h1,w,by rw[aq hb];exact h2⟩
 ·have:b≠l:=λe=>hp i (by rw[e,ho]at hb;cases hb;rfl)
  exact⟨hb,by rw[aq this]⟩
theorem lX{l:Addr}{p:jo}{u:HO}(ho:g.o l=some p):eO g H g (upd H l u):=
 ⟨aK.refl _,er,λb w h n z=>by
  have:b≠l:=λe=>by rw[e,ho]at z;cases z
  exact⟨by rw[aq this];exact h,n,z⟩,λb h=>by
  by_cases hb:b=l
  ·subst hb;rw[ah]at h;cases h
  ·rw[aq hb]at h;exact h⟩
theorem SR.chg(x:SR B g H σ s){i:Nat}{ts pP:FK}{l:Addr}{fS:List V}(h:s.r[i]?=some (some (.ol ts)))(hσ:σ[i]?=some (some (.ref l)))(r:az B g.al g.HF pP fS):SR B g (upd H l (.lst fS)) σ (i_ s i (.ol pP))/\eO g H g (upd H l (.lst fS)):=by
 obtain⟨v,h1,l',vs,rfl,ho,hh,r0⟩:=x.lc.at_ i _ h;rw[hσ]at h1;cases h1;refine⟨⟨yD x.st ho,?_⟩,lX ho⟩
 have:=x.lc.set (g':=g) (H':=upd H l (.lst fS)) (i:=i) (v:=.ref l) (c:=.ol pP) ⟨l,fS,rfl,ho,ah,r⟩ λj c v hj q=>q.mv (aK.refl _) er λb hb=>by
  have:b≠l:=λe=>hj (by rw[e,ho]at hb;cases hb;rfl)
  exact⟨hb,aq this⟩
 have es:σ.set i (some (.ref l))=σ:=by
  apply sY;intro j;by_cases hj:i=j
  ·subst hj
   rw[dW (dc.mp hσ).1,hσ]
  ·rw[cy hj]
 rw[es]at this;exact this
theorem SR.W3(x:SR B g H σ s){i:Nat}{ks oX:List Ky}{ts pP:FK}{l:Addr}{fS:List V}(h:s.r[i]?=some (some (.od ks ts)))(hσ:σ[i]?=some (some (.ref l)))(hk:oX.length=fS.length)(r:az B g.al g.HF pP fS):SR B g (upd H l (.dK ((oX.map jE).zip fS))) σ (i_ s i (.od oX pP))/\eO g H g (upd H l (.dK ((oX.map jE).zip fS))):=by
 obtain⟨v,h1,l',vs,rfl,ho,hh,Hf,r0⟩:=x.lc.at_ i _ h;rw[hσ]at h1;cases h1;refine⟨⟨yD x.st ho,?_⟩,lX ho⟩
 have:=x.lc.set (g':=g) (H':=upd H l (.dK ((oX.map jE).zip fS))) (i:=i) (v:=.ref l) (c:=.od oX pP) ⟨l,fS,rfl,ho,ah,hk,r⟩ λj c v hj q=>q.mv (aK.refl _) er λb hb=>by
  have:b≠l:=λe=>hj (by rw[e,ho]at hb;cases hb;rfl)
  exact⟨hb,aq this⟩
 have es:σ.set i (some (.ref l))=σ:=by
  apply sY;intro j;by_cases hj:i=j
  ·subst hj
   rw[dW (dc.mp hσ).1,hσ]
  ·rw[cy hj]
 rw[es]at this;exact this
def RK:Option jo->Option jo
 |some (.loc _)=>none
 |x=>x
def G.ai(g:G):G:={g with o:=λb=>RK (g.o b)}
theorem AQ{q:Option jo}{p:jo}:RK q=some p ↔ q=some p/\∀i,p≠.loc i:=by
 cases q with
 |none=>exact⟨λh=>(by cases h),λh=>(by cases h.1)⟩
 |some q=>
  cases q with
  |loc i=>exact⟨λh=>(by cases h),λh=>(by obtain⟨h,n⟩:=h;cases h;exact absurd rfl (n i))⟩
  |ob k=>exact⟨λh=>(by cases h;exact⟨rfl,λi z=>(by cases z)⟩),λh=>h.1⟩
  |fld k j=>exact⟨λh=>(by cases h;exact⟨rfl,λi z=>(by cases z)⟩),λh=>h.1⟩
theorem jS{b:Addr}{p:jo}:g.ai.o b=some p ↔ g.o b=some p/\∀i,p≠.loc i:=AQ
theorem fE.ai(x:fE B g H m):fE B g.ai H m:=
 x.mv x.sub (λb p e=>x.live b p (jS.mp e).1) (aK.refl _) rfl λl p h n=>⟨jS.mpr ⟨h,n⟩,rfl⟩
def W4:Option jo->Option jo->Option jo
 |some (.loc i),_=>some (.loc i)
 |_,y=>y
def G.back(g g':G):G:={g' with o:=λb=>W4 (g.o b) (g'.o b)}
theorem C7{b:Addr}{i:Nat}(h:g.o b=some (.loc i)):(G.back g g').o b=some (.loc i):=by
 show W4 (g.o b) (g'.o b)=_;rw[h];rfl
theorem nC{b:Addr}(h:∀i,g.o b≠some (.loc i)):(G.back g g').o b=g'.o b:=by
 show W4 (g.o b) (g'.o b)=_;cases q:g.o b with
 |none=>rfl
 |some p=>cases p with
  |loc i=>exact absurd q (h i)
  |ob k=>rfl
  |fld k j=>rfl
theorem SR.back(x:SR B g H σ s){m':FV}(p:eO g.ai H g' H')(y:fE B g' H' m'):eO g H (G.back g g') H'/\SR B (G.back g g') H' σ {s with m:=m'}:=by
 have keep:∀l i,g.o l=some (.loc i)->H' l=H l/\g'.HF l=none/\g'.o l=none:=λl i e=>by
  obtain⟨h1,u,h2⟩:=x.st.live l _ e;have h3:g.ai.o l=none:=by
   cases q:g.ai.o l with
   |none=>rfl
   |some p=>obtain⟨a,b⟩:=jS.mp q;rw[e]at a;cases a;exact absurd rfl (b i)
  obtain⟨h4,h5,h6⟩:=p.rest l u h2 h1 h3;exact⟨h4.trans h2.symm,h5,h6⟩
 have W5:∀l q,g'.o l=some q->∀i,g.o l≠some (.loc i):=λl q e i z=>by rw[(keep l i z).2.2]at e;cases e
 refine⟨⟨p.fr,p.pre,λb u h n z=>?_,p.there⟩,⟨⟨y.sub,λb q e=>?_,y.len,λk ob e=>?_⟩,x.lc.len,λi c e=>?_⟩⟩
 ·have h3:g.ai.o b=none:=by
   cases q:g.ai.o b with
   |none=>rfl
   |some p=>rw[(jS.mp q).1]at z;cases z
  obtain⟨h4,h5,h6⟩:=p.rest b u h n h3;exact⟨h4,h5,(nC λi w=>by rw[z]at w;cases w).trans h6⟩
 ·by_cases hl:∃i,g.o b=some (.loc i)
  ·obtain⟨i,hl⟩:=hl
   obtain⟨h1,u,h2⟩:=x.st.live b _ hl;obtain⟨h4,h5,_⟩:=keep b i hl;exact⟨h5,u,h4.trans h2⟩
  ·rw[nC λi w=>hl ⟨i,w⟩]at e
   exact y.live b q e
 ·exact(y.at_ k ob e).mv (aK.refl _) er λl q h _=>⟨(nC (W5 l q h)).trans h,rfl⟩
 ·obtain⟨v,h1,h2⟩:=x.lc.at_ i c e
  exact⟨v,h1,aX.mv (g:=g) (g':=G.back g g') p.fr p.pre (λl o=>⟨C7 o,(keep l i o).1⟩) h2⟩
variable{es:Bz}{fl:FL}{ft fu:FT}
abbrev KTb:=Bi×List Bi
def _root_.L2.Cx.kt(X:Cx)(t:KTb):KT:=⟨X.K,X.prog,X.w,t.1,t.2⟩
def tE(B:KT)(f:FE):TE:=λσ H Q=>∃g s t s',SR B g H σ s/\f s=.ok (t,s')/\∀v g' H',eO g H g' H'->SR B g' H' σ s'->Rep B g'.al g'.HF t v->Q v H'
def tA(B:KT)(f:FL):TA:=λσ H Q=>∃g s ts s',SR B g H σ s/\f s=.ok (ts,s')/\∀vs g' H',eO g H g' H'->SR B g' H' σ s'->az B g'.al g'.HF ts vs->Q vs H'
def tT(B:KT)(f:FT):TT:=λσ H Q=>∃g s k s',SR B g H σ s/\f s=.ok (k,s')/\∀g' H',eO g H g' H'->SR B g' H' σ s'->Q k H'
def tP(B:KT)(f:FO):TO:=λσ H Q=>∃g s k s',SR B g H σ s/\f s=.ok (k,s')/\∀g' H',eO g H g' H'->SR B g' H' σ s'->Q k H'
def tO(B:KT)(f:FL):TE:=λσ H Q=>∃g s ts s',SR B g H σ s/\f s=.ok (ts,s')/\∀l vs g' H',eO g H g' H'->SR B g' H' σ s'->H l=none->g'.HF l=none->g'.o l=none->H' l=some (.lst vs)->az B g'.al g'.HF ts vs->Q (.ref l) H'
theorem aP{t t':TE}(h:PE X e t)(i:∀σ H Q,t' σ H Q->t σ H Q):PE X e t':=λaa s σ H Q I q=>h aa s σ H Q I (i σ H Q q)
theorem yE{t t':TT}(h:PT X e t)(i:∀σ H Q,t' σ H Q->t σ H Q):PT X e t':=λaa s σ H Q I q=>h aa s σ H Q I (i σ H Q q)
theorem Ku{t t':TT}(h:PW X e t)(i:∀σ H Q,t' σ H Q->t σ H Q):PW X e t':=λwh aa s σ H Q I q=>h wh aa s σ H Q I (i σ H Q q)
theorem Kv{es:Bz}{t t':TA}(h:PA X es t)(i:∀σ H Q,t' σ H Q->t σ H Q):PA X es t':=λpo aa s σ H Q I q=>h po aa s σ H Q I (i σ H Q q)
theorem c5{st:Stmt}{t t':TS}(h:PS X st t)(i:∀D σ H,t' D σ H->t D σ H):PS X st t':=λaa s σ H D I q=>h aa s σ H D I (i D σ H q)
theorem C8{st:Ee}{t t':TS}(h:jH X st t)(i:∀D σ H,t' D σ H->t D σ H):jH X st t':=λaa s σ H D I q=>h aa s σ H D I (i D σ H q)
theorem Kw{e:Option Expr}{t t':TO}(h:PO X e t)(i:∀σ H Q,t' σ H Q->t σ H Q):PO X e t':=λaa s σ H Q I q=>h aa s σ H Q I (i σ H Q q)
theorem lh{tg:Expr}{t t':TI}(h:PI X tg e t)(i:∀σ H Rh,t' σ H Rh->t σ H Rh):PI X tg e t':=λaa s σ H Rh I q=>h aa s σ H Rh I (i σ H Rh q)
theorem aT:PE X e (tE B bG):=λ_ _ _ _ _ _ ⟨_,_,_,_,_,h,_⟩=>by cases h
theorem jq:PT X e (tT B pK):=λ_ _ _ _ _ _ ⟨_,_,_,_,_,h,_⟩=>by cases h
theorem dO:PE X e (tO B fB):=λ_ _ _ _ _ _ ⟨_,_,_,_,_,h,_⟩=>by cases h
theorem jT{t:T}{v:V}(h:PE X e (tC v))(r:∀al H,Rep B al H t v):PE X e (tE B (cF t)):=aP h λσ H Q z=>by
 obtain⟨g,s,t',s',x,h,k⟩:=z;cases h;exact k v g H .refl x (r _ _)
theorem C9{i:Nat}{x:Str}(hN:X.N[i]?=some x)(hv:sN X.env.scope x)(hd:bW x)(jI:iE x):PE X (.Name x pos) (tE B (vF i)):=by
 refine aP (dJ hN hv hd jI) λσ H Q zz=>?_;obtain⟨g,s,t,s',x,h,k⟩:=zz;unfold vF at h;split at h
 ·rename_i t' hr
  cases h;obtain⟨v,h1,h2⟩:=x.lc.at_ i _ hr;exact⟨v,h1,k v g H .refl x h2⟩
 ·rename_i ts hr
  cases h;obtain⟨g',v,p,y,h1,r⟩:=x.iU hr;exact⟨v,h1,k v g' H p y r⟩
 ·rename_i ks ts hr
  cases h;obtain⟨g',v,p,y,h1,r⟩:=x.W0 hr;exact⟨v,h1,k v g' H p y r⟩
 ·cases h
def L1(X:Cx)(f:T->FR)(r:V->Hp->VK->Prop):Prop:=∀(B:KT)(_:B.K=X.K)(al:BM)(HF H:Hp)(x:V)(t tx:T)(Q:VK),aK HF H->Rep B al HF tx x->f tx=some t->(∀v fY H',Gr HF H fY H'->Rep B al fY t v->Q v H')->r x H Q
def pQ(X:Cx)(f:T->T->FR)(r:R2):Prop:=∀(B:KT)(_:B.K=X.K)(al:BM)(HF H:Hp)(x y:V)(t tx ty:T)(Q:VK),aK HF H->Rep B al HF tx x->Rep B al HF ty y->f tx ty=some t->(∀v fY H',Gr HF H fY H'->Rep B al fY t v->Q v H')->r x y H Q
def LN(X:Cx)(f:FK->FR)(r:List V->Hp->VK->Prop):Prop:=∀(B:KT)(_:B.K=X.K)(al:BM)(HF H:Hp)(xs:List V)(t:T)(ts:FK)(Q:VK),aK HF H->az B al HF ts xs->f ts=some t->(∀v fY H',Gr HF H fY H'->Rep B al fY t v->Q v H')->r xs H Q
theorem Kz{f:T->FR}{r:V->Hp->VK->Prop}(hB:B.K=X.K)(hr:L1 X f r):∀σ H Q,tE B (du f fa) σ H Q->Zg r (tE B fa) σ H Q:=by
 rintro σ H Q ⟨g,s,t,s',x,h,k⟩
 obtain⟨⟨tx,s1⟩,h1,h⟩:=ae h;obtain⟨t',h2,h⟩:=ae h;cases h;exact⟨g,s,tx,s1,x,h1,λv g1 H1 p1 x1 r1=>hr B hB g1.al g1.HF H1 v _ tx Q x1.sub r1 (aj h2) λu fY H' gr r2=>k u (g1.grow fY) H' (p1.trans (x1.gv gr)) (x1.grow gr) r2⟩
theorem iR{f:T->T->FR}{r:R2}(hB:B.K=X.K)(hr:pQ X f r):∀σ H Q,tE B (bo f fa fb) σ H Q->Cq r (tE B fa) (tE B fb) σ H Q:=by
 rintro σ H Q ⟨g,s,t,s',x,h,k⟩
 obtain⟨⟨tx,s1⟩,h1,h⟩:=ae h;obtain⟨⟨ty,s2⟩,h2,h⟩:=ae h;obtain⟨t',h3,h⟩:=ae h;cases h;exact⟨g,s,tx,s1,x,h1,λv g1 H1 p1 x1 r1=>⟨g1,s1,ty,s2,x1,h2,λw g2 H2 p2 x2 r2=>
  hr B hB g2.al g2.HF H2 v w _ tx ty Q x2.sub (r1.mv p2.pre p2.fr) r2 (aj h3) λu fY H' gr r3=>k u (g2.grow fY) H' ((p1.trans p2).trans (x2.gv gr)) (x2.grow gr) r3⟩⟩
theorem KA{f:FK->FR}{r:List V->Hp->VK->Prop}(hB:B.K=X.K)(hr:LN X f r):∀σ H Q,tE B (bg f fl) σ H Q->Wl r (tA B fl) σ H Q:=by
 rintro σ H Q ⟨g,s,t,s',x,h,k⟩
 obtain⟨⟨ts,s1⟩,h1,h⟩:=ae h;obtain⟨t',h2,h⟩:=ae h;cases h;exact⟨g,s,ts,s1,x,h1,λvs g1 H1 p1 x1 r1=>hr B hB g1.al g1.HF H1 vs _ ts Q x1.sub r1 (aj h2) λu fY H' gr r2=>k u (g1.grow fY) H' (p1.trans (x1.gv gr)) (x1.grow gr) r2⟩
theorem wH:PA X [] (tA B bq):=Kv cP λσ H Q z=>by
 obtain⟨g,s,t,s',x,h,k⟩:=z;cases h;exact k [] g H .refl x rfl
theorem rG(ha:PE X e (tE B fa))(hr:PA X es (tA B fl))(hs:starEach (e::es) X.env=(false,eval e X.env)::starEach es X.env):PA X (e::es) (tA B (cA fa fl)):=Kv (aV ha hr hs) λσ H Q z=>by
 obtain⟨g,s,t,s',x,h,k⟩:=z;obtain⟨⟨tx,s1⟩,h1,h⟩:=ae h;obtain⟨⟨ty,s2⟩,h2,h⟩:=ae h;cases h;exact⟨g,s,tx,s1,x,h1,λv g1 H1 p1 x1 r1=>⟨g1,s1,ty,s2,x1,h2,λw g2 H2 p2 x2 r2=>k (v::w) g2 H2 (p1.trans p2) x2 ⟨v,w,rfl,r1.mv p2.pre p2.fr,r2⟩⟩⟩
theorem wI{n:Nat}(h:n<=1000):n<=sizeLine:=by rw[sizeLine_eq];omega
theorem RL{x1}(h:PA X es (tA B fl)):PE X (.Tuple es x1 pos) (tE B (bg eV fl)):=aP (Cw h) λσ H Q z=>by
 obtain⟨g,s,t,s',x,h,k⟩:=z;obtain⟨⟨ts,s1⟩,h1,h⟩:=ae h;obtain⟨t',h2,h⟩:=ae h;cases h;obtain⟨z,rfl⟩:=aW (aj h2);refine⟨g,s,ts,s1,x,h1,λvs g1 H1 p1 x1 r1=>⟨wI (by rw[<- r1.len];exact z),λq hq=>?_⟩⟩
 have gr:=Gr.new (o:=.tup vs) x1.sub hq;exact k _ _ _ (p1.trans (x1.gv gr)) (x1.grow gr) ⟨q,vs,rfl,.inl (.inl ah),r1.same gr.fr⟩
theorem RM(h:PA X es (tA B fl)):PE X (.List es pos) (tE B (bg jQ fl)):=aP (Cy h) λσ H Q z=>by
 obtain⟨g,s,t,s',x,h,k⟩:=z;obtain⟨⟨ts,s1⟩,h1,h⟩:=ae h;obtain⟨t',h2,h⟩:=ae h;cases h;obtain⟨z,rfl⟩:=aW (aj h2);refine⟨g,s,ts,s1,x,h1,λvs g1 H1 p1 x1 r1=>⟨wI (by rw[<- r1.len];exact z),λq hq=>?_⟩⟩
 have gr:=Gr.new (o:=.lst vs) x1.sub hq;exact k _ _ _ (p1.trans (x1.gv gr)) (x1.grow gr) ⟨q,vs,rfl,ah,r1.same gr.fr⟩
def lM(fl:FL):FL:=λs=>(fl s).bind λp=>if p.1.length<=1000 then .ok p else .bad
theorem pO{l:Addr}{u:HO}(x:SR B g H σ s)(h:H l=none):Gr g.HF H g.HF (upd H l u)/\g.HF l=none/\g.o l=none:=by
 refine⟨.pO x.sub h,x.sub.free h,?_⟩;cases q:g.o l with
 |none=>rfl
 |some p=>obtain⟨_,u,z⟩:=x.st.live l p q;rw[h]at z;cases z
theorem MV(h:PA X es (tA B fl)):PE X (.List es pos) (tO B (lM fl)):=aP (Cy h) λσ H Q z=>by
 obtain⟨g,s,t,s',x,h,k⟩:=z;obtain⟨⟨ts,s1⟩,h1,h⟩:=ae h;dsimp only at h;split at h
 ·rename_i z
  cases h;refine⟨g,s,_,_,x,h1,λvs g1 H1 p1 x1 r1=>⟨wI (by rw[<- r1.len];exact z),λq hq=>?_⟩⟩
  obtain⟨gr,n1,n2⟩:=pO (u:=.lst vs) x1 hq;exact k q vs _ _ (p1.trans (x1.gv gr)) (x1.grow gr) (p1.there q hq) n1 n2 ah r1
 ·cases h
theorem SR.C_{l:Addr}{u:HO}(x:SR B g H σ s)(hf:g.HF l=none)(ho:g.o l=none)(hh:H l=some u):SR B (g.grow (upd g.HF l u)) H σ s:=by
 have sl:∀p c v,aX B g H p c v->aX B (g.grow (upd g.HF l u)) H p c v:=λp c v h=>aX.mv (g:=g) (g':=g.grow (upd g.HF l u)) (aQ hf) er (λ_ q=>⟨q,rfl⟩) h;refine⟨x.st.mv (λb w e=>?_) (λb p e=>?_) (aQ hf) rfl λ_ _ q _=>⟨q,rfl⟩,x.lc.len,λi c e=>let⟨v,h1,h2⟩:=x.lc.at_ i c e;⟨v,h1,sl _ _ _ h2⟩⟩
 ·have e:upd g.HF l u b=some w:=e
  by_cases hb:b=l
  ·subst hb;rw[ah]at e;cases e;exact hh
  ·rw[aq hb]at e;exact x.sub _ _ e
 ·obtain⟨h1,h2⟩:=x.st.live b p e
  have:b≠l:=λz=>by subst z;rw[show g.o b=some p from e]at ho;cases ho
  exact⟨by show upd g.HF l u b=none;rw[aq this];exact h1,h2⟩
theorem eO.C_{g1:G}{H1:Hp}{l:Addr}{u:HO}(p:eO g H g1 H1)(h0:H l=none)(hf:g1.HF l=none):eO g H (g1.grow (upd g1.HF l u)) H1:=
 ⟨p.fr.trans (aQ hf),p.pre,λb w h n z=>by
  obtain⟨a,b',c⟩:=p.rest b w h n z
  have:b≠l:=aG h h0
  exact⟨a,by show upd g1.HF l u b=none;rw[aq this];exact b',c⟩,p.there⟩
theorem wJ(h:PE X e (tO B fl)):PE X e (tE B (cY fl)):=aP h λσ H Q z=>by
 obtain⟨g,s,t,s',x,h,k⟩:=z;obtain⟨⟨ts,s1⟩,h1,h⟩:=ae h;cases h;refine⟨g,s,_,_,x,h1,λl vs g1 H1 p1 x1 h0 n1 n2 hl r1=>?_⟩;exact k _ _ H1 (p1.C_ h0 n1) (x1.C_ n1 n2 hl) ⟨l,vs,rfl,ah,r1.same (aQ n1)⟩
theorem MW(ha:PT X a (tT B ft)):PW X (.BoolOp .And [a] pos) (tT B ft):=Gu ha
theorem RN(ha:PT X a (tT B ft)):PW X (.BoolOp .Or [a] pos) (tT B ft):=LQ ha
theorem RO{rest:Bz}(ha:PT X a (tT B ft))(hb:PW X (.BoolOp .And (b::rest) pos) (tT B fu)):PW X (.BoolOp .And (a::b::rest) pos) (tT B (fD ft fu)):=Ku (LR ha hb) λσ H Q z=>by
 obtain⟨g,s,t,s',x,h,k⟩:=z;obtain⟨⟨d,s1⟩,h1,h⟩:=ae h;refine⟨g,s,d,s1,x,h1,λg1 H1 p1 x1=>?_⟩;cases d with
 |true=>exact ud ⟨g1,s1,_,_,x1,h,λg2 H2 p2 x2=>k g2 H2 (p1.trans p2) x2⟩
 |false=>cases h;exact uc (k g1 H1 p1 x1)
theorem W6{rest:Bz}(ha:PT X a (tT B ft))(hb:PW X (.BoolOp .Or (b::rest) pos) (tT B fu)):PW X (.BoolOp .Or (a::b::rest) pos) (tT B (sP ft fu)):=Ku (Qe ha hb) λσ H Q z=>by
 obtain⟨g,s,t,s',x,h,k⟩:=z;obtain⟨⟨d,s1⟩,h1,h⟩:=ae h;refine⟨g,s,d,s1,x,h1,λg1 H1 p1 x1=>?_⟩;cases d with
 |true=>cases h;exact ud (k g1 H1 p1 x1)
 |false=>exact uc ⟨g1,s1,_,_,x1,h,λg2 H2 p2 x2=>k g2 H2 (p1.trans p2) x2⟩
theorem RQ(ha:PT X a (tT B ft)):PT X (.UnaryOp .Not a pos) (tT B (cW ft)):=yE (LS ha) λσ H Q z=>by
 obtain⟨g,s,t,s',x,h,k⟩:=z;obtain⟨⟨d,s1⟩,h1,h⟩:=ae h;cases h;exact⟨g,s,d,s1,x,h1,λg1 H1 p1 x1=>k g1 H1 p1 x1⟩
theorem rH{t:T}{k:Bool}(h:PR t=some k):t=.bl k:=by
 cases t<;>first|(cases h;done)|(cases h;rfl)
theorem MX{op}(ha:PE X a (tE B fa)):PE X (.BoolOp op [a] pos) (tE B fa):=LU ha
theorem MY{rest:Bz}(ha:PE X a (tE B fa))(hb:PE X (.BoolOp .And (b::rest) pos) (tE B fb)):PE X (.BoolOp .And (a::b::rest) pos) (tE B (pL fa fb)):=aP (LV ha hb) λσ H Q z=>by
 obtain⟨g,s,t,s',x,h,k⟩:=z;obtain⟨⟨d,s1⟩,h1,h⟩:=ae h;obtain⟨d',h2,h⟩:=ae h;cases rH (aj h2);refine⟨g,s,_,s1,x,h1,λv g1 H1 p1 x1 r1=>⟨d',r1,?_⟩⟩;cases d' with
 |true=>exact ud ⟨g1,s1,_,_,x1,h,λw g2 H2 p2 x2 r2=>k w g2 H2 (p1.trans p2) x2 r2⟩
 |false=>cases h;exact uc (k _ g1 H1 p1 x1 rfl)
theorem MZ(ha:PE X a (tE B fa)):PE X (.UnaryOp .Not a pos) (tE B (pM fa)):=aP (LW ha) λσ H Q z=>by
 obtain⟨g,s,t,s',x,h,k⟩:=z;obtain⟨⟨d,s1⟩,h1,h⟩:=ae h;obtain⟨d',h2,h⟩:=ae h;cases rH (aj h2);cases h;exact⟨g,s,_,s1,x,h1,λv g1 H1 p1 x1 r1=>⟨d',r1,k _ g1 H1 p1 x1 rfl⟩⟩
theorem RS(hc:PT X c (tT B ft))(ha:PE X a (tE B fa))(hb:PE X b (tE B fb)):PE X (.IfExp c a b pos) (tE B (AN ft fa fb)):=aP (tR hc ha hb) λσ H Q z=>by
 obtain⟨g,s,t,s',x,h,k⟩:=z;obtain⟨⟨d,s1⟩,h1,h⟩:=ae h;refine⟨g,s,d,s1,x,h1,λg1 H1 p1 x1=>?_⟩;cases d with
 |true=>exact ud ⟨g1,s1,_,_,x1,h,λw g2 H2 p2 x2 r2=>k w g2 H2 (p1.trans p2) x2 r2⟩
 |false=>exact uc ⟨g1,s1,_,_,x1,h,λw g2 H2 p2 x2 r2=>k w g2 H2 (p1.trans p2) x2 r2⟩
theorem Dc{al:BM}{HF:Hp}{t:T}{k:Bool}{v:V}(h:Ha t=some k)(sm:aK HF H)(r:Rep B al HF t v):Mj B.K v H k:=by
 cases t<;>first|(cases h;done)|skip
 ·cases h;cases r;rfl
 ·cases h
  obtain⟨a,vs,rfl,q,rr⟩:=r;refine .inl ⟨vs,dh.of (sm _ _ q),?_⟩
  have:=rr.len
  rename_i xs;cases xs<;>cases vs<;>first|rfl|(cases this)
theorem KC(ha:PE X a (tE B fa))(hB:B.K=X.K)(he:∀fW,isTrue a X.env fW=(do let v <- fW;standAt a.pos;holding [v] (truthy v))):PT X a (tT B (tB fa)):=yE (Cr ha he) λσ H Q z=>by
 obtain⟨g,s,t,s',x,h,k⟩:=z;obtain⟨⟨d,s1⟩,h1,h⟩:=ae h;obtain⟨d',h2,h⟩:=ae h;cases h;exact⟨g,s,_,s1,x,h1,λv g1 H1 p1 x1 r1=>⟨_,hB▸Dc (aj h2) x1.sub r1,k g1 H1 p1 x1⟩⟩
section
theorem dP(l:B1):(⟨l.toArray⟩:Str).length=l.length:=by show l.toArray.size=_;simp
theorem W7{l:B1}(h:l.length<=1000000):(⟨l.toArray⟩:Str).length<=sizeLine:=by rw[dP,sizeLine_eq];omega
theorem M0(a b:B1):(⟨a.toArray⟩:Str)++⟨b.toArray⟩=⟨(a++b).toArray⟩:=by
 show(⟨a.toArray++b.toArray⟩:Str)=_;simp
def KD:R2:=λx y H Q=>Bp (λi j=>.int (i+j)) x y H Q\/(∃i j,x=.str i/\y=.str j/\i.length+j.length<=sizeLine/\Q (.str (i++j)) H)\/Q3 x y H Q
theorem Hg:fR X (binaryOp .Add) KD:=Mc.or (we.or Mw)
theorem RT:pQ X RA KD:=λB hB al HF H x y t tx ty Q sm rx ry h k=>by
 cases tx<;>first|(cases h;done)|(cases ty<;>first|(cases h;done)|skip)
 ·cases h;exact .inl ⟨_,_,rx,ry,k _ HF H (.refl sm) rfl⟩
 ·obtain⟨c,rfl⟩:=aW h
  obtain⟨rfl,_⟩:=rx;obtain⟨rfl,_⟩:=ry;refine .inr (.inl ⟨_,_,rfl,rfl,?_,?_⟩)
  ·rw[dP,dP,sizeLine_eq];omega
  ·rw[M0]
   exact k _ HF H (.refl sm) ⟨rfl,by rw[cK];omega⟩
 ·obtain⟨c,rfl⟩:=aW h
  obtain⟨l,xs,rfl,q,r⟩:=rx;obtain⟨m,ys,rfl,q',r'⟩:=ry;refine .inr (.inr ⟨l,m,xs,ys,rfl,rfl,sm _ _ q,sm _ _ q',by rw[<- r.len,<- r'.len,sizeLine_eq];omega,λp hp=>?_⟩)
  have gr:=Gr.new (o:=.lst (xs++ys)) sm hp;exact k _ _ _ gr ⟨p,_,rfl,ah,(r.app r').same gr.fr⟩
theorem RU{f:T->T->FR}{gg:Int->Int->V}{G:Int->Int->T}(hf:∀tx ty t,f tx ty=some t->∃i j,tx=.int i/\ty=.int j/\t=G i j)(hg:∀B al i j H,Rep B al H (G i j) (gg i j)):pQ X f (Bp gg):=λB hB al HF H x y t tx ty Q sm rx ry h k=>by
 obtain⟨i,j,rfl,rfl,rfl⟩:=hf _ _ _ h;exact⟨i,j,rx,ry,k _ HF H (.refl sm) (hg B al i j HF)⟩
theorem Dd{f:T->T->FR}{gg:Int->Int->V}{G:Int->Int->T}{C:Int->Int->Prop}(hf:∀tx ty t,f tx ty=some t->∃i j,tx=.int i/\ty=.int j/\t=G i j/\C i j)(hg:∀B al i j H,Rep B al H (G i j) (gg i j)):pQ X f (rI C gg):=λB hB al HF H x y t tx ty Q sm rx ry h k=>by
 obtain⟨i,j,rfl,rfl,rfl,c⟩:=hf _ _ _ h;exact⟨i,j,rx,ry,c,k _ HF H (.refl sm) (hg B al i j HF)⟩
theorem RV:pQ X RB (Bp λi j=>.int (i-j)):=RU (G:=λi j=>.int (i-j)) (λtx ty t h=>by
 cases tx<;>first | (cases h;done) | (cases ty<;>first | (cases h;done) | (cases h;exact⟨_,_,rfl,rfl,rfl⟩))) λ_ _ _ _ _=>rfl
theorem RW:pQ X G9 (rI QA λi j=>.int (i/j)):=Dd (G:=λi j=>.int (i/j)) (λtx ty t h=>by
 cases tx<;>first | (cases h;done) | (cases ty<;>first | (cases h;done) | (obtain⟨c,rfl⟩:=aW h;exact⟨_,_,rfl,rfl,rfl,c⟩))) λ_ _ _ _ _=>rfl
theorem RY:pQ X MN (rI (λ_ j=>0<j) λi j=>.int (i % j)):=Dd (G:=λi j=>.int (i % j)) (λtx ty t h=>by
 cases tx<;>first | (cases h;done) | (cases ty<;>first | (cases h;done) | (obtain⟨c,rfl⟩:=aW h;exact⟨_,_,rfl,rfl,rfl,c⟩))) λ_ _ _ _ _=>rfl
theorem RZ:pQ X MO (rI QC λi j=>.int (i^j.toNat)):=Dd (G:=λi j=>.int (i^j.toNat)) (λtx ty t h=>by
 cases tx<;>first | (cases h;done) | (cases ty<;>first | (cases h;done) | (obtain⟨c,rfl⟩:=aW h;exact⟨_,_,rfl,rfl,rfl,c⟩))) λ_ _ _ _ _=>rfl
def yF(i j:Int):Prop:=Mb i j\/(i.natAbs.log2<2000000/\j.natAbs.log2<2000000)
theorem qm{i:Int}(h:i.natAbs.log2<2000000):Builtin.Int.intBits i<=2000000:=by
 unfold Builtin.Int.intBits;split
 ·omega
 ·omega
theorem yF.ok{i j:Int}(h:yF i j):IntMulOk i j:=by
 rcases h with h|⟨h1,h2⟩
 ·exact h.ok
 ·have a:=qm h1
  have b:=qm h2;intro q;rw[cO]at q;have c:=of_decide_eq_true (show decide (((Builtin.Int.intBits i:Nat):Int)+(Builtin.Int.intBits j:Nat) > (bitsLine:Nat))=true from q.2);have d:(bitsLine:Nat)=134217728:=rfl;omega
theorem Hh:fR X (binaryOp .Mult) (rI yF λi j=>.int (i*j)):=Vg λ_ _ _ _ _ _ _ hc q=>PyProof.Rows.mul_int q hc.ok
def De:R2:=λx y H Q=>∃l k,x=SV l/\y=.int k/\(k=0\/k=1)/\l≠[]/\l.length<=1000000/\Q (SV (ck k.toNat l).flatten) H
theorem Df:fR X (binaryOp .Mult) De:=by
 intro aa s σ H x y v u Q I rx ry h;obtain⟨l,k,rfl,rfl,hk,ie,hz,q⟩:=h;obtain⟨t,rfl⟩:=rx;obtain⟨t',rfl⟩:=ry;have len:=dP l;have hsz:=sizeLine_eq;have aae:0<l.length:=List.length_pos_iff.mpr ie;refine PySem.P.mul_str (by rw[decide_eq_false (by omega),decide_eq_false (by omega)];rfl) (λhn _=>?_) (λ_ _=>?_) ?_
 ·intro R0
  rw[len]at R0;rcases hk with rfl|rfl<;>omega
 ·rw[len]
  unfold Builtin.Str.tooLong;exact decide_eq_false (by rcases hk with rfl|rfl<;>simp<;>omega)
 ·rcases hk with rfl|rfl
  ·rw[if_pos (by omega)]
   exact⟨by show 0<=_;omega,⟨SV [],H,I.tok _,⟨_,rfl⟩,q⟩⟩
  ·rw[if_neg (by omega),if_pos (by simp)]
   have e:(ck (Int.toNat 1) l).flatten=l:=by simp
   rw[e]at q;exact⟨SV l,H,I,⟨_,rfl⟩,q⟩
def KG:R2:=λx y H Q=>rI yF (λi j=>.int (i*j)) x y H Q\/Q5 x y H Q\/De x y H Q
theorem Hi:fR X (binaryOp .Mult) KG:=Hh.or (CO.or Df)
def KI:T->T->FR
 |.int i,.int j=>C3 (.int i) (.int j)
 |.lst a,.int k=>C3 (.lst a) (.int k)
 |.str l,.int k=>gd ((k=0\/k=1)/\l≠[]/\l.length<=1000000) (.str (ck k.toNat l).flatten)
 |_,_=>none
theorem R3:pQ X KI KG:=λB hB al HF H x y t tx ty Q sm rx ry h k=>by
 cases tx<;>first|(cases h;done)|(cases ty<;>first|(cases h;done)|skip)
 ·obtain⟨c,rfl⟩:=aW h
  exact .inl ⟨_,_,rx,ry,c,k _ HF H (.refl sm) rfl⟩
 ·obtain⟨c,rfl⟩:=aW h
  obtain⟨rfl,_⟩:=rx;refine .inr (.inr ⟨_,_,rfl,ry,c.1,c.2.1,c.2.2,k _ HF H (.refl sm) ⟨rfl,?_⟩⟩);rcases c.1 with e|e
  ·rw[e];simp
  ·rw[e];simpa using c.2.2
 ·obtain⟨c,rfl⟩:=aW h
  obtain⟨l,xs,rfl,q,r⟩:=rx;refine .inr (.inl ⟨l,_,xs,rfl,ry,sm _ _ q,by omega,by omega,by rw[<- r.len,sizeLine_eq];omega,λp hp=>?_⟩)
  exact k _ _ _ (Gr.new sm hp) ⟨p,_,rfl,ah,(r.flat _).same (aQ (sm.free hp))⟩
def dC:Operator->T->T->FR
 |.Add=>RA
 |.Sub=>RB
 |.Mult=>KI
 |.FloorDiv=>G9
 |.Mod=>MN
 |.Pow=>MO
 |_=>λ_ _=>none
theorem R4(hB:B.K=X.K)(op:Operator)(ha:PE X a (tE B fa))(hb:PE X b (tE B fb)):PE X (.BinOp a op b pos) (tE B (bo (dC op) fa fb)):=by
 have no:∀f:T->T->FR,(∀x y,f x y=none)->PE X (.BinOp a op b pos) (tE B (bo f fa fb)):=λf hf _ _ _ _ _ _ z=>by
  obtain⟨_,_,_,_,_,h,_⟩:=z;obtain⟨⟨tx,s1⟩,h1,h⟩:=ae h;obtain⟨⟨ty,s2⟩,h2,h⟩:=ae h;obtain⟨t',h3,h⟩:=ae h;rw[hf]at h3;cases h3
 cases op
 case Add=>exact aP (mQ Hg ha hb) (iR hB RT)
 case Sub=>exact aP (mQ Me ha hb) (iR hB RV)
 case Mult=>exact aP (mQ Hi ha hb) (iR hB R3)
 case FloorDiv=>exact aP (mQ GC ha hb) (iR hB RW)
 case Mod=>exact aP (mQ Mf ha hb) (iR hB RY)
 case Pow=>exact aP (mQ Mg ha hb) (iR hB RZ)
 all_goals exact no _ λ_ _=>rfl
theorem R5(hB:B.K=X.K)(ha:PE X a (tE B fa)):PE X (.UnaryOp .USub a pos) (tE B (du lL fa)):=
 aP (Qy Mh ha) (Kz hB λB hB al HF H x t tx Q sm rx h k=>by
  cases tx<;>first|(cases h;done)|skip
  cases h;exact⟨_,rx,k _ HF H (.refl sm) rfl⟩)
end
section
theorem dQ{B:KT}{al:BM}{H:Hp}{t:T}{v:V}(h:Rep B al H t v)(f:a_ t=true):d_ v=true:=by
 cases t with
 |non=>cases(show v=.non from h);rfl
 |bl b=>cases(show v=.bl b from h);rfl
 |int i=>cases(show v=.int i from h);rfl
 |str l=>obtain⟨rfl,_⟩:=h;rfl
 |tup _=>cases f
 |lst _=>cases f
 |scr _=>cases f
 |obj _ _=>cases f
 |own _=>cases f
 |dq _ _=>cases f
theorem str_beq(l m:B1):((⟨l.toArray⟩:Str) == ⟨m.toArray⟩)=decide (l=m):=by
 by_cases h:l=m
 ·subst h;simp
 ·rw[decide_eq_false h,beq_eq_false_iff_ne]
  intro e;injection e with e
  exact h (by simpa using e)
theorem jU{B:KT}{al:BM}{H:Hp}{t u:T}{v w:V}(h:Rep B al H t v)(h':Rep B al H u w)(f:a_ t=true)(f':a_ u=true):CK v w=eqT t u:=by
 cases t with
 |tup _=>cases f
 |lst _=>cases f
 |scr _=>cases f
 |obj _ _=>cases f
 |own _=>cases f
 |dq _ _=>cases f
 |non=>
  cases(show v=.non from h);cases u with
  |tup _=>cases f'
  |lst _=>cases f'
  |scr _=>cases f'
  |obj _ _=>cases f'
  |own _=>cases f'
  |dq _ _=>cases f'
  |non=>cases(show w=.non from h');rfl
  |bl b=>cases(show w=.bl b from h');rfl
  |int i=>cases(show w=.int i from h');rfl
  |str l=>obtain⟨rfl,_⟩:=h';rfl
 |bl b0=>
  cases(show v=.bl b0 from h);cases u with
  |tup _=>cases f'
  |lst _=>cases f'
  |scr _=>cases f'
  |obj _ _=>cases f'
  |own _=>cases f'
  |dq _ _=>cases f'
  |non=>cases(show w=.non from h');rfl
  |bl b=>cases(show w=.bl b from h');rfl
  |int i=>
   cases(show w=.int i from h');show((if b0 then 1 else 0) == i)=decide ((if b0 then 1 else 0:Int)=i)
   rw[B9]
  |str l=>obtain⟨rfl,_⟩:=h';rfl
 |int i0=>
  cases(show v=.int i0 from h);cases u with
  |tup _=>cases f'
  |lst _=>cases f'
  |scr _=>cases f'
  |obj _ _=>cases f'
  |own _=>cases f'
  |dq _ _=>cases f'
  |non=>cases(show w=.non from h');rfl
  |bl b=>
   cases(show w=.bl b from h');show(i0 == (if b then 1 else 0))=decide (i0=(if b then 1 else 0:Int))
   rw[B9]
  |int i=>
   cases(show w=.int i from h');show(i0 == i)=decide (i0=i);rw[B9]
  |str l=>obtain⟨rfl,_⟩:=h';rfl
 |str l0=>
  obtain⟨rfl,_⟩:=h;cases u with
  |tup _=>cases f'
  |lst _=>cases f'
  |scr _=>cases f'
  |obj _ _=>cases f'
  |own _=>cases f'
  |dq _ _=>cases f'
  |non=>cases(show w=.non from h');rfl
  |bl b=>cases(show w=.bl b from h');rfl
  |int i=>cases(show w=.int i from h');rfl
  |str l=>obtain⟨rfl,_⟩:=h';exact str_beq _ _
theorem jV{aa:c7}{σ:St}{H HF:Hp}{s:Shared}{a:Addr}{vs:List V}(I:Inv X aa σ H s)(sm:aK HF H)(h:k7 X.K HF a vs):∃its:B2,Vals vs its/\s.heap.IsTuple a its.toArray:=by
 obtain⟨its,r,ht,hz⟩:=I.tuple (xs:=vs) (bM sm h);exact⟨its,r,ht⟩
theorem jW{aa:c7}{σ:St}{H HF:Hp}{s:Shared}{a:Addr}{vs:List V}(I:Inv X aa σ H s)(sm:aK HF H)(h:HF a=some (.lst vs)):∃its:B2,Vals vs its/\s.heap.IsList a its.toArray:=by
 obtain⟨its,r,p,hz⟩:=I.list (dh.of (sm _ _ h));exact⟨its,r,p.isList⟩
theorem Dg{v:V}(f:d_ v=true):CK v v=true:=by
 cases v<;>first|(cases f;done)|rfl|(show(_ == _)=true;exact beq_self_eq_true _)
theorem kI{n:Nat}{ks:List Ky}{ts:FK}{u:T}(h:shape (n+1) (.dq ks ts) u=true):ks=[]/\ts=[]/\u=.dq [] []:=by
 cases ks<;>cases ts<;>cases u<;>first|(cases h;done)|(rename_i ls us;cases ls<;>cases us<;>first|(cases h;done)|exact⟨rfl,rfl,rfl⟩)
theorem jX{P P':Program}{w w':World}{h:Heap}{a:Addr}(d:h.DictOf (bw P w) a []):h.DictOf (bw P' w') a []:=by
 obtain⟨o,es,ep,h1,h2,h3,h4,h5,h6⟩:=d;obtain⟨l⟩:=es;cases l with
 |nil=>exact⟨o,_,ep,h1,h2,h3,λe he=>by simp at he,.nil,h6⟩
 |cons x l=>cases h5
theorem Dh{aa:c7}{σ:St}{H HF:Hp}{s:Shared}{A:Around}{a b:Addr}(I:Inv X aa σ H s)(sm:aK HF H)(q:HF a=some (.dK []))(q':HF b=some (.dK []))(hu:A.units<cLine):SeqAt.RcAt A s (.ref a) (.ref b) true/\SeqAt.RcNeAt A s (.ref a) (.ref b) false:=by
 obtain⟨_,s1,vs,k1,d1⟩:=(show bQ X.prog X.w H s.heap a (.dK [])from I.bx a _ (sm _ _ q));obtain⟨_,s2,ws,k2,d2⟩:=(show bQ X.prog X.w H s.heap b (.dK [])from I.bx b _ (sm _ _ q'));cases k1;cases k2;exact⟨λP w E Q h=>PySem.W.keq_eq s1 s2 (jX d1) (jX d2) hu (λ_=>.nil) h,λP w E Q h=>PySem.W.keq_ne s1 s2 (jX d1) (jX d2) hu (λ_=>.nil) h⟩
theorem Di(t u:T):shape 0 t u=(a_ t&&a_ u):=rfl
theorem yG{al:BM}(hB:B.K=X.K){aa:c7}{σ:St}{H HF:Hp}{s:Shared}(I:Inv X aa σ H s)(sm:aK HF H)(n:Nat):∀{t u:T}{v:V},Rep B al HF t v->Rep B al HF u v->shape n t u=true->eqT t u=true:=by
 have flat:∀{t u:T}{v:V},Rep B al HF t v->Rep B al HF u v->(a_ t&&a_ u)=true->eqT t u=true:=λh h' f=>by
  obtain⟨f1,f2⟩:=tF.mp f;rw[<- jU h h' f1 f2];exact Dg (dQ h f1)
 induction n with
 |zero=>exact λ{t u v} h h' sh=>flat h h' ((Di t u).symm.trans sh)
 |succ n ih=>
  intro t u v h h' sh;have items:∀{ts us:FK}{vs:List V},az B al HF ts vs->az B al HF us vs->all2 (shape n) ts us=true->iO ts us=true:=by
   intro ts
   induction ts with
   |nil=>intro us vs h h' _;cases(show vs=[]from h);cases us with
    |nil=>rfl
    |cons u us=>obtain⟨_,_,e,_⟩:=h';cases e
   |cons t ts iht=>intro us vs h h' sh;cases us with
    |nil=>obtain⟨_,_,e,_⟩:=h;cases(show vs=[]from h');cases e
    |cons u us=>
     obtain⟨v,r,rfl,h1,h2⟩:=h;obtain⟨v',r',e,R6,FY⟩:=h';cases e;obtain⟨sh1,sh2⟩:=tF.mp (show(shape n t u&&all2 (shape n) ts us)=true from sh);show(eqT t u&&iO ts us)=true;rw[ih h1 R6 sh1,iht h2 FY sh2];rfl
  cases t with
  |tup ts=>
   cases u with
   |tup us=>
    obtain⟨a,vs,rfl,q,r⟩:=h;obtain⟨a',fS,e,q',r'⟩:=h';cases e;have ev:=I.p_ (bM sm (hB▸q)) (bM sm (hB▸q'));subst ev;exact items r r' sh
   |_=>exact flat h h' sh
  |lst ts=>
   cases u with
   |lst us=>
    obtain⟨a,vs,rfl,q,r⟩:=h;obtain⟨a',fS,e,q',r'⟩:=h';cases e;rw[q]at q';cases q';exact items r r' sh
   |_=>exact flat h h' sh
  |dq ks ts=>
   obtain⟨rfl,rfl,rfl⟩:=kI sh;rfl
  |_=>exact flat h h' (by cases u<;>exact sh)
theorem uu{p:T->T->Bool}:∀{as bs:FK},all2 p as bs=true->∀{j:Nat}{a b:T},as[j]?=some a->bs[j]?=some b->p a b=true
 |a::as,b::bs,h,0,_,_,e1,e2=>by
  simp at e1 e2;subst e1 e2;exact(tF.mp h).1
 |a::as,b::bs,h,j+1,_,_,e1,e2=>uu (tF.mp h).2 (j:=j) (by simpa using e1) (by simpa using e2)
 |[],_,_,_,_,_,e1,_=>by simp at e1
 |_::_,[],_,_,_,_,_,e2=>by simp at e2
theorem fF:∀(xs ys:FK),((dZ (min xs.length ys.length)).all (λj=>eqT (xs.getD j .non) (ys.getD j .non))&&xs.length == ys.length)=iO xs ys
 |[],[]=>rfl
 |[],_::_=>by simp[iO]
 |_::_,[]=>by simp[iO]
 |x::xs,y::ys=>by
  have ih:=fF xs ys;rw[bz,bz,Nat.succ_min_succ,BN,e9,JD];have e:(xs.length+1 == ys.length+1)=(xs.length == ys.length):=by
   by_cases h:xs.length=ys.length<;>simp[h]
  rw[e];show((eqT x y&&(dZ (min xs.length ys.length)).all λj=>eqT (xs.getD j .non) (ys.getD j .non))&&_)=(eqT x y&&iO xs ys);rw[<- ih,Bool.and_assoc]
theorem nE:∀{xs ys:FK},xs.length≠ys.length->iO xs ys=false
 |[],[],h=>absurd rfl h
 |[],_::_,_=>rfl
 |_::_,[],_=>rfl
 |x::xs,y::ys,h=>by
  show(eqT x y&&iO xs ys)=false;rw[nE (λe=>h (by simp[e])),B_]
theorem in1_units(A:Around):A.in1.units=A.units+1:=rfl
theorem jY{al:BM}{HF:Hp}{A:Around}{s:Shared}{ts us:FK}{vs ws:List V}{its its':B2}{n:Nat}(r:az B al HF ts vs)(r':az B al HF us ws)(rv:Vals vs its)(yH:Vals ws its')(sh:all2 (shape n) ts us=true)
  (ih:∀{t u:T}{v w:V}{x y:Value},Rep B al HF t v->Rep B al HF u w->RelV v x->RelV w y->shape n t u=true->SeqAt.EqAt A s x y (eqT t u)) :
  ∀j(h1:j<its.toArray.size)(h2:j<its'.toArray.size),SeqAt.EqAt A s its.toArray[j] its'.toArray[j] ((λj=>eqT (ts.getD j .non) (us.getD j .non)) j):=by
 intro j h1 h2;have l1:=rv.length;have l2:=yH.length;have l3:=r.len;have l4:=r'.len;have R6:j<ts.length:=by rw[l3,l1];simpa using h1
 have FY:j<us.length:=by rw[l4,l2];simpa using h2
 obtain⟨v,e1,q1⟩:=r.get (b8 R6);obtain⟨w,e2,q2⟩:=r'.get (b8 FY);obtain⟨x,e3,q3⟩:=rv.get e1;obtain⟨y,e4,q4⟩:=yH.get e2;have q5:its.toArray[j]=x:=by
  obtain⟨_,z⟩:=dc.mp e3;simpa using z
 have q6:its'.toArray[j]=y:=by
  obtain⟨_,z⟩:=dc.mp e4;simpa using z
 rw[q5,q6];have g1:ts.getD j .non=ts[j]:=by rw[fj,b8 R6];rfl
 have g2:us.getD j .non=us[j]:=by rw[fj,b8 FY];rfl
 show SeqAt.EqAt A s x y (eqT (ts.getD j .non) (us.getD j .non));rw[g1,g2];exact ih q1 q2 q3 q4 (uu sh (b8 R6) (b8 FY))
theorem Hj{al:BM}(hB:B.K=X.K){aa:c7}{σ:St}{H HF:Hp}{s:Shared}(I:Inv X aa σ H s)(sm:aK HF H)(n:Nat):∀(A:Around){t u:T}{v w:V}{x y:Value},A.units+n<cLine->Rep B al HF t v->Rep B al HF u w->RelV v x->RelV w y->shape n t u=true->SeqAt.EqAt A s x y (eqT t u):=by
 induction n with
 |zero=>
  intro A t u v w x y hu rt ru rx ry sh;have sh:=(Di t u).symm.trans sh;obtain⟨f1,f2⟩:=tF.mp sh;rw[<- jU rt ru f1 f2];exact wB rx ry (dQ rt f1) (dQ ru f2)
 |succ n ih=>
  intro A t u v w x y hu rt ru rx ry sh;have flat:(a_ t&&a_ u)=true->SeqAt.EqAt A s x y (eqT t u):=λsh=>by
   obtain⟨f1,f2⟩:=tF.mp sh;rw[<- jU rt ru f1 f2];exact wB rx ry (dQ rt f1) (dQ ru f2)
  cases t with
  |tup ts=>
   cases u with
   |tup us=>
    obtain⟨a,vs,rfl,q,r⟩:=id rt;obtain⟨b,ws,rfl,q',r'⟩:=id ru;cases rx;cases ry;by_cases hab:a=b
    ·subst hab
     rw[yG hB I sm (n+1) rt ru sh];exact SeqAt.EqAt.same _
    obtain⟨its,rv,ht⟩:=jV I sm (hB▸q);obtain⟨its',yH,Br⟩:=jV I sm (hB▸q');have z:=SeqAt.RcAt.tuples ht Br (ye (vX _ _) hu) (jY (A:=A.in1) r r' rv yH sh (λa b c d e=>ih A.in1 (by rw[in1_units];omega) a b c d e))
    rw[bX,bX,<- rv.length,<- yH.length,<- r.len,<- r'.len,fF]at z;exact .of_refs hab z
   |_=>exact flat sh
  |lst ts=>
   cases u with
   |lst us=>
    obtain⟨a,vs,rfl,q,r⟩:=id rt;obtain⟨b,ws,rfl,q',r'⟩:=id ru;cases rx;cases ry;by_cases hab:a=b
    ·subst hab
     rw[yG hB I sm (n+1) rt ru sh];exact SeqAt.EqAt.same _
    obtain⟨its,rv,ht⟩:=jW I sm q;obtain⟨its',yH,Br⟩:=jW I sm q';have l1:=rv.length;have l2:=yH.length;have l3:=r.len;have l4:=r'.len;by_cases hsz:ts.length=us.length
    ·have z:=SeqAt.RcAt.lists ht Br (by rw[bX,bX];omega) (ye (vX _ _) hu) (jY (A:=A.in1) r r' rv yH sh (λa b c d e=>ih A.in1 (by rw[in1_units];omega) a b c d e))
     have e:=fF ts us;rw[<- hsz,B6,beq_self_eq_true,tG]at e;rw[bX,<- l1,<- l3,e]at z;exact .of_refs hab z
    ·have z:=SeqAt.RcAt.lists_lengths (s:=s) (A:=A) ht Br (by rw[bX,bX,bne_iff_ne];omega) (ye (vX _ _) hu)
     rw[<- nE hsz]at z;exact .of_refs hab z
   |_=>exact flat sh
  |dq ks ts=>
   obtain⟨rfl,rfl,rfl⟩:=kI sh;obtain⟨a,vs,rfl,q,_,r⟩:=rt;obtain⟨b,ws,rfl,q',_,r'⟩:=ru;cases(show vs=[]from r);cases(show ws=[]from r');cases rx;cases ry;by_cases hab:a=b
   ·subst hab
    exact SeqAt.EqAt.same _
   ·exact .of_refs hab (Dh I sm q q' (ye (vX _ _) hu)).1
  |_=>exact flat (by cases u<;>exact sh)
theorem Hk{al:BM}{HF:Hp}{A:Around}{s:Shared}{t u:T}{v w:V}{x y:Value}(rt:Rep B al HF t v)(ru:Rep B al HF u w)(rx:RelV v x)(ry:RelV w y)(f1:a_ t=true)(f2:a_ u=true):SeqAt.RcAt A s x y (eqT t u)/\SeqAt.RcNeAt A s x y (!eqT t u):=by
 rw[<- jU rt ru f1 f2];have g1:=dQ rt f1;have g2:=dQ ru f2;cases v with
 |non=>
  cases rx;cases w with
  |non=>cases ry;exact⟨SeqAt.RcAt.none_none,SeqAt.RcNeAt.none_none⟩
  |bl b=>cases ry;exact⟨SeqAt.RcAt.none_bool b,SeqAt.RcNeAt.none_bool b⟩
  |int b=>obtain⟨t,rfl⟩:=ry;exact⟨SeqAt.RcAt.none_int b t,SeqAt.RcNeAt.none_int b t⟩
  |str b=>obtain⟨t,rfl⟩:=ry;exact⟨SeqAt.RcAt.none_str b t,SeqAt.RcNeAt.none_str b t⟩
  |_=>exact absurd (show false=true from g2) bZ
 |bl a=>
  cases rx;cases w with
  |non=>cases ry;exact⟨SeqAt.RcAt.bool_none a,SeqAt.RcNeAt.bool_none a⟩
  |bl b=>cases ry;exact⟨SeqAt.RcAt.bool_bool a b,SeqAt.RcNeAt.bool_bool a b⟩
  |int b=>obtain⟨t,rfl⟩:=ry;exact⟨SeqAt.RcAt.bool_int a b t,SeqAt.RcNeAt.bool_int a b t⟩
  |str b=>obtain⟨t,rfl⟩:=ry;exact⟨SeqAt.RcAt.bool_str a b t,SeqAt.RcNeAt.bool_str a b t⟩
  |_=>exact absurd (show false=true from g2) bZ
 |int a=>
  obtain⟨t',rfl⟩:=rx;cases w with
  |non=>cases ry;exact⟨SeqAt.RcAt.int_none a t',SeqAt.RcNeAt.int_none a t'⟩
  |bl b=>cases ry;exact⟨SeqAt.RcAt.int_bool a t' b,SeqAt.RcNeAt.int_bool a t' b⟩
  |int b=>obtain⟨t,rfl⟩:=ry;exact⟨SeqAt.RcAt.int_int a t' b t,SeqAt.RcNeAt.int_int a t' b t⟩
  |str b=>obtain⟨t,rfl⟩:=ry;exact⟨SeqAt.RcAt.int_str a t' b t,SeqAt.RcNeAt.int_str a t' b t⟩
  |_=>exact absurd (show false=true from g2) bZ
 |str a=>
  obtain⟨t',rfl⟩:=rx;cases w with
  |non=>cases ry;exact⟨SeqAt.RcAt.str_none a t',SeqAt.RcNeAt.str_none a t'⟩
  |bl b=>cases ry;exact⟨SeqAt.RcAt.str_bool a t' b,SeqAt.RcNeAt.str_bool a t' b⟩
  |int b=>obtain⟨t,rfl⟩:=ry;exact⟨SeqAt.RcAt.str_int a t' b t,SeqAt.RcNeAt.str_int a t' b t⟩
  |str b=>obtain⟨t,rfl⟩:=ry;exact⟨SeqAt.RcAt.str_str a t' b t,SeqAt.RcNeAt.str_str a t' b t⟩
  |_=>exact absurd (show false=true from g2) bZ
 |_=>exact absurd (show false=true from g1) bZ
theorem Dj{al:BM}(hB:B.K=X.K){aa:c7}{σ:St}{H HF:Hp}{s:Shared}(I:Inv X aa σ H s)(sm:aK HF H)(A:Around){t u:T}{v w:V}{x y:Value}(hu:A.units+6<cLine)(rt:Rep B al HF t v)(ru:Rep B al HF u w)(rx:RelV v x)(ry:RelV w y)(sh:shape 5 t u=true) :
  SeqAt.RcAt A s x y (eqT t u)/\SeqAt.RcNeAt A s x y (!eqT t u):=by
 have flat:(a_ t&&a_ u)=true->SeqAt.RcAt A s x y (eqT t u)/\SeqAt.RcNeAt A s x y (!eqT t u):=λsh=>by
  obtain⟨f1,f2⟩:=tF.mp sh;exact Hk rt ru rx ry f1 f2
 have Dk:A.units<cLine:=by omega
 have dp:=λ{t u:T} {v w:V} {x y:Value} (a:Rep B al HF t v) (b:Rep B al HF u w) (c:RelV v x) (d:RelV w y) (e:shape 4 t u=true)=>Hj hB I sm 4 A.in1 (by rw[in1_units];omega) a b c d e
 cases t with
 |tup ts=>
  cases u with
  |tup us=>
   obtain⟨a,vs,rfl,q,r⟩:=id rt;obtain⟨b,ws,rfl,q',r'⟩:=id ru;cases rx;cases ry;obtain⟨its,rv,ht⟩:=jV I sm (hB▸q);obtain⟨its',yH,Br⟩:=jV I sm (hB▸q');have it:=jY (A:=A.in1) (s:=s) r r' rv yH sh dp;have z:=SeqAt.RcAt.tuples ht Br Dk it;have z2:=SeqAt.RcNeAt.tuples ht Br Dk it;rw[bX,bX,<- rv.length,<- yH.length,<- r.len,<- r'.len,fF]at z z2;exact⟨z,z2⟩
  |_=>exact flat sh
 |lst ts=>
  cases u with
  |lst us=>
   obtain⟨a,vs,rfl,q,r⟩:=id rt;obtain⟨b,ws,rfl,q',r'⟩:=id ru;cases rx;cases ry;obtain⟨its,rv,ht⟩:=jW I sm q;obtain⟨its',yH,Br⟩:=jW I sm q';have l1:=rv.length;have l2:=yH.length;have l3:=r.len;have l4:=r'.len;by_cases hsz:ts.length=us.length
   ·have it:=jY (A:=A.in1) (s:=s) r r' rv yH sh dp
    have hs:its.toArray.size=its'.toArray.size:=by rw[bX,bX];omega
    have z:=SeqAt.RcAt.lists ht Br hs Dk it;have z2:=SeqAt.RcNeAt.lists ht Br hs Dk it;have e:=fF ts us;rw[<- hsz,B6,beq_self_eq_true,tG]at e;rw[bX,<- l1,<- l3,e]at z z2;exact⟨z,z2⟩
   ·have hs:(its.toArray.size != its'.toArray.size)=true:=by rw[bX,bX,bne_iff_ne];omega
    have z:=SeqAt.RcAt.lists_lengths (s:=s) (A:=A) ht Br hs Dk;have z2:=SeqAt.RcNeAt.lists_lengths (s:=s) (A:=A) ht Br hs Dk;have e:eqT (.lst ts) (.lst us)=false:=nE hsz;rw[e];exact⟨z,z2⟩
  |_=>exact flat sh
 |dq ks ts=>
  obtain⟨rfl,rfl,rfl⟩:=kI sh;obtain⟨a,vs,rfl,q,_,r⟩:=rt;obtain⟨b,ws,rfl,q',_,r'⟩:=ru;cases(show vs=[]from r);cases(show ws=[]from r');cases rx;cases ry;exact Dh I sm q q' Dk
 |_=>exact flat (by cases u<;>exact sh)
theorem M1(hu:X.A.units+6<cLine):fR X (compareOp .Eq) (λx y H Q=>∃B al HF t u,B.K=X.K/\aK HF H/\Rep B al HF t x/\Rep B al HF u y/\shape 5 t u=true/\Q (.bl (eqT t u)) H):=by
 intro aa s σ H x y v u Q I rx ry h;obtain⟨B,al,HF,t,u',hB,sm,rt,ru,sh,q⟩:=h;exact(Dj hB I sm X.A hu rt ru rx ry sh).1 _ _ _ _ (iG I q rfl)
theorem M3(hu:X.A.units+6<cLine):fR X (compareOp .NotEq) (λx y H Q=>∃B al HF t u,B.K=X.K/\aK HF H/\Rep B al HF t x/\Rep B al HF u y/\shape 5 t u=true/\Q (.bl (!eqT t u)) H):=by
 intro aa s σ H x y v u Q I rx ry h;obtain⟨B,al,HF,t,u',hB,sm,rt,ru,sh,q⟩:=h;exact(Dj hB I sm X.A hu rt ru rx ry sh).2 _ _ _ _ (iG I q rfl)
theorem Dl:fR X (compareOp .Is) (λx y H Q=>∃a b,x=.bl a/\y=.bl b/\Q (.bl (a == b)) H):=by
 intro aa s σ H x y v u Q I rx ry h;obtain⟨a,b,rfl,rfl,q⟩:=h;cases rx;cases ry;exact PyProof.Rows.is_bool (iG I q rfl)
theorem uv{B:KT}{al:BM}{H:Hp}:∀{ts:FK}{vs:List V},az B al H ts vs->ts.all a_=true->vs.all d_=true
 |[],_,h,_=>by cases(show _=[]from h);rfl
 |t::ts,_,h,f=>by
  obtain⟨v,r,rfl,h1,h2⟩:=h;rw[e9,cO]at f;rw[e9,dQ h1 f.1,uv h2 f.2];rfl
theorem any_eq{B:KT}{al:BM}{H:Hp}{x:T}{xv:V}(hx:Rep B al H x xv)(fx:a_ x=true):∀{ts:FK}{vs:List V},az B al H ts vs->ts.all a_=true->(vs.any λy=>CK y xv)=ts.any λy=>eqT y x
 |[],_,h,_=>by cases(show _=[]from h);rfl
 |t::ts,_,h,f=>by
  obtain⟨v,r,rfl,h1,h2⟩:=h;rw[e9,cO]at f;rw[qN,qN,jU h1 hx f.1 fx,any_eq hx fx h2 f.2]
theorem wK{α:Type}(xs:List α)(i:Int):atT xs i=CJ xs i:=by
 unfold atT CJ GQ;by_cases h0:0<=i
 ·rw[if_pos h0,if_pos h0]
  by_cases h1:i<xs.length
  ·rw[if_pos h1,if_pos h1];rfl
  ·rw[if_neg h1,if_neg h1];rfl
 ·rw[if_neg h0,if_neg h0]
  by_cases h1:-(xs.length:Int)<=i
  ·rw[if_pos h1,if_pos h1];rfl
  ·rw[if_neg h1,if_neg h1];rfl
theorem rJ{B:KT}{al:BM}{H:Hp}{ts:FK}{vs:List V}{i:Int}{t:T}(r:az B al H ts vs)(h:atT ts i=some t):∃v,CJ vs i=some v/\Rep B al H t v:=by
 rw[wK]at h;unfold CJ at h ⊢;rw[<- r.len];cases e:GQ ts.length i with
 |none=>rw[e]at h;cases h
 |some j=>
  rw[e]at h;exact r.get h
end
section
variable{p2:Pos}{W8 W9:FO}{W_ Xa:Option Expr}
def M4:T->Bool
 |.non=>true
 |_=>false
theorem Dm{al:BM}{H:Hp}{t:T}{v:V}(h:Rep B al H t v):decide (v=.non)=M4 t:=by
 cases t with
 |non=>cases(show v=.non from h);rfl
 |bl b=>cases(show v=.bl b from h);rfl
 |int i=>cases(show v=.int i from h);rfl
 |str l=>obtain⟨rfl,_⟩:=h;rfl
 |tup ts=>obtain⟨a,vs,rfl,_⟩:=h;rfl
 |lst ts=>obtain⟨a,vs,rfl,_⟩:=h;rfl
 |scr ts=>obtain⟨a,rfl,_⟩:=h;rfl
 |obj _ _=>obtain⟨a,_,_,_,_,rfl,_⟩:=h;rfl
 |own _=>obtain⟨a,rfl,_⟩:=h;rfl
 |dq _ _=>obtain⟨a,xs,rfl,_⟩:=h;rfl
def rIs:R2:=λx y H Q=>(y=.non/\Q (.bl (decide (x=.non))) H)\/∃a b,x=.bl a/\y=.bl b/\Q (.bl (a == b)) H
def Xb:R2:=λx y H Q=>(y=.non/\Q (.bl (!decide (x=.non))) H)\/∃a b,x=.bl a/\y=.bl b/\Q (.bl (a != b)) H
theorem Hl{tx ty t:T}(h:WZ tx ty=some t):(ty=.non/\t=.bl (M4 tx))\/∃a b,tx=.bl a/\ty=.bl b/\t=.bl (a == b):=by
 cases tx<;>cases ty<;>first|(cases h;done)|(cases h;exact .inl ⟨rfl,rfl⟩)|(cases h;exact .inr ⟨_,_,rfl,rfl,rfl⟩)
theorem Dn{tx ty t:T}(h:MP tx ty=some t):(ty=.non/\t=.bl (!M4 tx))\/∃a b,tx=.bl a/\ty=.bl b/\t=.bl (a != b):=by
 cases tx<;>cases ty<;>first|(cases h;done)|(cases h;exact .inl ⟨rfl,rfl⟩)|(cases h;exact .inr ⟨_,_,rfl,rfl,rfl⟩)
theorem Xc:pQ X WZ rIs:=λB hB al HF H x y t tx ty Q sm rx ry h k=>by
 rcases Hl h with⟨rfl,rfl⟩|⟨a,b,rfl,rfl,rfl⟩
 ·exact .inl ⟨ry,by rw[Dm rx];exact k _ HF H (.refl sm) rfl⟩
 ·exact .inr ⟨a,b,rx,ry,k _ HF H (.refl sm) rfl⟩
theorem R7:pQ X MP Xb:=λB hB al HF H x y t tx ty Q sm rx ry h k=>by
 rcases Dn h with⟨rfl,rfl⟩|⟨a,b,rfl,rfl,rfl⟩
 ·exact .inl ⟨ry,by rw[Dm rx];exact k _ HF H (.refl sm) rfl⟩
 ·exact .inr ⟨a,b,rx,ry,k _ HF H (.refl sm) rfl⟩
def uw(K:bu)(neg:Bool):R2:=λx y H Q=>(∃i j,x=.str i/\y=.str j/\Q (.bl (if neg then(!(!(Builtin.Str.occurrences j i 0 j.length 1).isEmpty))else(!(Builtin.Str.occurrences j i 0 j.length 1).isEmpty))) H)\/Vj K neg x y H Q
theorem Dp:fR X (compareOp .In) (uw X.K false):=Aq.or Ay
theorem yI:fR X (compareOp .NotIn) (uw X.K true):=rj.or rB
theorem Hm{tx ty:T}{k:Bool}(h:MQ tx ty=some k):(∃x l,tx=.str x/\ty=.str l/\k=RC x l)\/((∃ys,(ty=.tup ys\/ty=.lst ys)/\(a_ tx=true/\ys.all a_=true)/\k=ys.any λy=>eqT y tx)):=by
 cases ty with
 |str l=>
  cases tx with
  |str m=>cases h;exact .inl ⟨m,l,rfl,rfl,rfl⟩
  |_=>cases h
 |tup ys=>
  have h:gd (a_ tx=true/\ys.all a_=true) (ys.any λy=>eqT y tx)=some k:=by cases tx<;>exact h
  obtain⟨c,rfl⟩:=aW h;exact .inr ⟨ys,.inl rfl,c,rfl⟩
 |lst ys=>
  have h:gd (a_ tx=true/\ys.all a_=true) (ys.any λy=>eqT y tx)=some k:=by cases tx<;>exact h
  obtain⟨c,rfl⟩:=aW h;exact .inr ⟨ys,.inr rfl,c,rfl⟩
 |_=>cases tx<;>cases h
theorem rK(x l:B1):(!(Builtin.Str.occurrences (⟨l.toArray⟩:Str) ⟨x.toArray⟩ 0 (⟨l.toArray⟩:Str).length 1).isEmpty)=(dZ (l.length+1)).any λi=>decide (i+x.length<=l.length)&&((l.drop i).take x.length == x):=by
 rw[Cb,StrLaws.found_iff,xZ];constructor
 ·rintro⟨i,h1,h2⟩
  rw[StrLaws.subAt_eq,dP]at h2;rw[dP,dP]at h1;exact⟨i,gj.mpr (by omega),by rw[decide_eq_true h1,Ae];exact h2⟩
 ·rintro⟨i,_,h⟩
  rw[cO,decide_eq_true_iff]at h;exact⟨i,by rw[dP,dP];exact h.1,by rw[StrLaws.subAt_eq,dP];exact h.2⟩
theorem yJ(x l:B1):(!(Builtin.Str.occurrences (⟨l.toArray⟩:Str) ⟨x.toArray⟩ 0 (⟨l.toArray⟩:Str).length 1).isEmpty)=RC x l:=by
 match x with
 |[]=>exact rK ..
 |[c]=>exact StrLaws.found_one ..
 |_::_::_=>exact rK ..
theorem Dq{neg:Bool}{B:KT}(hB:B.K=X.K){al:BM}{HF H:Hp}{x y:V}{tx ty:T}{k:Bool}{Q:VK}(sm:aK HF H)(rx:Rep B al HF tx x)(ry:Rep B al HF ty y)(h:MQ tx ty=some k)(q:Q (.bl (if neg then !k else k)) H):uw X.K neg x y H Q:=by
 rcases Hm h with⟨x,l,rfl,rfl,rfl⟩|⟨ys,hy,⟨f1,f2⟩,rfl⟩
 ·obtain⟨rfl,_⟩:=rx
  obtain⟨rfl,_⟩:=ry;refine .inl ⟨_,_,rfl,rfl,?_⟩;rw[yJ];exact q
 ·right
  have main:∀a vs,y=.ref a->(dh X.K H a vs\/k7 X.K H a vs)->az B al HF ys vs->Vj X.K neg x y H Q:=λa vs ey sq r=>by
   refine⟨a,vs,ey,sq,dQ rx f1,uv r f2,?_⟩;unfold Wm;rw[any_eq rx f1 r f2];exact q
  rcases hy with rfl|rfl
  ·obtain⟨a,vs,rfl,q1,r⟩:=ry
   exact main a vs rfl (.inr (hB▸bM sm q1)) r
  ·obtain⟨a,vs,rfl,q1,r⟩:=ry
   exact main a vs rfl (.inl (dh.of (sm _ _ q1))) r
theorem Xd:pQ X inD (uw X.K false):=λB hB al HF H x y t tx ty Q sm rx ry h k=>by
 unfold inD at h;cases e:MQ tx ty with
 |none=>rw[e]at h;cases h
 |some d=>rw[e]at h;cases h;exact Dq hB sm rx ry e (k _ HF H (.refl sm) rfl)
theorem R8:pQ X MR (uw X.K true):=λB hB al HF H x y t tx ty Q sm rx ry h k=>by
 unfold MR at h;cases e:MQ tx ty with
 |none=>rw[e]at h;cases h
 |some d=>rw[e]at h;cases h;exact Dq hB sm rx ry e (k _ HF H (.refl sm) rfl)
def R9(X:Cx)(neg:Bool):R2:=λx y H Q=>∃B al HF t u,B.K=X.K/\aK HF H/\Rep B al HF t x/\Rep B al HF u y/\shape 5 t u=true/\Q (.bl (if neg then !eqT t u else eqT t u)) H
theorem Xe:pQ X WU (R9 X false):=λB hB al HF H x y t tx ty Q sm rx ry h k=>by
 obtain⟨c,rfl⟩:=aW h;exact⟨B,al,HF,tx,ty,hB,sm,rx,ry,c,k _ HF H (.refl sm) rfl⟩
theorem Xf:pQ X WW (R9 X true):=λB hB al HF H x y t tx ty Q sm rx ry h k=>by
 obtain⟨c,rfl⟩:=aW h;exact⟨B,al,HF,tx,ty,hB,sm,rx,ry,c,k _ HF H (.refl sm) rfl⟩
theorem yK(f:Int->Int->Bool):pQ X (C4 f) (Bp λi j=>.bl (f i j)):=RU (G:=λi j=>.bl (f i j)) (λtx ty t h=>by
 cases tx<;>first | (cases h;done) | (cases ty<;>first | (cases h;done) | (cases h;exact⟨_,_,rfl,rfl,rfl⟩))) λ_ _ _ _ _=>rfl
def Hn:CmpOp->T->T->FR
 |.Eq=>WU
 |.NotEq=>WW
 |.Lt=>C4 λi j=>decide (i<j)
 |.LtE=>C4 λi j=>decide (i<=j)
 |.Gt=>C4 λi j=>decide (j<i)
 |.GtE=>C4 λi j=>decide (j<=i)
 |.Is=>WZ
 |.IsNot=>MP
 |.In=>inD
 |.NotIn=>MR
theorem M5{op:CmpOp}{k:Nat}(hr:bC k X.A):∃r,fR X (compareOp op) r/\pQ X (Hn op) r:=by
 have hu:X.A.units+6<cLine:=by have:=hr.units;omega
 cases op
 case Eq=>exact⟨_,M1 hu,Xe⟩
 case NotEq=>exact⟨_,M3 hu,Xf⟩
 case Lt=>exact⟨_,QD,yK _⟩
 case LtE=>exact⟨_,QE,yK _⟩
 case Gt=>exact⟨_,QF,yK _⟩
 case GtE=>exact⟨_,QG,yK _⟩
 case Is=>exact⟨_,Mi.or Dl,Xc⟩
 case IsNot=>exact⟨_,GD.or uf,R7⟩
 case In=>exact⟨_,Dp,Xd⟩
 case NotIn=>exact⟨_,yI,R8⟩
def bP(a:FE):FT:=λs=>(a s).bind λp=>(aS (PR p.1)).bind λb=>.ok (b,p.2)
theorem Dr{f:FE}{σ:St}{H:Hp}{Q:Bool->Hp->Prop}(h:tT B (bP f) σ H Q):tE B f σ H (λx H'=>∃k,x=.bl k/\Q k H'):=by
 obtain⟨g,s,t,s',x,h,k⟩:=h;obtain⟨⟨d,s1⟩,h1,h⟩:=ae h;obtain⟨d',h2,h⟩:=ae h;cases rH (aj h2);cases h;exact⟨g,s,_,s1,x,h1,λv g1 H1 p1 x1 r1=>⟨_,r1,k g1 H1 p1 x1⟩⟩
def gS:T->T->FR
 |.dq _ _,_=>none
 |x,y=>vQ x y
theorem Dt{tx ty t:T}(h:gS tx ty=some t):∃i,ty=.int i/\((∃xs,(tx=.lst xs\/tx=.tup xs)/\atT xs i=some t)\/(∃l c,tx=.str l/\atT l i=some c/\t=.str [c])\/∃ns n,tx=.scr ns/\atT ns i=some n/\t=.int n):=by
 cases tx<;>first|(cases h;done)|(cases ty<;>first|(cases h;done)|skip)
 ·rename_i l i
  have h:(atT l i).map (λc=>T.str [c])=some t:=h;cases e:atT l i with
  |none=>rw[e]at h;cases h
  |some c=>rw[e]at h;cases h;exact⟨i,rfl,.inr (.inl ⟨l,c,rfl,e,rfl⟩)⟩
 ·exact⟨_,rfl,.inl ⟨_,.inr rfl,h⟩⟩
 ·exact⟨_,rfl,.inl ⟨_,.inl rfl,h⟩⟩
 ·rename_i l i
  have h:(atT l i).map T.int=some t:=h;cases e:atT l i with
  |none=>rw[e]at h;cases h
  |some c=>rw[e]at h;cases h;exact⟨i,rfl,.inr (.inr ⟨l,c,rfl,e,rfl⟩)⟩
theorem M6{α β:Type}(f:α->β){l:List α}{i:Int}{c:α}(h:atT l i=some c):CJ (l.map f) i=some (f c):=by
 rw[wK]at h;unfold CJ at h ⊢;rw[bF];cases e:GQ l.length i with
 |none=>rw[e]at h;cases h
 |some j=>
  rw[e]at h;show(Aa f _)[j]?=_;rw[dB,show _[j]?=some c from h];rfl
theorem Xg:pQ X gS (Zj X.K):=λB hB al HF H x y t tx ty Q sm rx ry h k=>by
 obtain⟨i,rfl,⟨xs,hx|hx,e⟩|⟨l,c,rfl,e,rfl⟩|⟨ns,n,rfl,e,rfl⟩⟩:=Dt h
 ·subst hx
  obtain⟨p,vs,rfl,q,r⟩:=rx;obtain⟨v,e,rv⟩:=rJ r e;exact .inl ⟨p,vs,_,v,rfl,ry,dh.of (sm _ _ q),e,k v HF H (.refl sm) rv⟩
 ·subst hx
  obtain⟨p,vs,rfl,q,r⟩:=rx;obtain⟨v,e,rv⟩:=rJ r e;exact .inr (.inl ⟨p,vs,_,v,rfl,ry,hB▸bM sm q,e,k v HF H (.refl sm) rv⟩)
 ·obtain⟨rfl,hz⟩:=rx
  refine .inr (.inr ⟨_,_,c,rfl,ry,W7 hz,?_,k _ HF H (.refl sm) ⟨rfl,by simp⟩⟩)
  rw[<- wK];exact e
 ·obtain⟨p,rfl,q⟩:=rx
  exact .inl ⟨p,_,_,.int n,rfl,ry,hB▸sm.seq q,M6 V.int e,k _ HF H (.refl sm) rfl⟩
theorem M7(hB:B.K=X.K)(ha:PE X a (tE B fa))(hb:PE X b (tE B fb))(hs:iV b):PE X (.Subscript a b pos) (tE B (bo gS fa fb)):=aP (Kn Mr ha hb hs) (iR hB Xg)
end
end D
namespace L2
open PySem PySem.Spec PyProof.Rows
section
variable{X:Cx}
theorem qo:∀(ls:Bi)(t:Nat),Vals (ls.map V.str) (strsFrom t ls)
 |[],_=>.nil
 |x::ls,t=>.cons ⟨_,rfl⟩ (qo ls (t+1))
theorem Du:Ax X "str.split" (λx vs H Q=>∃a b,x=.str a/\vs=[.str b]/\(b.length == 0)=false/\a.length<=sizeLine/\(Txt.split a b).length<=sizeLine/\∀l,H l=none->Q (.ref l) (upd H l (.lst ((Txt.split a b).map V.str)))):=by
 intro aa s σ H x vs v us Q I rx rv h;obtain⟨a,b,rfl,rfl,hb,ha,hz,q⟩:=h;obtain⟨t,rfl⟩:=rx;obtain⟨u,rfl,⟨t',rfl⟩⟩:=rv.one;unfold Txt.split at hz q;by_cases c1:(decide (a.length<b.length) ||decide (Builtin.Str.strKind a<Builtin.Str.strKind b))=true
 ·rw[if_pos c1]at hz q
  refine call_meets F.slot_str_split (typeIs_str s a t) F.entry_str_split (F.args_str_split_2 _ _) (meets_str_split_cannot_occur a b t t' c1) ?_;exact⟨.ref s.heap.objs.size,_,I.Az (t':=s.toks) (ys:=[V.str a]) (.cons ⟨_,rfl⟩ .nil) hz,rfl,q _ I.fresh⟩
 ·rw[if_neg c1]at hz q
  have ZL:(decide (a.length<b.length) ||decide (Builtin.Str.strKind a<Builtin.Str.strKind b))=false:=by
   rcases J1 (decide (a.length<b.length) ||decide (Builtin.Str.strKind a<Builtin.Str.strKind b))with z|z
   ·exact absurd z c1
   ·exact z
  by_cases c2:(Builtin.Str.occurrences a b 0 a.length (a.length+1)).isEmpty=true
  ·rw[if_pos c2]at hz q
   refine call_meets F.slot_str_split (typeIs_str s a t) F.entry_str_split (F.args_str_split_2 _ _) (meets_str_split_not_found a b t t' ZL hb c2) ?_;exact⟨.ref s.heap.objs.size,_,I.Az (t':=s.toks) (ys:=[V.str a]) (.cons ⟨_,rfl⟩ .nil) hz,rfl,q _ I.fresh⟩
  ·rw[if_neg c2]at hz q
   have c2':(Builtin.Str.occurrences a b 0 a.length (a.length+1)).isEmpty=false:=by
    rcases J1 (Builtin.Str.occurrences a b 0 a.length (a.length+1)).isEmpty with z|z
    ·exact absurd z c2
    ·exact z
   refine call_meets F.slot_str_split (typeIs_str s a t) F.entry_str_split (F.args_str_split_2 _ _) (meets_str_split_sep a b t t' ZL hb c2' ha hz) ?_;exact⟨.ref s.heap.objs.size,_,I.Az (qo _ _) (by rw[bF];exact hz),rfl,q _ I.fresh⟩
end
section
variable{X:Cx}
theorem Dv:Ax X "str.find" (λx vs H Q=>∃a b,x=.str a/\vs=[.str b]/\Q (.int (Txt.find a b)) H):=by
 intro aa s σ H x vs v us Q I rx rv h;obtain⟨a,b,rfl,rfl,q⟩:=h;obtain⟨t,rfl⟩:=rx;obtain⟨u,rfl,⟨t',rfl⟩⟩:=rv.one;exact SC.find ⟨.int _,H,I.tok _,⟨_,rfl⟩,q⟩
end
end L2
namespace D
open PySem L2
variable{X:Cx}{env:Env}{a b c e o tg:Expr}{fa fb fc fo:FE}{fl:FL}{g g':G}{H H':Hp}{B:KT}{es:Bz}{b_ c9 p pos:Pos}{s s':S}{σ:St}{x y:Str}
section
variable{p2:Pos}{W8 W9:FO}{W_ Xa:Option Expr}
theorem Dy(lo hi:D2)(n:Nat):Builtin.Str.strSliceIndices lo hi 1 n=Builtin.Str.strSliceIndices (some ((D.gx n 0 lo:Nat):Int)) (some ((D.gx n n hi:Nat):Int)) 1 n:=by
 have c:∀v:Int,max 0 (min (if v<0 then v+(n:Int)else v) (n:Int))=((if v<0 then(v+(n:Int)).toNat else min v.toNat n:Nat):Int):=λv=>by
  by_cases hv:v<0
  ·rw[if_pos hv,if_pos hv];omega
  ·rw[if_neg hv,if_neg hv];omega
 have d:∀m:Nat,m<=n->max 0 (min (if((m:Nat):Int)<0 then((m:Nat):Int)+(n:Int)else((m:Nat):Int)) (n:Int))=((m:Nat):Int):=λm hm=>by
  rw[if_neg (by omega)];omega
 have l1:D.gx n 0 lo<=n:=by
  cases lo with
  |none=>exact i6 _
  |some v=>show(if v<0 then(v+(n:Int)).toNat else min v.toNat n)<=n;split<;>omega
 have l2:D.gx n n hi<=n:=by
  cases hi with
  |none=>exact cC _
  |some v=>show(if v<0 then(v+(n:Int)).toNat else min v.toNat n)<=n;split<;>omega
 unfold Builtin.Str.strSliceIndices;simp only[show((1:Int) > 0)from by decide,if_true]
 rw[d _ l1,d _ l2]
 congr 1
 ·cases lo with
  |none=>rfl
  |some v=>exact c v
 ·cases hi with
  |none=>rfl
  |some v=>exact c v
theorem Dz(n d:Nat)(hd:d<=n)(o:D2):D.gx n d o<=n:=by
 cases o with
 |none=>exact hd
 |some v=>show(if v<0 then(v+(n:Int)).toNat else min v.toNat n)<=n;split<;>omega
theorem cut_str(l:B1)(lo hi:D2):Txt.slice ⟨l.toArray⟩ lo hi=⟨(bA l lo hi).toArray⟩:=by
 have e0:Txt.slice ⟨l.toArray⟩ lo hi=StrLaws.sliceText ⟨l.toArray⟩ lo hi:=rfl;have e1:StrLaws.sliceText ⟨l.toArray⟩ lo hi=StrLaws.sliceText ⟨l.toArray⟩ (some ((D.gx l.length 0 lo:Nat):Int)) (some ((D.gx l.length l.length hi:Nat):Int)):=by
  unfold StrLaws.sliceText;rw[dP,Dy]
 rw[e0,e1];have h2:=Dz l.length l.length (cC _) hi;by_cases hab:D.gx l.length 0 lo<=D.gx l.length l.length hi
 ·rw[StrLaws.sliceText_nat _ hab (by rw[dP];exact h2)]
  rfl
 ·have h1:=Dz l.length 0 (i6 _) lo
  have e3:bA l lo hi=[]:=by
   unfold bA;rw[show D.gx l.length l.length hi-D.gx l.length 0 lo=0 by omega,List.take_zero]
  rw[e3];have e4:Builtin.Str.strSliceIndices (some ((D.gx l.length 0 lo:Nat):Int)) (some ((D.gx l.length l.length hi:Nat):Int)) 1 l.length=[]:=by
   have d:∀m:Nat,m<=l.length->max 0 (min (if((m:Nat):Int)<0 then((m:Nat):Int)+(l.length:Int)else((m:Nat):Int)) (l.length:Int))=((m:Nat):Int):=λm hm=>by
    rw[if_neg (by omega)];omega
   unfold Builtin.Str.strSliceIndices;simp only[show((1:Int) > 0)from by decide,if_true]
   rw[d _ h1,d _ h2];simp only[sliceRange];rw[if_pos (by decide),if_neg (by omega)]
   rfl
  unfold StrLaws.sliceText;rw[dP,e4];rw[if_neg (by simp;omega)]
  rfl
theorem DA{α:Type}(l:List α)(lo hi:D2):(bA l lo hi).length<=l.length:=by
 unfold bA;rw[vU,o8];omega
theorem yL(xs:List V)(lo hi:D2):Aw xs lo hi=bA xs lo hi:=by
 have e:∀(n d:Nat)(o:D2),HT.gx n d o=D.gx n d o:=λn d o=>by cases o<;>rfl
 unfold Aw bA;rw[e,e]
theorem az.cut{B:KT}{al:BM}{H:Hp}{ts:FK}{vs:List V}(r:az B al H ts vs)(lo hi:D2):az B al H (bA ts lo hi) (bA vs lo hi):=by
 unfold bA;rw[r.len];exact(r.drop _).take _
theorem rL{α β:Type}(f:α->β)(l:List α)(lo hi:D2):(bA l lo hi).map f=bA (l.map f) lo hi:=by
 unfold bA;rw[bF,JF,BP]
theorem ux{B:KT}{al:BM}{H:Hp}:∀{ts:FK}{vs:List V}{ls:Ap},az B al H ts vs->strsOf ts=some ls->vs=(ls.map λl=>(⟨l.toArray⟩:Str)).map V.str
 |[],_,_,h,e=>by cases(show _=[]from h);cases e;rfl
 |t::ts,_,ls,h,e=>by
  obtain⟨v,r,rfl,h1,h2⟩:=h;cases t<;>first|(cases e;done)|skip
  rename_i l;have e:(strsOf ts).map (l::·)=some ls:=e
  cases e':strsOf ts with
  |none=>rw[e']at e;cases e
  |some ms=>
   rw[e']at e;cases e;obtain⟨rfl,_⟩:=h1;rw[ux h2 e'];rfl
theorem join_eq(sep:B1):∀ls:Ap,Str.join ⟨sep.toArray⟩ (ls.map λl=>(⟨l.toArray⟩:Str))=⟨(cQ sep ls).toArray⟩
 |[]=>rfl
 |[c]=>rfl
 |c::d::r=>by
  have ih:=join_eq sep (d::r);show(⟨c.toArray⟩:Str)++⟨sep.toArray⟩++Str.join ⟨sep.toArray⟩ ((d::r).map λl=>(⟨l.toArray⟩:Str))=⟨(c++sep++cQ sep (d::r)).toArray⟩;rw[ih,M0,M0]
theorem qp(sep:B1):∀ls:Ap,(cQ sep ls).length<=(ls.map (·.length)).sum+ls.length*sep.length
 |[]=>by simp[cQ]
 |[c]=>by simp[cQ]
 |c::d::r=>by
  have ih:=qp sep (d::r);show(c++sep++cQ sep (d::r)).length<=_;rw[cK,cK,cU,List.sum_cons,bz,JX];omega
theorem DB(ls:Ap):((ls.map λl=>(⟨l.toArray⟩:Str)).map (·.length))=ls.map (·.length):=by
 rw[fQ];apply Ac;intro l _;exact dP l
theorem M8(l s:B1):Txt.startswith ⟨l.toArray⟩ ⟨s.toArray⟩=pre s l:=by
 unfold Txt.startswith pre;rw[StrLaws.subAt_eq];show(decide (0+(⟨s.toArray⟩:Str).length<=l.toArray.size)&&((l.drop 0).take (⟨s.toArray⟩:Str).length == s))=_;rw[dP,bX,pj,mH]
theorem M9(l s:B1):Txt.endswith ⟨l.toArray⟩ ⟨s.toArray⟩=Hb s l:=by
 unfold Txt.endswith Hb;rw[StrLaws.subAt_eq,dP,dP];show(decide (0+s.length<=l.length)&&((l.drop (l.length-s.length)).take s.length == s))=_;rw[pj];by_cases h:s.length<=l.length
 ·rw[decide_eq_true h,Ae,Ae]
  rw[x8 (by rw[o8];omega)]
 ·rw[decide_eq_false h,yh,yh]
theorem kJ{B:KT}{al:BM}{H:Hp}:∀{ts:FK}{vs:List V}{ks:Fh},az B al H ts vs->boolsOf ts=some ks->vs=ks.map V.bl
 |[],_,_,h,e=>by cases(show _=[]from h);cases e;rfl
 |t::ts,_,ls,h,e=>by
  obtain⟨v,r,rfl,h1,h2⟩:=h;cases t<;>first|(cases e;done)|skip
  rename_i l;have e:(boolsOf ts).map (l::·)=some ls:=e
  cases e':boolsOf ts with
  |none=>rw[e']at e;cases e
  |some ms=>
   rw[e']at e;cases e;cases(show v=.bl l from h1);rw[kJ h2 e'];rfl
def uy(tn T:String):Option Bool:=if(Value.type tn == Value.type T)=true then some true else if PySem.W.kitMeta T=true then(fastBuiltinMro tn).map (·.contains (Value.type T))else none
theorem kK(K:bu){tn T:String}{b:Bool}(h:uy tn T=some b):qM K (.type tn) (.type T)=some b:=h
structure jr(T:String):Prop where
 non:uy "NoneType" T=some false
 bl:uy "bool" T=some (T == "bool" ||T == "int")
 int:uy "int" T=some (T == "int")
 str:uy "str" T=some (T == "str")
 tup:uy "tuple" T=some (T == "tuple")
 lst:uy "list" T=some (T == "list")
 dic:uy "dict" T=some (T == "dict")
theorem M_:jr "int" := by constructor<;>decide +kernel
theorem Ho:jr "bool" := by constructor<;>decide +kernel
theorem Na:jr "str" := by constructor<;>decide +kernel
theorem DC:jr "tuple" := by constructor<;>decide +kernel
theorem Hq:jr "list" := by constructor<;>decide +kernel
def aZ(c:Nat):B1->Ap
 |[]=>[[]]
 |d::l=>if d=c then[]::aZ c l else match aZ c l with
  |p::r=>(d::p)::r
  |[]=>[[d]]
theorem nF{c:Nat}:∀{p:B1},c∉p->aZ c p=[p]
 |[],_=>rfl
 |d::p,h=>by
  have hd:d≠c:=λe=>h (by rw[e];exact eg ..)
  have hp:c∉p:=λe=>h (ez _ e);unfold aZ;rw[if_neg hd,nF hp]
theorem nG{c:Nat}(l:B1):∀{p:B1},c∉p->aZ c (p++[c]++l)=p::aZ c l
 |[],_=>by
  show aZ c (c::l)=_;rw[aZ,if_pos rfl]
 |d::p,h=>by
  have hd:d≠c:=λe=>h (by rw[e];exact eg ..)
  have hp:c∉p:=λe=>h (ez _ e);show aZ c (d::(p++[c]++l))=_;rw[aZ,if_neg hd,nG l hp]
theorem lj{c:Nat}:∀{ls:Ap},ls≠[]->(∀p∈ls,c∉p)->aZ c (cQ [c] ls)=ls
 |[],h,_=>absurd rfl h
 |[p],_,h=>nF (h p (eg ..))
 |p::q::r,_,h=>by
  show aZ c (p++[c]++cQ [c] (q::r))=_;rw[nG _ (h p (eg ..)),lj (by simp) λx hx=>h x (ez _ hx)]
theorem split_len(x y:Str):(Txt.split x y).length<=x.length+2:=by
 unfold Txt.split;split
 ·simp
 ·split
  ·simp
  ·rw[length_partsBetween]
   have:=StrLaws.occ_length_le x y 0 x.length (x.length+1)
   omega
theorem DE(x y:Str):Txt.split x y≠[]:=by
 unfold Txt.split;split
 ·simp
 ·split
  ·simp
  ·intro e
   have:=length_partsBetween x (Builtin.Str.occurrences x y 0 x.length (x.length+1)) y.length
   rw[e]at this;simp at this
theorem DF(a:B1)(c:Nat):Txt.split ⟨a.toArray⟩ ⟨#[c]⟩=(aZ c a).map λl=>(⟨l.toArray⟩:Str):=by
 obtain⟨L,hL⟩:∃L:Ap,L=(Txt.split ⟨a.toArray⟩ ⟨#[c]⟩).map λp=>p.cps.toList:=⟨_,rfl⟩;have e1:Txt.split ⟨a.toArray⟩ ⟨#[c]⟩=L.map λl=>(⟨l.toArray⟩:Str):=by
  rw[hL,fQ]
  conv=>lhs;rw[<- List.map_id (Txt.split ⟨a.toArray⟩ ⟨#[c]⟩)]
  apply Ac;intro p _;show p=(⟨p.cps.toList.toArray⟩:Str);rw[Array.toArray_toList]
 have ie:L≠[]:=by
  rw[hL];intro e;exact DE _ _ (List.map_eq_nil_iff.mp e)
 have p9:∀p∈L,c∉p:=by
  rw[hL];intro p hp;obtain⟨q,hq,rfl⟩:=eU.mp hp;exact StrLaws.split_free _ c q hq
 have hj:=StrLaws.join_split ⟨a.toArray⟩ ⟨#[c]⟩;rw[e1,show(⟨#[c]⟩:Str)=⟨([c]:B1).toArray⟩from rfl,join_eq]at hj;have hj2:cQ [c] L=a:=by
  injection hj with hj
  simpa using hj
 rw[e1,<- hj2,lj ie p9]
theorem qq{B:KT}{al:BM}{H:Hp}:∀{ls:Ap},(∀l∈ls,l.length<=1000000)->az B al H (ls.map T.str) (ls.map λl=>SV l)
 |[],_=>rfl
 |l::ls,h=>⟨_,_,rfl,⟨rfl,h l (eg ..)⟩,qq λx hx=>h x (ez _ hx)⟩
theorem jZ(c:Nat):∀(a:B1),∀l∈aZ c a,l.length<=a.length
 |[],l,h=>by
  rw[dG.mp h];simp
 |d::a,l,h=>by
  have ih:=jZ c a;rw[aZ]at h;split at h
  ·rcases cu.mp h with e|e
   ·rw[e];simp
   ·have:=ih l e;simp;omega
  ·split at h
   ·rename_i p r ZM
    rcases cu.mp h with e|e
    ·have:=ih p (by rw[ZM];exact eg ..)
     rw[e];simp;omega
    ·have:=ih l (by rw[ZM];exact ez _ e)
     simp;omega
   ·rw[dG.mp h];simp
theorem R_:PO X none (tP B wF):=Kw GO λσ H Q z=>by
 obtain⟨g,s,t,s',x,h,k⟩:=z;cases h;exact k g H .refl x
theorem yM{t:T}{i:Int}(h:RE t=some i):t=.int i:=by
 cases t<;>first|(cases h;done)|(cases h;rfl)
theorem Sa(ha:PE X a (tE B fa)):PO X (some a) (tP B (kG fa)):=Kw (GP ha) λσ H Q z=>by
 obtain⟨g,s,t,s',x,h,k⟩:=z;obtain⟨⟨d,s1⟩,h1,h⟩:=ae h;obtain⟨i,h2,h⟩:=ae h;cases yM (aj h2);cases h;exact⟨g,s,_,s1,x,h1,λv g1 H1 p1 x1 r1=>⟨_,r1,k g1 H1 p1 x1⟩⟩
def Xh(K:bu):V->D2->D2->Hp->VK->Prop:=λx lo hi H Q=>(∃z,x=.str z/\z.length<=sizeLine/\Q (.str (Txt.slice z lo hi)) H)\/Q0 K x lo hi H Q
theorem Xi:Km X (Xh X.K):=MB.or GS
theorem Xj(hB:B.K=X.K)(ha:PE X a (tE B fa))(hl:PO X W_ (tP B W8))(hh:PO X Xa (tP B W9)):PE X (.Subscript a (.Slice W_ Xa none p2) pos) (tE B (oW fa W8 W9)):=by
 refine aP (CI Xi ha hl hh) λσ H Q zz=>?_;obtain⟨g,s,t,s',x,h,k⟩:=zz;obtain⟨⟨tx,s1⟩,h1,h⟩:=ae h;obtain⟨⟨lo,s2⟩,h2,h⟩:=ae h;obtain⟨⟨hi,s3⟩,h3,h⟩:=ae h;obtain⟨t',h4,h⟩:=ae h;cases h;have h4:G_ lo hi tx=some _:=aj h4;refine⟨g,s,_,s1,x,h1,λv g1 H1 p1 x1 r1=>⟨g1,s1,_,s2,x1,h2,λg2 H2 p2 x2=>⟨g2,s2,_,_,x2,h3,λg3 H3 p3 x3=>?_⟩⟩⟩;have r3:=(r1.mv p2.pre p2.fr).mv p3.pre p3.fr;have pp:=(p1.trans p2).trans p3;cases tx<;>first|(cases h4;done)|skip
 ·cases h4
  obtain⟨rfl,hz⟩:=r3;refine .inl ⟨_,rfl,W7 hz,?_⟩;rw[cut_str];exact k _ g3 H3 pp x3 ⟨rfl,gA (DA _ _ _) hz⟩
 ·cases h4
  obtain⟨a,vs,rfl,q,r⟩:=r3;refine .inr ⟨a,vs,rfl,dh.of (x3.sub _ _ q),λl hl=>?_⟩;rw[yL];have gr:=Gr.new (o:=.lst (bA vs lo hi)) x3.sub hl;exact k _ _ _ (pp.trans (x3.gv gr)) (x3.grow gr) ⟨l,_,rfl,ah,(r.cut _ _).same gr.fr⟩
 ·cases h4
  obtain⟨a,rfl,q⟩:=r3;refine .inr ⟨a,_,rfl,hB▸x3.sub.seq q,λl hl=>?_⟩;rw[yL,<- rL];exact k _ _ _ (pp.trans (x3.gv (Gr.new x3.sub hl))) (x3.grow (Gr.new x3.sub hl)) ⟨l,_,rfl,ah,az.ints _⟩
end
section
def noStar:Expr->Bool
 |.Starred _ _=>false
 |_=>true
theorem au(h:noStar e=true):starEach (e::es) env=(false,eval e env)::starEach es env:=by
 cases e<;>first|rfl|(cases h)
theorem eE:∀{es:Bz},es.all noStar=true->(backTo pos (starEach es env)).any (·.1)=false
 |[],_=>rfl
 |e::es,h=>by
  rw[e9,cO]at h;rw[au h.1];show(false ||(backTo pos (starEach es env)).any (·.1))=false
  rw[eE h.2];rfl
theorem nH:∀{es:Bz},es.all noStar=true->(backTo pos (starEach es env)).all (λx=>!x.1)=true
 |[],_=>rfl
 |e::es,h=>by
  rw[e9,cO]at h;rw[au h.1];show(true&&(backTo pos (starEach es env)).all (λx=>!x.1))=true;rw[nH h.2];rfl
theorem nq(h:(e::es).all noStar=true)(hl:es.length<29):((backTo c9 (starEach (e::es) env)).all (λx=>!x.1)&&(backToKw c9 (keywordEach [] env)).all (λx=>x.1.isSome)
   && decide ((e::es).length+([]:List Keyword).length+(if([]:List Keyword).isEmpty then 0 else 1)<30))=true:=by
 rw[nH h,cO];exact⟨rfl,decide_eq_true (show es.length+1+0+0<30 by omega)⟩
def bK:Expr->Bool
 |.Call (.Name _ _) [] [] _=>false
 |_=>true
theorem gT{f:Str}{fW:Sem Value}(h:bK o=true):attributeBase o f env fW=fW:=by
 unfold attributeBase;split
 ·cases h
 ·rfl
def LM(X:Cx)(f:B1->FK->FR)(r:V->List V->Hp->VK->Prop):Prop:=∀(B:KT)(_:B.K=X.K)(al:BM)(HF H:Hp)(l:B1)(xs:List V)(t:T)(ts:FK)(Q:VK),aK HF H->l.length<=1000000->az B al HF ts xs->f l ts=some t->(∀v fY H',Gr HF H fY H'->Rep B al fY t v->Q v H')->r (SV l) xs H Q
def Hr:T->Option B1
 |.str l=>some l
 |_=>none
def kL(f:B1->FK->FR)(o:FE)(fl:FL):FE:=λs=>(o s).bind λp=>(aS (Hr p.1)).bind λl=>(fl p.2).bind λq=>(aS (f l q.1)).bind λt=>.ok (t,q.2)
theorem DG{t:T}{l:B1}(h:Hr t=some l):t=.str l:=by
 cases t<;>first|(cases h;done)|(cases h;rfl)
theorem Xk{f:B1->FK->FR}{r:V->List V->Hp->VK->Prop}(hB:B.K=X.K)(hr:LM X f r):∀σ H Q,tE B (kL f fo fl) σ H Q->Zl X.K "str" r (tE B fo) (tA B fl) σ H Q:=by
 rintro σ H Q ⟨g,s,t,s',x,h,k⟩
 obtain⟨⟨tx,s1⟩,h1,h⟩:=ae h;obtain⟨l,h2,h⟩:=ae h;obtain⟨⟨ts,s2⟩,h3,h⟩:=ae h;obtain⟨t',h4,h⟩:=ae h;cases h;cases DG (aj h2);refine⟨g,s,_,s1,x,h1,λv g1 H1 p1 x1 r1=>?_⟩;obtain⟨rfl,hz⟩:=r1;exact⟨rfl,g1,s1,_,_,x1,h3,λvs g2 H2 p2 x2 r2=>hr B hB g2.al g2.HF H2 l vs _ ts Q x2.sub hz r2 (aj h4) λu fY H' gr r3=>k u (g2.grow fY) H' ((p1.trans p2).trans (x2.gv gr)) (x2.grow gr) r3⟩
def AR(l:B1):FK->FR
 |[.str s]=>some (.bl (pre s l))
 |_=>none
def Vt(l:B1):FK->FR
 |[.str s]=>some (.bl (Hb s l))
 |_=>none
def joinM(l:B1):FK->FR
 |[t]=>yx (.str l) t
 |_=>none
def splitM(l:B1):FK->FR
 |[.str [c]]=>gd (l.length<=100000) (.lst ((aZ c l).map .str))
 |_=>none
open PySem.Spec PyProof.Rows in
def uz(l:B1):FK->FR
 |[.str s]=>some (.int (Txt.find ⟨l.toArray⟩ ⟨s.toArray⟩))
 |[.str s,.int i]=>some (.int (Txt.find3 ⟨l.toArray⟩ ⟨s.toArray⟩ i))
 |_=>none
theorem cj{al:BM}{H:Hp}{t:T}{xs:List V}(r:az B al H [t] xs):∃v,xs=[v]/\Rep B al H t v:=by
 obtain⟨v,w,rfl,h,e⟩:=r;cases(show w=[]from e);exact⟨v,rfl,h⟩
theorem Hs{al:BM}{H:Hp}{t u:T}{xs:List V}(r:az B al H [t,u] xs):∃v w,xs=[v,w]/\Rep B al H t v/\Rep B al H u w:=by
 obtain⟨v,ws,rfl,h,e⟩:=r;obtain⟨w,rfl,h'⟩:=cj e;exact⟨v,w,rfl,h,h'⟩
theorem Xl:LM X AR (λx vs H Q=>∃a b,x=.str a/\vs=[.str b]/\Q (.bl (Txt.startswith a b)) H):=λB hB al HF H l xs t ts Q sm hz r h k=>by
 match ts,h with
 |[.str s],h=>
  cases h;obtain⟨v,rfl,rfl,_⟩:=cj r;refine⟨_,_,rfl,rfl,?_⟩;rw[M8];exact k _ HF H (.refl sm) rfl
theorem Xm:LM X Vt (λx vs H Q=>∃a b,x=.str a/\vs=[.str b]/\Q (.bl (Txt.endswith a b)) H):=λB hB al HF H l xs t ts Q sm hz r h k=>by
 match ts,h with
 |[.str s],h=>
  cases h;obtain⟨v,rfl,rfl,_⟩:=cj r;refine⟨_,_,rfl,rfl,?_⟩;rw[M9];exact k _ HF H (.refl sm) rfl
theorem Nb:LM X joinM (λx vs H Q=>∃sep l ys,x=.str sep/\vs=[.ref l]/\dh X.K H l (ys.map V.str)/\(ys.map (·.length)).sum+ys.length*sep.length<=16777216/\Q (.str (Str.join sep ys)) H):=λB hB al HF H l xs t ts Q sm hz r h k=>by
 match ts,h with
 |[u],h=>
  obtain⟨v,rfl,ru⟩:=cj r;have h:yx (.str l) u=some t:=h;cases u with
  |lst us=>
   have h:(strsOf us).bind (λys=>gd ((ys.map (·.length)).sum+ys.length*l.length<=1000000) (T.str (cQ l ys)))=some t:=h
   obtain⟨ls,h1,h⟩:=ba.mp h;obtain⟨z,rfl⟩:=aW h;obtain⟨a,vs,rfl,q,r⟩:=ru;have e:=ux r h1;subst e;refine⟨_,a,_,rfl,rfl,dh.of (sm _ _ q),?_,?_⟩
   ·rw[DB,bF,dP];omega
   ·rw[join_eq]
    exact k _ HF H (.refl sm) ⟨rfl,gA (qp _ _) z⟩
  |_=>cases h
theorem m_find:LM X uz (λx vs H Q=>(∃a b,x=.str a/\vs=[.str b]/\Q (.int (Txt.find a b)) H)\/∃a b i,x=.str a/\vs=[.str b,.int i]/\Q (.int (Txt.find3 a b i)) H):=λB hB al HF H l xs t ts Q sm hz r h k=>by
 match ts,h with
 |[.str s],h=>
  cases h;obtain⟨v,rfl,rfl,_⟩:=cj r;exact .inl ⟨_,_,rfl,rfl,k _ HF H (.refl sm) rfl⟩
 |[.str s,.int i],h=>
  cases h;obtain⟨v,w,rfl,⟨rfl,_⟩,rfl⟩:=Hs r;exact .inr ⟨_,_,_,rfl,rfl,k _ HF H (.refl sm) rfl⟩
theorem m_split:LM X splitM (λx vs H Q=>∃a b,x=.str a/\vs=[.str b]/\(b.length == 0)=false/\a.length<=sizeLine/\(Txt.split a b).length<=sizeLine/\∀l,H l=none->Q (.ref l) (upd H l (.lst ((Txt.split a b).map V.str)))):=λB hB al HF H l xs t ts Q sm hz r h k=>by
 match ts,h with
 |[.str [c]],h=>
  obtain⟨z,rfl⟩:=aW h;obtain⟨v,rfl,rfl,_⟩:=cj r;have Sb:=split_len ⟨l.toArray⟩ ⟨([c]:B1).toArray⟩;rw[dP]at Sb;refine⟨_,_,rfl,rfl,rfl,by rw[dP,sizeLine_eq];omega,by rw[sizeLine_eq];omega,λq hq=>?_⟩
  have e:(Txt.split ⟨l.toArray⟩ ⟨([c]:B1).toArray⟩).map V.str=(aZ c l).map λl=>SV l:=by
   rw[show(⟨([c]:B1).toArray⟩:Str)=⟨#[c]⟩from rfl,DF,fQ];rfl
  rw[e];refine k _ _ _ (Gr.new sm hq) ⟨q,_,rfl,ah,qq λm hm=>?_⟩
  have:=jZ c l m hm
  omega
 |[.str []],h=>cases h
 |[.str (_::_::_)],h=>cases h
theorem Ax.or{id:String}{r r':V->List V->Hp->VK->Prop}(h:Ax X id r)(h':Ax X id r'):Ax X id (λx vs H Q=>r x vs H Q\/r' x vs H Q):=λaa s σ H x vs v us Q I rx rv q=>by
 rcases q with q|q
 ·exact h aa s σ H x vs v us Q I rx rv q
 ·exact h' aa s σ H x vs v us Q I rx rv q
structure ZN(X:Cx)(n:Str)(f:B1->FK->FR):Prop where
 ex:∃id r,Slot "str" n id/\typeOf (.builtin id)=pure (.type "method_descriptor")/\Ax X id r/\LM X f r
theorem Sd{n:Str}{f:B1->FK->FR}(M:ZN X n f)(hB:B.K=X.K)(ho:PE X o (tE B fo))(ha:PA X (e::es) (tA B fl))(hb:bK o=true)(hs:(e::es).all noStar=true)(hl:es.length<29)(mW:(b_.endLine == c9.line)=true) :
  PE X (.Call (.Attribute o n b_) (e::es) [] c9) (tE B (kL f fo fl)):=by
 obtain⟨id,r,h1,h2,h3,h4⟩:=M.ex;have AE:=hs;rw[e9,cO]at AE;exact aP (CM PySem.F.plainAttrs_str h1 h2 h3 ho ha (gT hb) (nq hs hl) mW (au AE.1) (eE AE.2)) (Xk hB h4)
def wL:List (Str×(B1->FK->FR)):=[("startswith",AR),("endswith",Vt),("join",joinM),("split",splitM),("find",uz)]
theorem Nc:∀p∈wL,ZN X p.1 p.2:=by
 intro p h;simp only[wL,cu,o_,or_false]at h;rcases h with rfl|rfl|rfl|rfl|rfl
 ·exact⟨_,_,PySem.F.slot_str_startswith,PySem.F.type_str_startswith,pH,Xl⟩
 ·exact⟨_,_,PySem.F.slot_str_endswith,PySem.F.type_str_endswith,ue,Xm⟩
 ·exact⟨_,_,PySem.F.slot_str_join,PySem.F.type_str_join,G2,Nb⟩
 ·exact⟨_,_,PySem.F.slot_str_split,PySem.F.type_str_split,Du,m_split⟩
 ·exact⟨_,_,PySem.F.slot_str_find,PySem.F.type_str_find,Ax.or Dv CU,m_find⟩
end
section
def bD:FK->FR
 |[t]=>(match t with
  |.dq _ _=>none
  |t=>AM t)
 |_=>none
theorem Se:LN X bD (λxs H Q=>∃x n,xs=[x]/\QI X.K x H n/\Q (.int n) H):=λB hB al HF H xs t ts Q sm r h k=>by
 match ts,h with
 |[tx],h=>
  obtain⟨v,rfl,rx⟩:=cj r;cases tx<;>first|(cases h;done)|skip
  ·cases h
   obtain⟨rfl,hz⟩:=rx;exact⟨_,_,rfl,⟨W7 hz,(dP _).symm⟩,k _ HF H (.refl sm) rfl⟩
  ·cases h
   obtain⟨a,vs,rfl,q,r⟩:=rx;exact⟨_,_,rfl,.inr ⟨vs,hB▸bM sm q,r.len⟩,k _ HF H (.refl sm) rfl⟩
  ·cases h
   obtain⟨a,vs,rfl,q,r⟩:=rx;exact⟨_,_,rfl,.inl ⟨vs,dh.of (sm _ _ q),r.len⟩,k _ HF H (.refl sm) rfl⟩
  ·cases h
   obtain⟨a,rfl,q⟩:=rx;exact⟨_,_,rfl,.inl ⟨_,hB▸sm.seq q,(bF _).symm⟩,k _ HF H (.refl sm) rfl⟩
def Sf:FK->FR
 |[t]=>RD t
 |_=>none
theorem Sg:LN X Sf (λxs H Q=>∃i,xs=[.int i]/\Q (.int (if i<0 then -i else i)) H):=λB hB al HF H xs t ts Q sm r h k=>by
 match ts,h with
 |[tx],h=>
  obtain⟨v,rfl,rx⟩:=cj r;have h:RD tx=some t:=h;cases tx<;>first|(cases h;done)|skip
  cases h;exact⟨_,by rw[show v=_ from rx],k _ HF H (.refl sm) rfl⟩
def Ht:FK->FR
 |[t]=>MS t
 |_=>none
def wM:FK->FR
 |[t]=>MT t
 |_=>none
theorem Sh:LN X Ht (λxs H Q=>∃(p:Addr)(ks:Fh),xs=[.ref p]/\dh X.K H p (ks.map V.bl)/\Q (.bl (ks.all id)) H):=λB hB al HF H xs t ts Q sm r h k=>by
 match ts,h with
 |[tx],h=>
  obtain⟨v,rfl,rx⟩:=cj r;have h:MS tx=some t:=h;cases tx with
  |lst us=>
   obtain⟨ks,h1,h⟩:=cz.mp (show(boolsOf us).map _=some t from h);obtain⟨a,vs,rfl,q,r⟩:=rx;have e:=kJ r h1;subst e h;exact⟨a,ks,rfl,dh.of (sm _ _ q),k _ HF H (.refl sm) rfl⟩
  |_=>cases h
theorem Si:LN X wM (λxs H Q=>∃(p:Addr)(ks:Fh),xs=[.ref p]/\dh X.K H p (ks.map V.bl)/\Q (.bl (ks.any id)) H):=λB hB al HF H xs t ts Q sm r h k=>by
 match ts,h with
 |[tx],h=>
  obtain⟨v,rfl,rx⟩:=cj r;have h:MT tx=some t:=h;cases tx with
  |lst us=>
   obtain⟨ks,h1,h⟩:=cz.mp (show(boolsOf us).map _=some t from h);obtain⟨a,vs,rfl,q,r⟩:=rx;have e:=kJ r h1;subst e h;exact⟨a,ks,rfl,dh.of (sm _ _ q),k _ HF H (.refl sm) rfl⟩
  |_=>cases h
def Hu(i:Int):B1:=(toString i).toList.map Char.toNat
def strN:FK->FR
 |[.int i]=>gd (i.natAbs.log2<1920/\(Hu i).length<=1000000) (.str (Hu i))
 |_=>none
theorem Sj:LN X strN (λxs H Q=>∃i,xs=[.int i]/\i.natAbs.log2<1920/\Q (.str (toString i)) H):=λB hB al HF H xs t ts Q sm r h k=>by
 match ts,h with
 |[.int i],h=>
  obtain⟨v,rfl,rx⟩:=cj r;obtain⟨⟨h1,h2⟩,rfl⟩:=aW h;cases rx;refine⟨i,rfl,h1,k _ HF H (.refl sm) ⟨?_,h2⟩⟩;show V.str (Str.ofString (toString i))=_;rw[Str.ofString_eq_toList];rfl
def lN:FK->FR
 |[.str l]=>(PySem.intText? ⟨l.toArray⟩).bind λn=>gd (l.length<=640) (.int n)
 |[.bl b]=>some (.int (if b then 1 else 0))
 |_=>none
abbrev Sk:List V->Hp->VK->Prop:=λxs H Q=>(∃y n,xs=[.str y]/\PySem.intText? y=some n/\y.length<=640/\Q (.int n) H)\/∃b,xs=[.bl b]/\Q (.int (if b then 1 else 0)) H
theorem AS:eY X (.type "int") Sk:=by
 intro aa s σ H xs us Q I r h;rcases h with⟨y,n,rfl,hn,hl,q⟩|⟨b,rfl,q⟩
 ·obtain⟨u,rfl,t,rfl⟩:=vals1 r
  exact PySem.W.KIN.call_text hn hl ⟨.int n,H,I.tok _,⟨_,rfl⟩,q⟩
 ·obtain⟨u,rfl,e⟩:=vals1 r
  cases(show u=Value.bool b from e);exact PySem.call_int_bool ⟨.int (if b then 1 else 0),H,I.tok _,⟨_,rfl⟩,q⟩
theorem Sl:LN X lN Sk:=λB hB al HF H xs t ts Q sm r h k=>by
 match ts,h with
 |[.str l],h=>
  obtain⟨v,rfl,rx⟩:=cj r;obtain⟨n,h1,h⟩:=ba.mp h;obtain⟨z,rfl⟩:=aW h;obtain⟨rfl,_⟩:=rx;exact .inl ⟨_,n,rfl,h1,by rw[dP];exact z,k _ HF H (.refl sm) rfl⟩
 |[.bl b],h=>
  obtain⟨v,rfl,rx⟩:=cj r;cases h;cases rx;exact .inr ⟨b,rfl,k _ HF H (.refl sm) rfl⟩
def DH:FK->FR
 |[t]=>Ks t
 |_=>none
theorem Nd:LN X DH (λxs H Q=>∃p ys,xs=[.ref p]/\(dh X.K H p ys\/k7 X.K H p ys)/\∀l,H l=none->Q (.ref l) (upd H l (.lst ys))):=λB hB al HF H xs t ts Q sm r h k=>by
 match ts,h with
 |[tx],h=>
  obtain⟨v,rfl,rx⟩:=cj r;have h:Ks tx=some t:=h;cases tx<;>first|(cases h;done)|skip
  ·cases h
   obtain⟨l,xs,rfl,q,r⟩:=rx;exact⟨l,xs,rfl,.inr (hB▸bM sm q),λp hp=>k _ _ _ (Gr.new sm hp) ⟨p,_,rfl,ah,r.same (aQ (sm.free hp))⟩⟩
  ·cases h
   obtain⟨l,xs,rfl,q,r⟩:=rx;exact⟨l,xs,rfl,.inl (dh.of (sm _ _ q)),λp hp=>k _ _ _ (Gr.new sm hp) ⟨p,_,rfl,ah,r.same (aQ (sm.free hp))⟩⟩
structure ZO(X:Cx)(n:Str)(f:FK->FR):Prop where
 ex:∃r,LN X f r/\((∃id,bootBuiltins n=some (.builtin id)/\eY X (.builtin id) r)\/∃ty,bootBuiltins n=some (.type ty)/\eY X (.type ty) r)
 nn:n ≠ "__name__"
 nd:bW n
theorem KJ{f:FK->FR}(M:ZO X x f)(hB:B.K=X.K)(hg:Gl X x)(hm:X.mg x=none)(ha:PA X (e::es) (tA B fl))(hs:(e::es).all noStar=true):PE X (.Call (.Name x p) (e::es) [] pos) (tE B (bg f fl)):=by
 obtain⟨⟨r,h1,h2⟩,nn,nd⟩:=M;rw[e9,cO]at hs;rcases h2 with⟨id,hb,hc⟩|⟨ty,hb,hc⟩
 ·exact aP (iH hc hg hm hb ha nn nd (au hs.1) (eE hs.2)) (KA hB h1)
 ·exact aP (gB hc hg hm hb ha nn nd (au hs.1) (eE hs.2)) (KA hB h1)
def wN:List (Str×(FK->FR)):=[("len",bD),("abs",Sf),("all",Ht),("any",wM),("str",strN),("int",lN),("list",DH)]
theorem DI(hc:X.calm=true):∀p∈wN,ZO X p.1 p.2:=by
 intro p h;simp only[wN,cu,o_,or_false]at h;rcases h with rfl|rfl|rfl|rfl|rfl|rfl|rfl
 ·exact⟨⟨_,Se,.inl ⟨_,PySem.boot_len,tZ⟩⟩,by decide,by decide⟩
 ·exact⟨⟨_,Sg,.inl ⟨_,PyProof.Rows.boot_abs,Cs⟩⟩,by decide,by decide⟩
 ·exact⟨⟨_,Sh,.inl ⟨_,PyProof.Rows.boot_all,CW hc⟩⟩,by decide,by decide⟩
 ·exact⟨⟨_,Si,.inl ⟨_,PyProof.Rows.boot_any,CY hc⟩⟩,by decide,by decide⟩
 ·exact⟨⟨_,Sj,.inr ⟨_,Ka,rl⟩⟩,by decide,by decide⟩
 ·exact⟨⟨_,Sl,.inr ⟨_,Kc,AS⟩⟩,by decide,by decide⟩
 ·exact⟨⟨_,Nd,.inr ⟨_,tH,gM⟩⟩,by decide,by decide⟩
end
structure Pg where
 cn:Bi
 an:Bi
 tab:Ap
 sub:Ap
def Pg.fn(P:Pg):List Bi:=P.tab.map λl=>l.map λi=>P.an.getD i Str.empty
structure PU(K:bu)(mg:Str->D1)(n:Str)(ns:Bi)(C:Addr):Prop where
 at_:oZ K mainGlobals n=some (some (.ref C))
 gl:mg n=some (.ref C)
 nd:ns.Nodup
 nq:ns.length<=100
 cl:pC K C
 na:∀f∈ns,eu K C f
 ca:gi K (.ref C) "__class__" = some (some (.builtin "object.__class__"))
 mo:xW K C (.type "object")=some true
structure lO(K:bu)(mg:Str->D1)(P:Pg):Prop where
 cls:∀(c:Nat)(n:Str)(ns:Bi),P.cn[c]?=some n->P.fn[c]?=some ns->∃C,PU K mg n ns C
 sub:∀(c d:Nat)(n n':Str)(C D:Addr)(l:B1),P.cn[c]?=some n->P.cn[d]?=some n'->mg n=some (.ref C)->mg n'=some (.ref D)->P.sub[c]?=some l->qM K (.ref C) (.ref D)=some (decide (d∈l))
 gt:xU K (.builtin "object.__class__") "__get__" = some (some (.builtin "getset_descriptor.__get__"))/\xV K (.builtin "object.__class__")=some true
abbrev Pg.kt(P:Pg)(X:Cx):KT:=⟨X.K,X.prog,X.w,P.cn,P.fn⟩
variable{P:Pg}
theorem lO.of(O:lO X.K X.mg P){c:Nat}{C:Addr}{ns:Bi}(h:iA (P.kt X) c C ns):∃n,P.cn[c]?=some n/\P.fn[c]?=some ns/\PU X.K X.mg n ns C:=by
 obtain⟨n,h1,h2,h3,h4⟩:=h;obtain⟨C',F⟩:=O.cls c n ns h1 h2
 have:C=C':=by
  have:=(show oZ X.K mainGlobals n=some (some (.ref C))from h4).symm.trans F.at_
  injection this with this
  injection this with this
  injection this
 subst this;exact⟨n,h1,h2,F⟩
theorem gU{f:Str}:∀{ns:Bi}{vs:List V}{j:Nat},ns.Nodup->ns[j]?=some f->(ns.zip vs).lookup f=vs[j]?
 |[],vs,j,_,h=>by simp at h
 |n::ns,[],j,_,_=>by simp
 |n::ns,v::vs,0,nd,h=>by
  simp at h;subst h;rw[jh,List.lookup_cons_self];rfl
 |n::ns,v::vs,j+1,nd,h=>by
  simp at h;have e:(f == n)=false:=beq_eq_false_iff_ne.mpr λz=>by subst z;exact(kq.mp nd).1 (je h)
  rw[jh,jf,e];simpa using gU (kq.mp nd).2 h
theorem nI{f:Str}:∀{ns:Bi}{vs:List V},f∉ns->(ns.zip vs).lookup f=none
 |[],vs,_=>by simp
 |n::ns,[],_=>by simp
 |n::ns,v::vs,h=>by
  have e:(f == n)=false:=beq_eq_false_iff_ne.mpr λz=>h (by rw[z];exact eg ..)
  rw[jh,jf,e];exact nI λz=>h (ez _ z)
theorem yN{f:Str}{v:V}:∀{ns:Bi}{vs:List V}{j:Nat},ns.Nodup->ns[j]?=some f->vs.length<=ns.length->j<vs.length->L2.c8 f v (ns.zip vs)=ns.zip (vs.set j v)
 |[],vs,j,_,h,_,_=>by simp at h
 |n::ns,[],j,_,_,_,h=>by simp at h
 |n::ns,w::vs,0,nd,h,_,_=>by
  simp at h;subst h;show(if n=n then(n,v)::ns.zip vs else(n,w)::L2.c8 n v (ns.zip vs))=_
  rw[if_pos rfl];rfl
 |n::ns,w::vs,j+1,nd,h,hl,hj=>by
  simp at h hl hj;show(if n=f then(n,v)::ns.zip vs else(n,w)::L2.c8 f v (ns.zip vs))=_
  rw[if_neg λz=>(kq.mp nd).1 (by rw[z];exact je h),yN (kq.mp nd).2 h hl hj]
  rfl
theorem rM{f:Str}{v:V}:∀{ns:Bi}{vs:List V},ns.Nodup->ns[vs.length]?=some f->L2.c8 f v (ns.zip vs)=ns.zip (vs++[v])
 |[],vs,_,h=>by simp at h
 |n::ns,[],nd,h=>by
  simp at h;subst h;show L2.c8 n v []=(n,v)::ns.zip [];simp[L2.c8]
 |n::ns,w::vs,nd,h=>by
  simp at h;show(if n=f then(n,v)::ns.zip vs else(n,w)::L2.c8 f v (ns.zip vs))=_
  rw[if_neg λz=>(kq.mp nd).1 (by rw[z];exact je h),rM (kq.mp nd).2 h]
  rfl
theorem Hv{l:B1}{f j:Nat}(h:l.idxOf? f=some j):l[j]?=some f:=by
 rw[JG,JH]at h;obtain⟨hj,h1,_⟩:=h;rw[b8 hj,eq_of_beq h1]
theorem lY{c f j:Nat}{n:Str}{ns:Bi}(hf:P.an[f]?=some n)(hc:P.fn[c]?=some ns)(h:gP P.tab c f=some j):ns[j]?=some n:=by
 unfold gP at h;obtain⟨l,h1,h2⟩:=ba.mp h;unfold Pg.fn at hc;rw[dB,h1]at hc;cases hc;rw[dB,Hv h2];show some (P.an.getD f Str.empty)=_;rw[fj,hf];rfl
theorem KL(O:lO X.K X.mg P){f:Nat}{n:Str}(hf:P.an[f]?=some n)(he:PE X e (tE (P.kt X) fa))(hb:bK e=true):PE X (.Attribute e n pos) (tE (P.kt X) (aC P.tab f fa)):=by
 refine aP (Cv he (gT hb)) λσ H Q zz=>?_;obtain⟨g,s,t,s',x,h,k⟩:=zz;obtain⟨⟨tx,s1⟩,h1,h⟩:=ae h;refine⟨g,s,_,s1,x,h1,λv g1 H1 p1 x1 r1=>?_⟩;cases tx<;>first|(cases h;done)|skip
 ·rename_i c fs
  obtain⟨u,h2,h⟩:=ae h;cases h;obtain⟨j,h3,h4⟩:=ba.mp (aj h2);obtain⟨a,C,dx,ns,vs,rfl,hC,hq,hl,hd,r⟩:=r1;obtain⟨m,hm,vP,F⟩:=O.of hC;have hj:=lY hf vP h3;obtain⟨w,hw,wy⟩:=r.get h4;exact⟨a,C,dx,_,w,rfl,x1.sub _ _ hq,F.cl,F.na _ (je hj),by rw[gU F.nd hj,hw],k _ g1 H1 p1 x1 wy⟩
 ·rename_i kk
  obtain⟨c,h2,h⟩:=ae h;obtain⟨ob,h3,h4⟩:=ba.mp (aj h2);obtain⟨j,h5,h6⟩:=ba.mp h4;obtain⟨a,rfl,ha⟩:=r1;rcases x1.st.at_ kk ob h3 with⟨a',C,dx,ns,vs,Z⟩|⟨a',Z⟩
  case inr=>
   obtain⟨l,q,_⟩:=ba.mp h5;have z:(P.tab.map _)[ob.c]?=none:=Z.nf;rw[dB,q]at z;cases z
  have:=Z.al.symm.trans ha
  cases this;obtain⟨m,hm,vP,F⟩:=O.of Z.cl;have hj:=lY hf vP h5;obtain⟨w,hw,sl⟩:=Z.f j c h6;cases c with
  |val t'=>
   cases h;exact⟨a,C,dx,_,w,rfl,Z.h,F.cl,F.na _ (je hj),by rw[gU F.nd hj,hw],k _ g1 H1 p1 x1 sl⟩
  |ol ts=>cases h
  |od ks ts=>cases h
  |yg t=>cases h
def tyB(ty:String):T->Option Bool
 |.non=>some false
 |.bl _=>some (ty == "bool" ||ty == "int")
 |.int _=>some (ty == "int")
 |.str _=>some (ty == "str")
 |.tup _=>some (ty == "tuple")
 |.lst _=>some (ty == "list")
 |_=>none
def Nf(ty:String):T->FR:=λt=>(tyB ty t).map .bl
theorem Ng{B:KT}{al:BM}{H:Hp}{t:T}{v:V}{Ty:String}{u:Bool}(ka:jr Ty)(r:Rep B al H t v)(h:tyB Ty t=some u):∃tn,i8 B.K H v tn/\qM B.K tn (.type Ty)=some u:=by
 cases t with
 |non=>cases(show v=.non from r);cases h;exact⟨_,.non,kK B.K ka.non⟩
 |bl b=>cases(show v=.bl b from r);cases h;exact⟨_,.bl _,kK B.K ka.bl⟩
 |int i=>cases(show v=.int i from r);cases h;exact⟨_,.int _,kK B.K ka.int⟩
 |str l=>obtain⟨rfl,_⟩:=r;cases h;exact⟨_,.str _,kK B.K ka.str⟩
 |tup ts=>obtain⟨a,vs,rfl,q,_⟩:=r;cases h;exact⟨_,.tup q,kK B.K ka.tup⟩
 |lst ts=>obtain⟨a,vs,rfl,q,_⟩:=r;cases h;exact⟨_,.lst q,kK B.K ka.lst⟩
 |_=>cases h
def uA:List (Str×String):=[("int","int"),("bool","bool"),("str","str"),("tuple","tuple"),("list","list")]
theorem Sm:∀q∈uA,jr q.2/\bootBuiltins q.1=some (.type q.2)/\q.1 ≠ "__name__" /\ (q.1 == ("__debug__" : Str))=false:=by
 intro p h;simp only[uA,cu,o_,or_false]at h;rcases h with rfl|rfl|rfl|rfl|rfl
 ·exact⟨M_,Kc,by decide,by decide⟩
 ·exact⟨Ho,PyProof.Rows.boot_bool,by decide,by decide⟩
 ·exact⟨Na,Ka,by decide,by decide⟩
 ·exact⟨DC,PyProof.Rows.boot_tuple,by decide,by decide⟩
 ·exact⟨Hq,tH,by decide,by decide⟩
theorem Nh{B:KT}(hB:B.K=X.K){ty:String}{py:Pos}(hy:(y,ty)∈uA)(hm:X.mg "isinstance" = none)(Sn:X.mg y=none)(ha:PE X a (tE B fa))(hg:Gl X "isinstance")(R0:Gl X y)(hs:noStar a=true) :
  PE X (.Call (.Name "isinstance" p) [a,.Name y py] [] pos) (tE B (du (Nf ty) fa)):=by
 obtain⟨ka,hb,hn,hd⟩:=Sm _ hy;have yo:starEach [Expr.Name y py] X.env=(false,eval (.Name y py) X.env)::starEach [] X.env:=rfl;refine aP (iH ug hg hm Ce (aV ha (aV (Gq R0 Sn hb (v:=.ty ty) rfl hn hd) cP yo) (au hs)) (he:=au hs) (hpl:=rfl))
  (Kz hB (r:=λx H Q=>∃x' T' t b,[x,.ty ty]=[x',.ty T']/\i8 X.K H x' t/\qM X.K t (.type T')=some b/\Q (.bl b) H) λB hB al HF H x t tx Q sm rx h k=>?_)
 obtain⟨u,h1,rfl⟩:=cz.mp h;obtain⟨tn,h2,h3⟩:=Ng ka (rx.same sm) h1;exact⟨x,ty,tn,u,rfl,hB▸h2,hB▸h3,k _ HF H (.refl sm) rfl⟩
def fZ(sub:Ap)(ds:B1):T->FR
 |.obj c _=>(sub[c]?).map λl=>.bl (ds.any λd=>decide (d∈l))
 |_=>none
theorem DJ:eY X (.builtin "isinstance") (λxs H Q=>∃x D t b,xs=[x,.ref D]/\i8 X.K H x t/\qM X.K t (.ref D)=some b/\Q (.bl b) H):=by
 intro aa s σ H xs us Q I r h;obtain⟨x,D,t,b,rfl,ty,e,q⟩:=h;obtain⟨u,u',rfl,ru,Q_⟩:=vals2 r;cases Q_;exact qa I ru ty e λtk=>⟨.bl b,H,I.tok _,rfl,q⟩
theorem So(O:lO X.K X.mg P){d:Nat}{py:Pos}(hy:P.cn[d]?=some y)(hm:X.mg "isinstance" = none)(ha:PE X a (tE (P.kt X) fa))(hg:Gl X "isinstance")(R0:Gl X y)(hs:noStar a=true)(hd:bW y)(Qa:(P.fn[d]?).isSome=true) :
  PE X (.Call (.Name "isinstance" p) [a,.Name y py] [] pos) (tE (P.kt X) (du (fZ P.sub [d]) fa)):=by
 obtain⟨ns,vP⟩:=Cc.mp Qa;obtain⟨D,FD⟩:=O.cls d y ns hy vP;have yo:starEach [Expr.Name y py] X.env=(false,eval (.Name y py) X.env)::starEach [] X.env:=rfl;refine aP (iH DJ hg hm Ce (aV ha (aV (qY (v:=.ref D) R0 FD.gl rfl hd) cP yo) (au hs)) (he:=au hs) (hpl:=rfl)) λσ H Q zz=>?_;obtain⟨g,s,t,s',x,h,k⟩:=zz;obtain⟨⟨tx,s1⟩,h1,h⟩:=ae h;obtain⟨t',h2,h⟩:=ae h;cases h;refine⟨g,s,_,_,x,h1,λv g1 H1 p1 x1 r1=>?_⟩;have h2:=aj h2;cases tx<;>first|(cases h2;done)|skip
 obtain⟨l,hl,rfl⟩:=cz.mp h2;obtain⟨a,C,dx,C6,vs,rfl,hC,hq,hle,hdx,r⟩:=r1;obtain⟨m,Xn,Xo,F⟩:=O.of hC;refine⟨_,D,_,_,rfl,.ins (x1.sub _ _ hq) F.cl F.ca O.gt.1 O.gt.2 F.mo,O.sub _ d m y C D l Xn hy F.gl FD.gl hl,?_⟩
 have:=k (V.bl (decide (d∈l))) g1 H1 p1 x1 (by show _=V.bl (([d]:B1).any λd=>decide (d∈l));simp)
 exact this
abbrev jt(P:Pg)(K:bu)(Pr:Program)(w:World):KT:=⟨K,Pr,w,P.cn,P.fn⟩
def qr(B:KT)(f:Fn):Sp:=λvs H Q _=>∃g ts m t m',fE B g H m/\az B g.al g.HF ts vs/\f ts m=.ok (t,m')/\∀v g' H',eO g H g' H'->fE B g' H' m'->Rep B g'.al g'.HF t v->Q v H'
structure Xp(P:Pg)(Pr:Program)(w:World)(K:bu)(mg:Str->D1)(base:Heap)(k:Nat)(x:Str)(ds:FK)(f:Fn):Prop where
 ex:∃(fa:Addr)(fd:FuncData)(ps:Bi)(gq:B2)(dV:List V),dH Pr w K mg base lJ k fa fd ps (qr (jt P K Pr w) f)/\mg x=some (.ref fa)/\oY K (.ref fa)=true/\Binds K fd ps gq/\Vals dV gq/\∀al H,az (jt P K Pr w) al H ds dV
theorem j0{f:Fn}{ds:FK}{t:T}(h:ao f ds fl s=.ok (t,s')):∃ts s1 m',fl s=.ok (ts,s1)/\f (ts++ds) s1.m=.ok (t,m')/\s'={s1 with m:=m'}:=by
 obtain⟨⟨ts,s1⟩,h1,h⟩:=ae h;dsimp only at h;cases q:f (ts++ds) s1.m with
 |ok r=>rw[q]at h;cases h;exact⟨ts,s1,r.2,h1,q,rfl⟩
 |bad=>rw[q]at h;cases h
 |exc c fs s2=>rw[q]at h;cases h
theorem uB{B:KT}{f:Fn}{ts:FK}{t:T}{m':FV}{vs:List V}{Q:VK}{E:XK}(x:SR B g H σ s)(r:az B g.al g.HF ts vs)(h:f ts s.m=.ok (t,m'))(k:∀v g' H',eO g H g' H'->SR B g' H' σ {s with m:=m'}->Rep B g'.al g'.HF t v->Q v H'):qr B f vs H Q E:=
 ⟨g.ai,ts,s.m,t,m',x.st.ai,r,h,λv g' H' p y rv=>let⟨p2,x2⟩:=x.back p y;k v (G.back g g') H' p2 x2 rv⟩
theorem s_call{k j:Nat}{ds:FK}{f:Fn}(D:Xp P X.prog X.w X.K X.mg X.base k x ds f)(hr:bC j X.A)(AU:k<=j)(ha:PA X (e::es) (tA (P.kt X) fl))(hg:Gl X x)(mV:bW x)(hs:(e::es).all noStar=true) :
  PE X (.Call (.Name x p) (e::es) [] pos) (tE (P.kt X) (ao f ds fl)):=by
 obtain⟨ff,fd,ps,gq,dV,F,hm,hk,hb,hd,uC⟩:=D.ex;rw[e9,cO]at hs;refine aP (GJ F (hr.mono AU) hg hm hk hb hd mX ha mV (au hs.1) (eE hs.2)) λσ H Q zz=>?_;obtain⟨g,s,t,s',x,h,k⟩:=zz;obtain⟨ts,s1,m',h1,h2,rfl⟩:=j0 h;exact⟨g,s,ts,s1,x,h1,λvs g1 H1 p1 x1 r1=>uB x1 (r1.app (uC _ _)) h2 λv g' H' p2 x2 rv=>k v g' H' (p1.trans p2) x2 rv⟩
theorem Hw{k j:Nat}{ds:FK}{f:Fn}(D:Xp P X.prog X.w X.K X.mg X.base k x ds f)(hr:bC j X.A)(AU:k<=j)(hg:Gl X x)(mV:bW x) :
  PE X (.Call (.Name x p) [] [] pos) (tE (P.kt X) (ao f ds bq)):=by
 obtain⟨ff,fd,ps,gq,dV,F,hm,hk,hb,hd,uC⟩:=D.ex;refine aP (CA F (hr.mono AU) hg hm hk hb hd mX mV) λσ H Q zz=>?_;obtain⟨g,s,t,s',x,h,k⟩:=zz;obtain⟨ts,s1,m',h1,h2,rfl⟩:=j0 h;cases h1;exact uB (E:=E0) (vs:=[]++dV) x (uC _ _) h2 λv g' H' p2 x2 rv=>k v g' H' p2 x2 rv
structure Vu(P:Pg)(Pr:Program)(w:World)(K:bu)(mg:Str->D1)(base:Heap)(k:Nat)(c:Nat)(m:Str)(f:Fn):Prop where
 ex:∃(C fa:Addr)(fd:FuncData)(ps:Bi)(ns:Bi),iA (jt P K Pr w) c C ns/\pC K C/\Meth K C m fa/\dH Pr w K mg base lJ k fa fd ps (qr (jt P K Pr w) f)/\Binds K fd ps []/\m∉ns
theorem DK{ι:Type}{t:ι->TE}{t':TE}{C:ι->Prop}(h:∀i,C i->PE X e (t i))(k:∀σ H Q,t' σ H Q->∃i,C i/\t i σ H Q):PE X e t':=λaa s σ H Q I q=>by
 obtain⟨i,hi,hq⟩:=k σ H Q q;exact h i hi aa s σ H Q I hq
def DL(X:Cx)(o:Expr)(m:Str)(b_:Pos)(es:Bz)(pos:Pos):Prop:=∃pl,eval (.Call (.Attribute o m b_) es [] pos) X.env=(do
   let ov <- eval o X.env
   standAt b_.atName
   let(f,first) <- holding [ov] (getMethod ov m pl)
   callWith pos f first (backTo pos (starEach es X.env)) (backToKw pos (keywordEach [] X.env)))
theorem uD{gm:Nat->Option Fn}{t:T}(h:av gm fo fl s=.ok (t,s')):∃tx s1 c f ts s2 m',fo s=.ok (tx,s1)/\((∃k ob,tx=.own k/\s1.m[k]?=some ob/\ob.c=c)\/∃fs,tx=.obj c fs)/\gm c=some f/\fl s1=.ok (ts,s2)/\f (tx::ts) s2.m=.ok (t,m')/\s'={s2 with m:=m'}:=by
 obtain⟨⟨tx,s1⟩,h1,h⟩:=ae h;cases tx<;>first|(cases h;done)|skip
 ·rename_i c fs
  obtain⟨f,h2,h⟩:=ae h;obtain⟨us,s2,m',h3,h4,rfl⟩:=j0 h;obtain⟨⟨ts,s3⟩,h5,h6⟩:=ae h3;cases h6;rw[dz]at h4;exact⟨_,s1,c,f,ts,_,m',h1,.inr ⟨fs,rfl⟩,aj h2,h5,h4,rfl⟩
 ·rename_i kk
  obtain⟨f,h2,h⟩:=ae h;obtain⟨ob,h7,h8⟩:=ba.mp (aj h2);obtain⟨us,s2,m',h3,h4,rfl⟩:=j0 h;obtain⟨⟨ts,s3⟩,h5,h6⟩:=ae h3;cases h6;rw[dz]at h4;exact⟨_,s1,ob.c,f,ts,_,m',h1,.inl ⟨kk,ob,rfl,h7,rfl⟩,h8,h5,h4,rfl⟩
theorem DM{B:KT}{C:Addr}{ns:Bi}{c:Nat}{tx:T}{v:V}(x:SR B g H σ s)(hC:iA B c C ns)(r:Rep B g.al g.HF tx v)(h:(∃k ob,tx=.own k/\s.m[k]?=some ob/\ob.c=c)\/∃fs,tx=.obj c fs):∃a dx vs,v=.ref a/\H a=some (.ins C dx (ns.zip vs)):=by
 rcases h with⟨k,ob,rfl,h1,rfl⟩|⟨fs,rfl⟩
 ·obtain⟨a,rfl,ha⟩:=r
  rcases x.st.at_ k ob h1 with⟨a',C',dx,C6,vs,Z⟩|⟨a',Z⟩
  case inr=>
   obtain⟨n,q,_⟩:=hC;rw[Z.nc]at q;cases q
  have:=Z.al.symm.trans ha
  cases this;obtain⟨rfl,rfl⟩:=Z.cl.eq hC;exact⟨a,dx,vs,rfl,Z.h⟩
 ·obtain⟨a,C',dx,C6,vs,rfl,hC',hq,_⟩:=r
  obtain⟨rfl,rfl⟩:=hC'.eq hC;exact⟨a,dx,vs,rfl,x.sub _ _ hq⟩
theorem Ni{m:Str}{k j:Nat}{gm:Nat->Option Fn}(D:∀c f,gm c=some f->Vu P X.prog X.w X.K X.mg X.base k c m f)(hr:bC j X.A)(AU:k<=j)(ho:PE X o (tE (P.kt X) fo))(ha:PA X (e::es) (tA (P.kt X) fl))(hs:(e::es).all noStar=true)(mc:DL X o m b_ (e::es) pos) :
  PE X (.Call (.Attribute o m b_) (e::es) [] pos) (tE (P.kt X) (av gm fo fl)):=by
 obtain⟨pl,mc⟩:=mc;rw[e9,cO]at hs;refine DK (ι:=Addr×Fn) (C:=λi=>∃c fa fd ps ns,iA (P.kt X) c i.1 ns/\gm c=some i.2/\pC X.K i.1/\Meth X.K i.1 m fa/\dH X.prog X.w X.K X.mg X.base lJ k fa fd ps (qr (P.kt X) i.2)/\Binds X.K fd ps []/\m∉ns)
  (t:=λi=>yp i.1 m (qr (P.kt X) i.2) [] E0 (tE (P.kt X) fo) (tA (P.kt X) fl)) (λi ⟨c,fa,fd,ps,ns,hC,_,cl,M,F,hb,_⟩=>GK (pl:=pl) ho cl M F (hr.mono AU) hb .nil mX ha (au hs.1) (eE hs.2) mc) ?_
 rintro σ H Q ⟨g,s,t,s',x,h,k⟩
 obtain⟨tx,s1,c,f,ts,s2,m',h1,hc,hf,h3,h4,rfl⟩:=uD h;obtain⟨C,fa,fd,ps,ns,hC,cl,M,F,hb,hn⟩:=(D c f hf).ex;refine⟨(C,f),⟨c,fa,fd,ps,ns,hC,hf,cl,M,F,hb,hn⟩,g,s,_,s1,x,h1,λv g1 H1 p1 x1 r1=>?_⟩;obtain⟨a,dx,vs,rfl,hi⟩:=DM x1 hC r1 hc;refine⟨a,dx,_,rfl,hi,nI hn,g1,s1,ts,s2,x1,h3,λus g2 H2 p2 x2 r2=>?_⟩;show qr _ _ (V.ref a::(us++[])) H2 Q E0;rw[dz];exact uB (ts:=tx::ts) x2 ⟨_,us,rfl,r1.mv p2.pre p2.fr,r2⟩ h4 λv g' H' p3 x3 rv=>k v g' H' ((p1.trans p2).trans p3) x3 rv
theorem Hx{m:Str}{k j:Nat}{gm:Nat->Option Fn}(D:∀c f,gm c=some f->Vu P X.prog X.w X.K X.mg X.base k c m f)(hr:bC j X.A)(AU:k<=j)(ho:PE X o (tE (P.kt X) fo))(mc:DL X o m b_ [] pos) :
  PE X (.Call (.Attribute o m b_) [] [] pos) (tE (P.kt X) (av gm fo bq)):=by
 obtain⟨pl,mc⟩:=mc;refine DK (ι:=Addr×Fn) (C:=λi=>∃c fa fd ps ns,iA (P.kt X) c i.1 ns/\gm c=some i.2/\pC X.K i.1/\Meth X.K i.1 m fa/\dH X.prog X.w X.K X.mg X.base lJ k fa fd ps (qr (P.kt X) i.2)/\Binds X.K fd ps []/\m∉ns)
  (t:=λi=>yp i.1 m (qr (P.kt X) i.2) [] E0 (tE (P.kt X) fo) GI) (λi ⟨c,fa,fd,ps,ns,hC,_,cl,M,F,hb,_⟩=>CB (pl:=pl) ho cl M F (hr.mono AU) hb .nil mX mc) ?_
 rintro σ H Q ⟨g,s,t,s',x,h,k⟩
 obtain⟨tx,s1,c,f,ts,s2,m',h1,hc,hf,h3,h4,rfl⟩:=uD h;cases h3;obtain⟨C,fa,fd,ps,ns,hC,cl,M,F,hb,hn⟩:=(D c f hf).ex;refine⟨(C,f),⟨c,fa,fd,ps,ns,hC,hf,cl,M,F,hb,hn⟩,g,s,_,s1,x,h1,λv g1 H1 p1 x1 r1=>?_⟩;obtain⟨a,dx,vs,rfl,hi⟩:=DM x1 hC r1 hc;exact⟨a,dx,_,rfl,hi,nI hn,uB (E:=E0) (ts:=[tx]) (vs:=[.ref a]) x1 (.one r1) h4 λv g' H' p3 x3 rv=>k v g' H' (p1.trans p3) x3 rv⟩
def ZP(C:Addr)(ns:Bi):Sp:=λvs H Q _=>∃x dx args,vs=.ref x::args/\args.length=ns.length/\H x=some (.ins C dx [])/\Q .non (upd H x (.ins C dx (ns.zip args)))
structure ZQ(P:Pg)(Pr:Program)(w:World)(K:bu)(mg:Str->D1)(base:Heap)(k:Nat)(c n:Nat)(x:Str):Prop where
 ex:∃(C fi:Addr)(fd:FuncData)(ps:Bi)(ns:Bi),iA (jt P K Pr w) c C ns/\ns.length=n/\mg x=some (.ref C)/\Mk K C fi/\dH Pr w K mg base lJ k fi fd ps (ZP C ns)/\Binds K fd ps []
theorem yO{B:KT}{c:Nat}{C x dx:Addr}{ns:Bi}{ts:FK}{vs:List V}(X1:SR B g H σ s)(hC:iA B c C ns)(hl:vs.length<=ns.length)(r:az B g.al g.HF ts vs)(nx:H x=none)(nd:H dx=none)(ie:dx≠x) :
  ∃gr:Gr g.HF H (upd (upd g.HF dx (.own x)) x (.ins C dx (ns.zip vs))) (upd (upd H dx (.own x)) x (.ins C dx (ns.zip vs))),Rep B g.al (upd (upd g.HF dx (.own x)) x (.ins C dx (ns.zip vs))) (.obj c ts) (.ref x):=by
 have g2:=Gr.new (o:=.own x) X1.sub nd;have Xq:upd H dx (.own x) x=none:=by rw[aq (Ne.symm ie)];exact nx
 have g3:=Gr.new (o:=.ins C dx (ns.zip vs)) g2.sub Xq;exact⟨g2.trans g3,x,C,dx,ns,vs,rfl,hC,ah,hl,by rw[aq ie,ah],r.same (g2.fr.trans g3.fr)⟩
theorem Sq{k j c n:Nat}(D:ZQ P X.prog X.w X.K X.mg X.base k c n x)(hr:bC j X.A)(AU:k+1<=j)(ha:PA X (e::es) (tA (P.kt X) fl))(hg:Gl X x)(mV:bW x)(hs:(e::es).all noStar=true) :
  PE X (.Call (.Name x p) (e::es) [] pos) (tE (P.kt X) (cD c n fl)):=by
 obtain⟨C,f,fd,ps,ns,hC,hn,hm,M,F,hb⟩:=D.ex;rw[e9,cO]at hs;refine aP (rn M F (hr.mono AU) hg hm hb .nil mX ha mV (au hs.1) (eE hs.2)) λσ H Q zz=>?_;obtain⟨g,s,t,s',x,h,k⟩:=zz;obtain⟨⟨ts,s1⟩,h1,h⟩:=ae h;dsimp only at h;split at h
 ·rename_i hl
  cases h;refine⟨g,s,ts,_,x,h1,λvs g1 H1 p1 x1 r1 x dx nx nd ie=>?_⟩;have hvl:vs.length=ns.length:=by rw[<- r1.len,hl,hn]
  refine⟨x,dx,vs++[],rfl,by rw[dz,hvl],ah,rfl,?_⟩
  rw[dz,qT];obtain⟨gr,rp⟩:=yO (c:=c) (ts:=ts) x1 hC (by omega) r1 nx nd ie
  exact k _ (g1.grow _) _ (p1.trans (x1.gv gr)) (x1.grow gr) rp
 ·cases h
section
structure ZR(K:bu)(C:Addr):Prop where
 makes:Bx K C=true
 init:gi K (.ref C) "__init__" = some (some (.builtin "object.__init__"))
 kp:oY K (.ref C)=true
def Xr(C:Addr):TE:=λ_ H Q=>∀x dx,H x=none->H dx=none->dx≠x->Q (.ref x) (upd (upd H dx (.own x)) x (.ins C dx []))
open PySem.W in
theorem Nj{C:Addr}(M:ZR X.K C)(hg:Gl X x)(hm:X.mg x=some (.ref C))(mV:bW x:=by decide):PE X (.Call (.Name x p) [] [] pos) (Xr C):=by
 intro aa s σ H Q I h;refine wpAny_Call_Name_kw (jJ I hg hm ?_ mV);refine BE I.jG M.kp ?_;have hq:=h (s.heap.objs.size+1) s.heap.objs.size (I.bx.fresh (tD _)) (I.bx.fresh (cC _)) (fk (vW _));have I2:=Inv.made (C:=C) I;have KX:=I.jG;obtain⟨hh,g,d,t,os⟩:=s;refine wpAny_call ?_;have Y:=makes_of (M:=model X.prog X.w) KX M.makes;refine make_core Y (looks_findIn KX M.init) (λself=>Looks.of_pure (oi_bind self)) (.inr ⟨rfl,rfl⟩) ?_;have hz:(hh.push emptyDict).objs.size=hh.objs.size+1:=Heap.size_push ..;have gt:((hh.push emptyDict).push (instObj C hh.objs.size)).get? (hh.objs.size+1)=some (instObj C hh.objs.size):=by
  rw[<- hz];exact Heap.get?_push_size _ rfl
 have t1:Looks (model X.prog X.w) ((hh.push emptyDict).push (instObj C hh.objs.size)) (typeOf (.ref (hh.objs.size+1))) (.ref C):=(Looks.ld gt).andThen .now;have t2:Looks (model X.prog X.w) ((hh.push emptyDict).push (instObj C hh.objs.size)) (isInstance (.ref (hh.objs.size+1)) (.type "object")) true:=t1.andThen (Y.top.keeps λb o e=>Heap.get?_push_of_some _ (Heap.get?_push_of_some _ e));refine codeAny_call_builtin oi_plain entry_oi (@check_slot (model X.prog X.w) _ _ _ "object.__init__" "object" "__init__" (.ref (hh.objs.size+1)) [] [] _ oi_kind oi_split t2 (oi_args (.ref (hh.objs.size+1))) ?_);show wpAny _ _ (Builtin.«object.__init__» ⟨[Value.ref (hh.objs.size+1)],[]⟩) _ _ _;rw[oi_run];exact wpAny_pure (And.intro rfl ⟨V.ref (hh.objs.size+1),_,I2,rfl,hq⟩)
end
structure Ss(P:Pg)(Pr:Program)(w:World)(K:bu)(mg:Str->D1)(c:Nat)(x:Str):Prop where
 ex:∃(C:Addr)(ns:Bi),iA (jt P K Pr w) c C ns/\mg x=some (.ref C)/\ZR K C
theorem Nk{c:Nat}(D:Ss P X.prog X.w X.K X.mg c x)(hg:Gl X x)(mV:bW x):PE X (.Call (.Name x p) [] [] pos) (tE (P.kt X) (cD c 0 bq)):=by
 obtain⟨C,ns,hC,hm,M⟩:=D.ex;refine aP (Nj M hg hm mV) λσ H Q zz=>?_;obtain⟨g,s,t,s',z,h,k⟩:=zz;cases h;intro x dx nx nd ie;obtain⟨gr,rp⟩:=yO (c:=c) (ts:=[]) (vs:=[]) z hC (i6 _) rfl nx nd ie;have e:ns.zip ([]:List V)=[]:=JI
 have:=k _ (g.grow _) _ (z.gv gr) (z.grow gr) rp
 rw[e]at this;exact this
section
structure Walk(B:KT)(al:BM)(J:It)(HF:Hp)(ts:FK):Prop where
 go:∀i H,aK HF H->i<ts.length->J.go i H
 yld:∀i H x H',aK HF H->i<ts.length->J.yld i H x H'->∃t,ts[i]?=some t/\∀uE,aK HF uE->aK uE H->∃Nl,Gr uE H Nl H'/\Rep B al Nl t x
 stop:∀i H,aK HF H->i=ts.length->J.stop i H
theorem AV{B:KT}{al:BM}{HF:Hp}{l:Addr}{ts:FK}{vs:List V}(h:HF l=some (.lst vs))(r:az B al HF ts vs):Walk B al (Ve B.K l) HF ts:=by
 refine⟨λi H sm hi=>?_,λi H x H' sm hi y=>?_,λi H sm hi=>⟨vs,dh.of (sm _ _ h),by rw[hi,r.len];exact cC _⟩⟩
 ·obtain⟨v,e,_⟩:=r.get (b8 hi)
  exact⟨vs,v,dh.of (sm _ _ h),e⟩
 ·obtain⟨rfl,y⟩:=y
  have e:=y vs (dh.of (sm _ _ h));obtain⟨t,e1,e2⟩:=r.wG e;exact⟨t,e1,λuE s1 s2=>⟨uE,.refl s2,e2.same s1⟩⟩
theorem DN{B:KT}{al:BM}{HF:Hp}{l:Addr}{ts:FK}{vs:List V}(h:k7 B.K HF l vs)(r:az B al HF ts vs):Walk B al (Wb B.K l) HF ts:=by
 refine⟨λi H sm hi=>?_,λi H x H' sm hi y=>?_,λi H sm hi=>⟨vs,bM sm h,by rw[hi,r.len];exact cC _⟩⟩
 ·obtain⟨v,e,_⟩:=r.get (b8 hi)
  exact⟨vs,v,bM sm h,e⟩
 ·obtain⟨rfl,y⟩:=y
  have e:=y vs (bM sm h);obtain⟨t,e1,e2⟩:=r.wG e;exact⟨t,e1,λuE s1 s2=>⟨uE,.refl s2,e2.same s1⟩⟩
theorem j1{B:KT}{al:BM}{J:It}{src:List V}{ts:FK}{HF:Hp}(d:Vn J src (λ_=>True))(r:az B al HF ts src):Walk B al J HF ts:=by
 refine⟨λi H sm hi=>d.go i H trivial (by rw[<- r.len];exact hi),λi H x H' sm hi y=>?_,λi H sm hi=>d.stop i H trivial (by rw[<- r.len];exact hi)⟩
 obtain⟨rfl,e⟩:=d.yld i H x H' trivial (by rw[<- r.len];exact hi) y
 obtain⟨t,e1,e2⟩:=r.wG e;exact⟨t,e1,λuE s1 s2=>⟨uE,.refl s2,e2.same s1⟩⟩
theorem az.iT{B:KT}{al:BM}{H:Hp}(lo:Int)(n:Nat):az B al H (D.iT lo n) ((dZ n).map λk=>V.int (lo+(k:Nat))):=by
 have e1:D.iT lo n=((dZ n).map λk=>lo+((k:Nat):Int)).map T.int:=by unfold D.iT;rw[fQ];rfl
 have e2:((dZ n).map λk=>V.int (lo+(k:Nat)))=((dZ n).map λk=>lo+((k:Nat):Int)).map V.int:=by rw[fQ];rfl
 rw[e1,e2];exact az.ints _
theorem DO(hi:Int)(n:Nat):Vn (WE hi n) ((dZ n).map λk=>V.int (hi-(k:Nat))) (λ_=>True):=
 ⟨λi H _ h=>by rw[bF,jg]at h;exact h,
  λi H x H' _ hi y=>by
  obtain⟨e,ex⟩:=y;refine⟨e,?_⟩;have hi:i<n:=by rw[bF,jg]at hi;exact hi
  rw[dB,vV hi,ex];rfl,
  λi H _ h=>by rw[bF,jg]at h;exact tu h.symm⟩
theorem az.dwn{B:KT}{al:BM}{H:Hp}(hi:Int)(n:Nat):az B al H ((dZ n).map λk=>T.int (hi-(k:Nat))) ((dZ n).map λk=>V.int (hi-(k:Nat))):=by
 have e1:((dZ n).map λk=>T.int (hi-(k:Nat)))=((dZ n).map λk=>hi-((k:Nat):Int)).map T.int:=by rw[fQ];rfl
 have e2:((dZ n).map λk=>V.int (hi-(k:Nat)))=((dZ n).map λk=>hi-((k:Nat):Int)).map V.int:=by rw[fQ];rfl
 rw[e1,e2];exact az.ints _
structure Sets(B:KT)(al:BM)(HF:Hp)(S:B1)(σ σ':St)(ρ ρ':Fs):Prop where
 len:σ'.length=σ.length
 lenR:ρ'.length=ρ.length
 off:∀(i:Nat),i∉S->σ'[i]?=σ[i]?/\ρ'[i]?=ρ[i]?
 on:∀(i:Nat),i∈S->i<ρ.length->∃(t:T)(v:V),ρ'[i]?=some (some (.val t))/\σ'[i]?=some (some v)/\Rep B al HF t v
structure uF(B:KT)(g:TG)(fg:FG)(S:B1):Prop where
 ok:∀(al:BM)(HF H:Hp)(σ:St)(ρ:Fs)(t:T)(v:V)(ρ':Fs)(Q:St->Hp->Prop),aK HF H->Rep B al HF t v->fg t ρ=some ρ'->ρ.length=σ.length->(∀σ',Sets B al HF S σ σ' ρ ρ'->Q σ' H)->g v σ H Q
theorem Sets.one{B:KT}{al:BM}{HF:Hp}{i:Nat}{σ:St}{ρ:Fs}{t:T}{v:V}(hl:ρ.length=σ.length)(r:Rep B al HF t v):Sets B al HF [i] σ (σ.set i (some v)) ρ (ρ.set i (some (.val t))):=by
 refine⟨eA,eA,λj hj=>?_,λj hj iW=>?_⟩
 ·have:i≠j:=λe=>hj (by simp[e])
  rw[cy this,cy this];exact⟨rfl,rfl⟩
 ·have:j=i:=by simpa using hj
  subst this;exact⟨t,v,by rw[dW iW],by rw[dW (by omega)],r⟩
theorem yP{B:KT}(i:Nat):uF B (yn i) (setG i) [i]:=⟨λal HF H σ ρ t v ρ' Q sm r h hl q=>by
 cases h;exact q _ (.one hl r)⟩
theorem Sets.cons{B:KT}{al:BM}{HF:Hp}{i:Nat}{S:B1}{σ σ':St}{ρ ρ':Fs}{t:T}{v:V}(hl:ρ.length=σ.length)(r:Rep B al HF t v)(h:Sets B al HF S (σ.set i (some v)) σ' (ρ.set i (some (.val t))) ρ'):Sets B al HF (i::S) σ σ' ρ ρ':=by
 have o:=Sets.one (B:=B) (al:=al) (i:=i) hl r;refine⟨h.len.trans o.len,h.lenR.trans o.lenR,λj hj=>?_,λj hj iW=>?_⟩
 ·obtain⟨h1,h2⟩:=h.off j (λz=>hj (by simp[z]))
  obtain⟨h3,h4⟩:=o.off j (λz=>hj (by simp at z;simp[z]))
  exact⟨h1.trans h3,h2.trans h4⟩
 ·by_cases hs:j∈S
  ·exact h.on j hs (by rw[eA];exact iW)
  ·obtain⟨h1,h2⟩:=h.off j hs
   obtain⟨t',v',a,b,c⟩:=o.on j (by rcases cu.mp hj with z|z;exact(by simp[z]);exact absurd z hs) iW
   exact⟨t',v',h2.trans a,h1.trans b,c⟩
def nJ:B1->Kg
 |[]=>Qp
 |i::is=>Kh (yn i) (nJ is)
theorem qt{B:KT}{al:BM}:∀(is:B1)(HF H:Hp)(σ:St)(ρ:Fs)(ts:FK)(vs:List V)(ρ':Fs)(Q:St->Hp->Prop),aK HF H->az B al HF ts vs->yy is ts ρ=some ρ'->ρ.length=σ.length->(∀σ',Sets B al HF is σ σ' ρ ρ'->Q σ' H)->nJ is vs σ H Q
 |[],HF,H,σ,ρ,ts,vs,ρ',Q,sm,r,h,hl,q=>by
  cases ts with
  |cons t ts=>cases h
  |nil=>
   cases h;cases(show vs=[]from r);exact⟨rfl,q _ ⟨rfl,rfl,λ_ _=>⟨rfl,rfl⟩,λi hi=>by cases hi⟩⟩
 |i::is,HF,H,σ,ρ,ts,vs,ρ',Q,sm,r,h,hl,q=>by
  cases ts with
  |nil=>cases h
  |cons t ts=>
   obtain⟨v,fS,rfl,r1,r2⟩:=r;refine⟨v,fS,rfl,?_⟩;exact qt is HF H _ _ ts fS ρ' Q sm r2 h (by rw[eA,eA];exact hl) λσ' s=>q σ' (.cons hl r1 s)
theorem DP{B:KT}(is:B1){n:Nat}(hn:is.length=n:=by rfl):uF B (L0 B.K n (nJ is)) (e7 is) is:=⟨λal HF H σ ρ t v ρ' Q sm r h hl q=>by
 cases t<;>first|(cases h;done)|skip
 ·rename_i ts
  obtain⟨a,vs,rfl,q1,r⟩:=r;have bO:∀(is:B1)(ts:FK)(ρ:Fs),yy is ts ρ=some ρ'->is.length=ts.length:=by
   intro is
   induction is with
   |nil=>intro ts ρ h;cases ts with
    |nil=>rfl
    |cons=>cases h
   |cons i is ih=>intro ts ρ h;cases ts with
    |nil=>cases h
    |cons t ts=>simp[ih ts _ h]
  exact⟨a,vs,rfl,bM sm q1,by rw[<- r.len,<- bO _ _ _ h,hn],qt is HF H σ ρ ts vs ρ' Q sm r h hl q⟩
⟩
theorem Walk.mv{al Hd:BM}{J:It}{HF fY:Hp}{ts:FK}(w:Walk B al J HF ts)(p:al <+: Hd)(s:aK HF fY):Walk B Hd J fY ts:=
 ⟨λi H h=>w.go i H (s.trans h),λi H x H' h hi y=>let⟨t,h1,h2⟩:=w.yld i H x H' (s.trans h) hi y;⟨t,h1,λuE s1 s2=>let⟨Nl,gr,r⟩:=h2 uE (s.trans s1) s2;⟨Nl,gr,r.mv p (aK.refl _)⟩⟩,λi H h=>w.stop i H (s.trans h)⟩
def tI(B:KT)(f:FL):TI:=λσ H R=>∃g s ts s',SR B g H σ s/\f s=.ok (ts,s')/\∀J g' H',eO g H g' H'->SR B g' H' σ s'->Walk B g'.al J g'.HF ts->R J H'
theorem uG:PI X tg e (tI B fB):=λ_ _ _ _ _ _ ⟨_,_,_,_,_,h,_⟩=>by cases h
theorem KN{t t':TI}(h:PI X tg e t)(h':PI X tg e t'):PI X tg e (λσ H R=>t σ H R\/t' σ H R):=λaa s σ H R I q=>by
 rcases q with q|q
 ·exact h aa s σ H R I q
 ·exact h' aa s σ H R I q
def Nn:T->Bool
 |.str _=>false
 |_=>true
def Np:T->FC
 |.str _=>none
 |t=>Vr t
def Hy(a:FE):FL:=λs=>(a s).bind λp=>(aS (Np p.1)).bind λts=>.ok (ts,p.2)
theorem AW{al:BM}{HF:Hp}{a:Addr}{ns:Dx}(h:dh B.K HF a (ns.map V.int)):Walk B al (Ve B.K a) HF (ns.map T.int):=by
 refine⟨λi H sm hi=>?_,λi H x H' sm hi y=>?_,λi H sm hi=>⟨_,sm.seq h,by rw[hi,bF,bF];exact cC _⟩⟩
 ·rw[bF]at hi
  exact⟨_,.int ns[i],sm.seq h,by rw[dB,b8 hi];rfl⟩
 ·rw[bF]at hi
  obtain⟨rfl,y⟩:=y;have e:=y _ (sm.seq h);obtain⟨t,e1,e2⟩:=(az.ints (B:=B) (al:=al) (H:=HF) ns).wG e;exact⟨t,e1,λuE s1 s2=>⟨uE,.refl s2,e2.same s1⟩⟩
theorem KO(hB:B.K=X.K)(ha:PE X e (tE B fa)):PI X tg e (tI B (Hy fa)):=by
 refine lh (KN (Gy ha) (L8 ha)) λσ H R zz=>?_;obtain⟨g,s,t,s',x,h,k⟩:=zz;obtain⟨⟨tx,s1⟩,h1,h⟩:=ae h;obtain⟨ts,h2,h⟩:=ae h;cases h;have h2:=aj h2;have Xu:=hB.symm;cases tx<;>first|(cases h2;done)|skip
 ·cases h2
  refine .inr ⟨g,s,_,_,x,h1,λv g1 H1 p1 x1 r1=>?_⟩;obtain⟨l,vs,rfl,q,r⟩:=r1;refine⟨l,rfl,⟨vs,hB▸bM x1.sub q⟩,?_⟩;rw[Xu];exact k _ g1 H1 p1 x1 (DN q r)
 ·cases h2
  refine .inl ⟨g,s,_,_,x,h1,λv g1 H1 p1 x1 r1=>?_⟩;obtain⟨l,vs,rfl,q,r⟩:=r1;refine⟨l,rfl,⟨vs,dh.of (x1.sub _ _ q)⟩,?_⟩;rw[Xu];exact k _ g1 H1 p1 x1 (AV q r)
 ·cases h2
  refine .inl ⟨g,s,_,_,x,h1,λv g1 H1 p1 x1 r1=>?_⟩;obtain⟨l,rfl,q⟩:=r1;refine⟨l,rfl,⟨_,hB▸x1.sub.seq q⟩,?_⟩;rw[Xu];exact k _ g1 H1 p1 x1 (AW q)
theorem Su(hB:B.K=X.K){px:Pos}(ha:PE X e (tE B fa)):PI X (.Name x px) e (tI B (nz fa)):=by
 refine lh (KN (KO hB ha) (Mz ha)) λσ H R zz=>?_;obtain⟨g,s,t,s',z,h,k⟩:=zz;obtain⟨⟨tx,s1⟩,h1,h⟩:=ae h;obtain⟨ts,h2,h⟩:=ae h;cases h;by_cases hs:Nn tx=true
 ·refine .inl ⟨g,s,t,_,z,?_,k⟩
  unfold Hy;rw[h1];show(aS (Np tx)).bind _=_;have e:Np tx=Vr tx:=by cases tx<;>first|rfl|(cases hs)
  rw[e,h2];rfl
 ·cases tx<;>first|(exact absurd rfl hs)|skip
  have h2:=aj h2;cases h2;refine .inr ⟨g,s,_,_,z,h1,λv g1 H1 p1 x1 r1=>?_⟩;obtain⟨rfl,hz⟩:=r1;exact⟨_,rfl,k _ g1 H1 p1 x1 (j1 (G1 _) (az.signs _))⟩
theorem DQ(hg:Gl X "range")(hm:X.mg "range" = none)(ha:PE X a (tE B fa))(hs:noStar a=true):PI X tg (.Call (.Name "range" p) [a] [] pos) (tI B (ql iz (cA fa bq))):=by
 have h0:starEach [a] X.env=[(false,eval a X.env)]:=au hs;refine lh (Am hg hm (aV ha cP h0) h0) λσ H R zz=>?_;obtain⟨g,s,t,s',x,h,k⟩:=zz;obtain⟨⟨ts,s1⟩,h1,h⟩:=ae h;obtain⟨us,h2,h⟩:=ae h;cases h;obtain⟨⟨tx,s2⟩,h3,h1⟩:=ae h1;cases h1;have h2:=aj h2;cases tx<;>first|(cases h2;done)|skip
 obtain⟨z,rfl⟩:=aW h2;refine⟨g,s,_,_,x,h3,λv g1 H1 p1 x1 r1=>?_⟩;cases r1;exact⟨_,rfl,by omega,by omega,k _ g1 H1 p1 x1 (j1 (qj 0 _) (az.iT 0 _))⟩
theorem DR(hg:Gl X "range")(hm:X.mg "range" = none)(ha:PE X a (tE B fa))(hb:PE X b (tE B fb))(hs:noStar a=true)(AE:noStar b=true):PI X tg (.Call (.Name "range" p) [a,b] [] pos) (tI B (ql iz (cA fa (cA fb bq)))):=by
 have h0:starEach [b] X.env=[(false,eval b X.env)]:=au AE;have ZS:starEach [a,b] X.env=[(false,eval a X.env),(false,eval b X.env)]:=by rw[au hs,h0]
 refine lh (An hg hm (aV ha (aV hb cP h0) (by rw[ZS,h0])) ZS h0) λσ H R zz=>?_
 obtain⟨g,s,t,s',x,h,k⟩:=zz;obtain⟨⟨ts,s1⟩,h1,h⟩:=ae h;obtain⟨us,h2,h⟩:=ae h;cases h;obtain⟨⟨tx,s2⟩,h3,h1⟩:=ae h1;obtain⟨⟨ty,s3⟩,h4,h1⟩:=ae h1;cases h1;obtain⟨⟨tz,s4⟩,h5,h4⟩:=ae h4;cases h4;have h2:=aj h2;cases tx<;>first|(cases h2;done)|(cases tz<;>first|(cases h2;done)|skip)
 obtain⟨z,rfl⟩:=aW h2;refine⟨g,s,_,_,x,h3,λv g1 H1 p1 x1 r1=>⟨g1,_,_,_,x1,h5,λw g2 H2 p2 x2 r2=>?_⟩⟩;cases r1;cases r2;exact⟨_,_,rfl,⟨by omega,by omega,by omega,by omega⟩,k _ g2 H2 (p1.trans p2) x2 (j1 (qj _ _) (az.iT _ _))⟩
theorem nA.sets{al:BM}{S':B1}{σ':St}{r r':Fs}(x:nA B g H σ r)(hal:al=g.al)(t:Sets B al g.HF S' σ σ' r r'):nA B g H σ' r':=by
 subst hal;refine⟨by rw[t.lenR,t.len];exact x.len,λi c h=>?_⟩
 by_cases hi:i∈S'
 ·have iW:i<r.length:=by rw[<- t.lenR];exact(dc.mp h).1
  obtain⟨u,v,h1,h2,h3⟩:=t.on i hi iW;rw[h]at h1;cases h1;exact⟨v,h2,h3⟩
 ·obtain⟨h1,h2⟩:=t.off i hi
  rw[h2]at h;obtain⟨v,h3,h4⟩:=x.at_ i c h;exact⟨v,h1.trans h3,h4⟩
end
theorem wQ{B:KT}{al:BM}{HF:Hp}{S:B1}{σ':St}{ρ ρ':Fs}{k:Nat}{js:B1}{σ:St}(hS:∀i∈S,i<k)(s:Sets B al HF S (cM k js σ) σ' ρ ρ'):cV (cM k js σ) σ':=by
 have gen:∀(a b:St),a.length=b.length->(∀(i:Nat)(v:V),a[i]?=some (some v)->b[i]?=some (some v))->cV a b:=by
  intro a
  induction a with
  |nil=>intro b hl _;cases b with
   |nil=>trivial
   |cons=>cases hl
  |cons x a ih=>intro b hl h;cases b with
   |nil=>cases hl
   |cons y b=>
    have hr:=ih b (by simpa using hl) λi v e=>by simpa using h (i+1) v (by simpa using e)
    cases x with
    |none=>exact hr
    |some v=>
     have:=h 0 v rfl
     simp at this;subst this;exact⟨rfl,hr⟩
 refine gen _ _ s.len.symm λi v e=>?_;by_cases hi:i∈S
 ·have hk:=hS i hi
  unfold cM at e;rw[gp (by rw[iC];exact hk),sW,if_pos hk]at e
  cases e
 ·rw[(s.off i hi).1];exact e
section
variable{scope:Scope}{ls fs:Bi}{js S':B1}{iter elt:Expr}{ifs:Bz}{gt:TG}{pY:FL}{fg:FG}{ft:FT}{fe:FE}
theorem SR.jn:∀(js:B1){g:G}{s:S},SR B g H σ s->∃g',eO g H g' H/\SR B g' H σ {s with r:=jn js s.r}
 |[],g,s,x=>⟨g,.refl,x⟩
 |j::js,g,s,x=>by
  show ∃g',eO g H g' H/\SR B g' H σ {s with r:=D.jn js (Hc s.r j)}
  have one:∃g1,eO g H g1 H/\SR B g1 H σ {s with r:=Hc s.r j}:=by
   unfold Hc;split
   ·rename_i ts h
    obtain⟨g1,v,p,y,_⟩:=x.iU h;exact⟨g1,p,y⟩
   ·exact⟨g,.refl,x⟩
  obtain⟨g1,p1,x1⟩:=one;obtain⟨g2,p2,x2⟩:=SR.jn js x1;exact⟨g2,p1.trans p2,x2⟩
theorem nA.block{r:Fs}(x:nA B g H σ r)(k:Nat)(js:B1):nA B g.ai H (cM k js σ) (iP k js r):=by
 refine⟨by unfold iP cM;simp,λi c h=>?_⟩
 unfold iP at h;unfold cM;by_cases hi:i<k
 ·rw[gp (by simpa using hi),sW,if_pos hi]at h
  cases h
 ·rw[eS (by simpa using hi),iC,dB]at h
  rw[eS (by simpa using hi),iC,dB]
  cases hj:js[i-k]? with
  |none=>rw[hj]at h;cases h
  |some j=>
   rw[hj]at h;have h:(match r[j]? with|some (some (.val t))=>some (C.val t)|_=>none)=some c:=by injection h
   split at h
   ·rename_i t hr
    cases h;obtain⟨v,h1,h2⟩:=x.at_ j _ hr;exact⟨v,by show some ((σ[j]?).join)=_;rw[h1];rfl,h2⟩
   ·cases h
theorem SR.Nq{D:Addr}{u:HO}(x:SR B g H σ s)(hf:g.HF D=none)(ho:g.o D=none)(hl:∃w,H D=some w):SR B g (upd H D u) σ s:=by
 have ne:∀b p,g.o b=some p->b≠D:=λb p e z=>by rw[z,ho]at e;cases e
 refine⟨x.st.mv (λb w e=>?_) (λb p e=>?_) (aK.refl _) rfl λl p h _=>⟨h,aq (ne l p h)⟩,x.lc.len,λi c e=>?_⟩
 ·have:b≠D:=λz=>by rw[z,hf]at e;cases e
  rw[aq this];exact x.sub _ _ e
 ·obtain⟨h1,w,h2⟩:=x.st.live b p e
  exact⟨h1,w,by rw[aq (ne b p e)];exact h2⟩
 ·obtain⟨v,h1,h2⟩:=x.lc.at_ i c e
  exact⟨v,h1,aX.mv (g:=g) (g':=g) (aK.refl _) er (λl h=>⟨h,aq (ne l _ h)⟩) h2⟩
theorem eO.Nq{D:Addr}{u:HO}{g1:G}{H1:Hp}(p:eO g H g1 H1)(h0:H D=none):eO g H g1 (upd H1 D u):=
 ⟨p.fr,p.pre,λb w h n z=>by
  have:b≠D:=aG h h0
  rw[aq this];exact p.rest b w h n z,λb h=>by
  by_cases hb:b=D
  ·subst hb;exact h0
  ·rw[aq hb]at h;exact p.there b h⟩
theorem Sv:FU X [] (tT B cX):=λaa s σ H Q I z=>by
 obtain⟨g,st,t,s',x,h,k⟩:=z;cases h;exact GX aa s σ H Q I (k g H .refl x)
theorem Sw{c:Expr}(h:PT X c (tT B ft)):FU X [c] (tT B ft):=GY h
theorem wR{k:Nat}(KP:uF B gt fg S')(hS:∀i∈S',i<k):∀σ H Q,tO B (bB pY k js fg ft fe) σ H Q->tComp (tI B pY) k js gt (tT B ft) (tE B fe) σ H Q:=by
 rintro σ H Q ⟨g,s,ys,s',x,h,kk⟩
 obtain⟨⟨xs,s1⟩,h1,h⟩:=ae h;dsimp only at h;split at h
 case isFalse=>cases h
 rename_i hz;obtain⟨⟨rs,mm⟩,h2,h⟩:=ae h;cases h;unfold tComp;refine⟨g,s,xs,s1,x,h1,λJ g1 H1 p1 x1 wk D hD=>?_⟩;obtain⟨g2,p2,x2⟩:=x1.jn js;have wk:=wk.mv p2.pre p2.fr;obtain⟨b,hb⟩:∃b,b=iP k js (_root_.D.jn js s1.r):=⟨_,rfl⟩;rw[<- hb]at h2;have ZT:=p1.trans p2;have hD0:H D=none:=ZT.there D hD;have nD:∀{gg:G}{ss:S},SR B gg H1 σ ss->gg.HF D=none/\gg.o D=none:=λ{gg ss} x=>⟨x.sub.free hD,by
  cases q:gg.o D with
  |none=>rfl
  |some p=>obtain⟨_,u,z⟩:=x.st.live D p q;rw[hD]at z;cases z⟩
 obtain⟨f2,o2⟩:=nD x2;obtain⟨ZU,_,_⟩:=pO (u:=.lst []) x2 hD;refine⟨λi m zs H2=>m=xs.length-i/\i<=xs.length/\∃g3 m3 done rest,eO g2 H1 g3 H2/\SR B g3 H2 σ ⟨_root_.D.jn js s1.r,m3⟩/\g3.HF D=none/\g3.o D=none/\H2 D=some (.lst zs)/\az B g3.al g3.HF done zs/\done.length<=i/\aN fg ft fe b (xs.drop i) m3=.ok (rest,mm)/\rs=done++rest,
  ⟨xs.length,by simp,i6 _,g2.grow g2.HF,s1.m,[],rs,x2.gv ZU,x2.grow ZU,f2,o2,ah,rfl,cC _,by rw[mH];exact h2,rfl⟩,?_⟩
 rintro i m zs H2 ⟨rfl,hi,g3,m3,done,rest,p3,x3,f3,o3,hl,rd,hdn,hr,rfl⟩
 by_cases iW:i<xs.length
 ·have ZV:=p3.fr.trans x3.sub
  refine .inr ⟨wk.go i H2 ZV iW,λv H3 y=>?_⟩;obtain⟨t,ht,y2⟩:=wk.yld i H2 v H3 ZV iW y;obtain⟨Sx,Nr,rx⟩:=y2 g3.HF p3.fr x3.sub;have Sy:xs.drop i=t::xs.drop (i+1):=by
   obtain⟨hh,e⟩:=dc.mp ht;rw[ph hh,e]
  rw[Sy]at hr;obtain⟨b1,q1,hr⟩:=ae hr;obtain⟨⟨c,s5⟩,q2,hr⟩:=ae hr;have x4:=x3.grow Nr;have p4:=p3.trans (x3.gv Nr);obtain⟨hl4,f4⟩:=Nr.rest D _ hl f3;have eb:=x4.lc.block k js;rw[<- hb]at eb;refine KP.ok g3.al Sx H3 _ _ t v b1 _ x4.sub (rx.mv p3.pre (aK.refl _)) (aj q1) eb.len λσ5 Gz=>⟨wQ hS Gz,?_⟩;have xb:SR B (g3.grow Sx).ai H3 σ5 ⟨b1,m3⟩:=⟨x4.st.ai,eb.sets rfl Gz⟩;refine⟨(g3.grow Sx).ai,⟨b1,m3⟩,c,s5,xb,q2,λg6 H6 p6 x6=>?_⟩;cases c with
  |true=>
   obtain⟨⟨y',s7⟩,q3,hr⟩:=ae hr;obtain⟨⟨ys',m8⟩,q4,hr⟩:=ae hr;cases hr;refine ud ⟨g6,s5,y',s7,x6,q3,λv7 g7 H7 p7 x7 r7=>?_⟩;obtain⟨pB,xB⟩:=x4.back (p6.trans p7) x7.st;have p8:=p4.trans pB;obtain⟨Vv,f7,o7⟩:=(x3.gv Nr |>.trans pB).rest D _ hl f3 o3;have Nt:zs.length<sizeLine:=by rw[<- rd.len,sizeLine_eq];omega
   refine⟨Vv,Nt,xs.length-(i+1),by omega,rfl,iW,G.back (g3.grow Sx) g7,s7.m,done++[y'],ys',p8.Nq hD,xB.Nq f7 o7 ⟨_,Vv⟩,f7,o7,ah,?_,by simp;omega,q4,by simp⟩
   have st:=(x3.gv Nr).trans pB;exact(rd.mv st.pre st.fr).app (.one r7)
  |false=>
   obtain⟨pB,xB⟩:=x4.back p6 x6.st;obtain⟨Vv,f7,o7⟩:=(x3.gv Nr |>.trans pB).rest D _ hl f3 o3;have st:=(x3.gv Nr).trans pB;exact uc ⟨xs.length-(i+1),by omega,rfl,iW,G.back (g3.grow Sx) g6,s5.m,done,rest,p4.trans pB,xB,f7,o7,Vv,rd.mv st.pre st.fr,by omega,hr,rfl⟩
 ·have e:i=xs.length:=by omega
  subst e;rw[x9]at hr;cases hr;rw[dz]at kk;exact .inl ⟨wk.stop _ H2 (p3.fr.trans x3.sub) rfl,kk D zs g3 H2 (ZT.trans p3) x3 hD0 f3 o3 hl rd⟩
theorem Nu(ls:Bi)(hc:X.calm=true)(Sc:fX X scope)(F:fm X scope js fs)(hi:PI X tg iter (tI B pY))(hg:∀cl C fp s H,PG (X.block (ls++fs) scope cl C fp s H) tg gt)(KP:uF B gt fg S')
  (ht:∀cl C fp s H,FU (X.block (ls++fs) scope cl C fp s H) ifs (tT B ft)) (he:∀cl C fp s H,PE (X.block (ls++fs) scope cl C fp s H) elt (tE B fe))
  (hS:∀i∈S',i<ls.length) (hs:∀x,foldedSetIterable iter X.env x=pure x):PE X (.ListComp elt [⟨tg,iter,ifs,0⟩] scope pos) (tO B (bB pY ls.length js fg ft fe)):=
 aP (GZ ls hc Sc F hi hg ht he hs) (wR KP hS)
end
def DS(B:KT)(g:G)(H:Hp)(D:Ends):Out->S->Prop
 |.nx,s'=>∀σ' g' H',eO g H g' H'->SR B g' H' σ' s'->D.nx σ' H'
 |.rt t,s'=>∀v g' H',eO g H g' H'->fE B g' H' s'.m->Rep B g'.al g'.HF t v->D.rt v H'
 |.bk,s'=>∀σ' g' H',eO g H g' H'->SR B g' H' σ' s'->D.bk σ' H'
 |.ct,s'=>∀σ' g' H',eO g H g' H'->SR B g' H' σ' s'->D.ct σ' H'
def tS(B:KT)(f:FS):TS:=λD σ H=>∃g s o s',SR B g H σ s/\f s=.ok (o,s')/\DS B g H D o s'
section
variable{b9 rC:Pos}{ft:FT}{H1:Hp}{g1:G}{F Gf:FS}{st:Stmt}{rest Nv:Ee}{i:Nat}
theorem DS.mv{D:Ends}{o:Out}(k:DS B g H D o s')(p:eO g H g1 H1):DS B g1 H1 D o s':=by
 cases o with
 |nx=>exact λσ' g' H' q x=>k σ' g' H' (p.trans q) x
 |rt t=>exact λv g' H' q x r=>k v g' H' (p.trans q) x r
 |bk=>exact λσ' g' H' q x=>k σ' g' H' (p.trans q) x
 |ct=>exact λσ' g' H' q x=>k σ' g' H' (p.trans q) x
theorem Sz:jH X Nv (tS B c_):=λ_ _ _ _ _ _ ⟨_,_,_,_,_,h,_⟩=>by cases h
theorem cT:PS X st (tS B c_):=λ_ _ _ _ _ _ ⟨_,_,_,_,_,h,_⟩=>by cases h
theorem SA:jH X [] (tS B aE):=C8 yl λD σ H z=>by
 obtain⟨g,s,o,s',x,h,k⟩:=z;cases h;exact k σ g H .refl x
theorem Nx(h1:PS X st (tS B F))(h2:jH X rest (tS B Gf)):jH X (st::rest) (tS B (af F Gf)):=C8 (tU h1 h2) λD σ H z=>by
 obtain⟨g,s,o,s',x,h,k⟩:=z;obtain⟨⟨o1,s1⟩,e1,h⟩:=ae h;refine⟨g,s,o1,s1,x,e1,?_⟩;cases o1 with
 |nx=>exact λσ1 g1 H1 p1 x1=>⟨g1,s1,o,s',x1,h,k.mv p1⟩
 |rt t=>cases h;exact k
 |bk=>cases h;exact k
 |ct=>cases h;exact k
theorem SD(h:PS X st (tS B F)):jH X [st] (tS B F):=ym h
theorem Ny:PS X (.Pass pos) (tS B aE):=c5 Gv λD σ H z=>by
 obtain⟨g,s,o,s',x,h,k⟩:=z;cases h;exact k σ g H .refl x
theorem Hz:PS X (.Break pos) (tS B RH):=c5 Cm λD σ H z=>by
 obtain⟨g,s,o,s',x,h,k⟩:=z;cases h;exact k σ g H .refl x
theorem Nz:PS X (.Continue pos) (tS B RI):=c5 tW λD σ H z=>by
 obtain⟨g,s,o,s',x,h,k⟩:=z;cases h;exact k σ g H .refl x
theorem KQ(hN:X.N.Nodup)(hi:X.N[i]?=some x)(hx:Loc X.env.scope x)(he:PE X e (tE B fa))(hs:swapsWith e (some (.Name x b9)) pos.line X.env=pure false)(hf:X.fn x=true\/X.env.scope.names.lookup x=some .local) :
  PS X (.Assign [.Name x b9] e pos) (tS B (aH i fa)):=c5 (v_ hN hi hx he hs hf) λD σ H z=>by
 obtain⟨g,s,o,s',x,h,k⟩:=z;obtain⟨⟨t,s1⟩,e1,h⟩:=ae h;cases h;exact⟨g,s,t,s1,x,e1,λv g1 H1 p1 x1 r1=>k _ g1 H1 p1 (x1.set r1)⟩
theorem yQ{D:Ends}{ts:FK}{s1:S}(k:DS B g H D .nx (i_ s1 i (.ol ts))){l:Addr}{vs:List V}(p1:eO g H g1 H1)(x1:SR B g1 H1 σ s1)(h0:H l=none)(n1:g1.HF l=none)(n2:g1.o l=none)(hl:H1 l=some (.lst vs))(r:az B g1.al g1.HF ts vs):D.nx (σ.set i (some (.ref l))) H1:=by
 refine k _ (g1.own l (.loc i)) H1 ⟨p1.fr,p1.pre,λb u h n z=>?_,p1.there⟩ (x1.own n2 n1 hl r);obtain⟨a,b',c⟩:=p1.rest b u h n z
 have:b≠l:=aG h h0
 exact⟨a,b',by show(if b=l then some (jo.loc i)else g1.o b)=none;rw[if_neg this];exact c⟩
theorem KR(hN:X.N.Nodup)(hi:X.N[i]?=some x)(hx:Loc X.env.scope x)(he:PE X e (tO B fl))(hs:swapsWith e (some (.Name x b9)) pos.line X.env=pure false)(hf:X.fn x=true\/X.env.scope.names.lookup x=some .local) :
  PS X (.Assign [.Name x b9] e pos) (tS B (iQ i fl)):=c5 (v_ hN hi hx he hs hf) λD σ H z=>by
 obtain⟨g,s,o,s',x,h,k⟩:=z;obtain⟨⟨ts,s1⟩,e1,h⟩:=ae h;cases h;exact⟨g,s,ts,s1,x,e1,λl vs g1 H1 p1 x1 h0 n1 n2 hl r=>yQ k p1 x1 h0 n1 n2 hl r⟩
section
variable{scope:Scope}{ls fs:Bi}{js S':B1}{iter elt:Expr}{ifs:Bz}{gt:TG}{pY:FL}{fg:FG}{fe:FE}
theorem NB(ls:Bi)(hc:X.calm=true)(hN:X.N.Nodup)(hi:X.N[i]?=some x)(hx:Loc X.env.scope x)(Sc:fX X scope)(Fr:fm X scope js fs)(hit:PI X tg iter (tI B pY))(hg:∀cl C fp s H,PG (X.block (ls++fs) scope cl C fp s H) tg gt)(KP:uF B gt fg S')
  (ht:∀cl C fp s H,FU (X.block (ls++fs) scope cl C fp s H) ifs (tT B ft)) (he:∀cl C fp s H,PE (X.block (ls++fs) scope cl C fp s H) elt (tE B fe))
  (hS:∀i∈S',i<ls.length) (hs:∀x,foldedSetIterable iter X.env x=pure x) (hf:X.fn x=true\/X.env.scope.names.lookup x=some .local)
  (Vm:swapsWith (.ListComp elt [⟨tg,iter,ifs,0⟩] scope c9) (some (.Name x b9)) pos.line X.env=pure true) :
  PS X (.Assign [.Name x b9] (.ListComp elt [⟨tg,iter,ifs,0⟩] scope c9) pos) (tS B (iQ i (bB pY ls.length js fg ft fe))) /\
  PS X (.Assign [.Name x b9] (.ListComp elt [⟨tg,iter,ifs,0⟩] scope c9) pos) (tS B (aH i (cY (bB pY ls.length js fg ft fe)))):=by
 constructor
 ·refine c5 (yu ls hc hN hi hx Sc Fr hit hg ht he hs hf Vm) λD σ H zz=>?_
  obtain⟨g,s,o,s',x,h,k⟩:=zz;obtain⟨⟨ts,s1⟩,e1,h⟩:=ae h;cases h;exact wR KP hS σ H _ ⟨g,s,ts,s1,x,e1,λl vs g1 H1 p1 x1 h0 n1 n2 hl r=>yQ k p1 x1 h0 n1 n2 hl r⟩
 ·refine c5 (yu ls hc hN hi hx Sc Fr hit hg ht he hs hf Vm) λD σ H zz=>?_
  obtain⟨g,s,o,s',x,h,k⟩:=zz;obtain⟨⟨t,s2⟩,e0,h⟩:=ae h;obtain⟨⟨ts,s1⟩,e1,e0⟩:=ae e0;cases e0;cases h;exact wR KP hS σ H _ ⟨g,s,ts,s1,x,e1,λl vs g1 H1 p1 x1 h0 n1 n2 hl r=>k _ (g1.grow (upd g1.HF l (.lst vs))) H1 (p1.C_ h0 n1) ((x1.C_ n1 n2 hl).set (t:=.lst ts) ⟨l,vs,rfl,ah,r.same (aQ n1)⟩)⟩
end
theorem SE(he:PE X e (tE B fa)):PS X (.Return (some e) pos) (tS B (aA fa)):=c5 (LY he) λD σ H z=>by
 obtain⟨g,s,o,s',x,h,k⟩:=z;obtain⟨⟨t,s1⟩,e1,h⟩:=ae h;cases h;exact⟨g,s,t,s1,x,e1,λv g1 H1 p1 x1 r1=>k v g1 H1 p1 x1.st r1⟩
theorem NC:PS X (.Return none pos) (tS B (aA (cF .non))):=c5 Gw λD σ H z=>by
 obtain⟨g,s,o,s',x,h,k⟩:=z;cases h;exact k _ g H .refl x.st rfl
theorem ND(he:PE X e (tE B fa))(hs:swapsWith e none pos.line X.env=pure false):PS X (.Expr e pos) (tS B (aL fa)):=c5 (qZ he hs) λD σ H z=>by
 obtain⟨g,s,o,s',x,h,k⟩:=z;obtain⟨⟨t,s1⟩,e1,h⟩:=ae h;cases h;exact⟨g,s,t,s1,x,e1,λv g1 H1 p1 x1 r1=>k σ g1 H1 p1 x1⟩
theorem Xv{A A':Ee}(hc:PT X c (tT B ft))(ha:jH X A (tS B F))(hb:jH X A' (tS B Gf)):PS X (.If c A A' pos) (tS B (aU ft F Gf)):=c5 (Ql hc ha hb) λD σ H z=>by
 obtain⟨g,s,o,s',x,h,k⟩:=z;obtain⟨⟨d,s1⟩,e1,h⟩:=ae h;refine⟨g,s,d,s1,x,e1,λg1 H1 p1 x1=>?_⟩;cases d with
 |true=>exact ud ⟨g1,s1,o,s',x1,h,k.mv p1⟩
 |false=>exact uc ⟨g1,s1,o,s',x1,h,k.mv p1⟩
theorem gW{r:Fs}{ts:FK}(h:kH r[i]?=some ts):r[i]?=some (some (.ol ts)):=by
 unfold kH at h;split at h
 ·rename_i h2;cases h;exact h2
 ·cases h
theorem SR.uH(x:SR B g H σ s){ts:FK}(h:s.r[i]?=some (some (.ol ts))):∃l vs,σ[i]?=some (some (.ref l))/\g.o l=some (.loc i)/\H l=some (.lst vs)/\az B g.al g.HF ts vs:=by
 obtain⟨v,h1,l,vs,rfl,h2,h3,h4⟩:=x.lc.at_ i _ h;exact⟨l,vs,h1,h2,h3,h4⟩
theorem SG{py:Pos}(he:PE X e (tE B fa))(hN:X.N[i]?=some y)(hv:sN X.env.scope y)(hd:bW y)(jI:iE y)(hs:noStar e=true)(mW:(b_.endLine == c9.line)=true) :
  PS X (.Expr (.Call (.Attribute (.Name y py) "append" b_) [e] [] c9) pos) (tS B (gQ i fa)):=by
 refine c5 (qZ (CM PySem.F.plainAttrs_list PySem.F.slot_list_append PySem.F.type_list_append kD (dJ hN hv hd jI) (aV he cP (au hs)) (gT rfl) (nq (by rw[e9,hs];rfl) (by decide)) mW (au hs) rfl) rfl) λD σ H zz=>?_
 obtain⟨g,s,o,s',x,h,k⟩:=zz;obtain⟨us,e0,h⟩:=ae h;obtain⟨⟨t,s1⟩,e1,h⟩:=ae h;obtain⟨ts,e2,h⟩:=ae h;obtain⟨pP,e3,h⟩:=ae h;obtain⟨z,rfl⟩:=aW (aj e3);cases h;obtain⟨l0,vs0,q1,q2,q3,q4⟩:=x.uH (gW (aj e0));refine⟨_,q1,.inl ⟨rfl,_,dh.of q3⟩,g,s,t,s1,x,e1,λv g1 H1 p1 x1 r1=>?_⟩;have ho:=gW (aj e2);obtain⟨l,vs,w1,w2,w3,w4⟩:=x1.uH ho;rw[q1]at w1;cases w1;obtain⟨x2,p2⟩:=x1.chg ho q1 (w4.app (.one r1));exact⟨l0,vs,v,rfl,rfl,w3,by rw[<- w4.len,sizeLine_eq];omega,k σ g1 _ (p1.trans p2) x2⟩
theorem SH{iter:Expr}{body:Ee}{gt:TG}{fg:FG}{S':B1}(hc:X.calm=true)(hi:PI X tg iter (tI B fl))(hg:PG X tg gt)(KP:uF B gt fg S')(hb:jH X body (tS B F))(hp:PassesOwn (model X.prog X.w) X.A X.env X.xe)
  (hs:∀x,foldedSetIterable iter X.env x=pure x):PS X (.For tg iter body [] pos) (tS B (gR fl fg F)):=by
 refine c5 (L_ hp hc hi hg hb hs) λD σ H zz=>?_;obtain⟨g,s,o,s',x,h,k⟩:=zz;obtain⟨⟨xs,s1⟩,e1,h⟩:=ae h;refine⟨g,s,xs,s1,x,e1,λJ g1 H1 p1 x1 wk=>?_⟩;refine⟨λi m σ2 H2=>m=xs.length-i/\i<=xs.length/\∃g2 s2,eO g1 H1 g2 H2/\SR B g2 H2 σ2 s2/\bU fg F (xs.drop i) s2=.ok (o,s'),
  ⟨xs.length,by simp,i6 _,g1,s1,.refl,x1,by rw[mH];exact h⟩,?_⟩
 rintro i m σ2 H2 ⟨rfl,hil,g2,s2,p2,x2,ko⟩
 have Xw:=p2.fr.trans x2.sub;by_cases iW:i<xs.length
 ·have hx:xs[i]?=some xs[i]:=b8 iW
  rw[ph iW]at ko;obtain⟨r3,q1,ko⟩:=ae ko;obtain⟨⟨o3,s4⟩,q2,ko⟩:=ae ko;refine .inr ⟨wk.go i H2 Xw iW,λσ' H'=>∃g' s5,eO g1 H1 g' H'/\SR B g' H' σ' s5/\bU fg F (xs.drop (i+1)) s5=.ok (o,s'),
   λσ' H' ⟨g',s5,a,b,c⟩=>⟨xs.length-(i+1),by omega,rfl,iW,g',s5,a,b,c⟩,λv H3 y=>?_⟩
  obtain⟨t,ht,y2⟩:=wk.yld i H2 v H3 Xw iW y;rw[hx]at ht;cases ht;obtain⟨Nl,ZW,rx⟩:=y2 g2.HF p2.fr x2.sub;have x3:=x2.grow ZW;have p3:=p2.trans (x2.gv ZW);refine KP.ok g2.al Nl H3 σ2 s2.r _ v r3 _ x3.sub (rx.mv p2.pre (aK.refl _)) (aj q1) x3.lc.len λσ4 st=>⟨g2.grow Nl,⟨r3,s2.m⟩,o3,s4,⟨x3.st,x3.lc.sets rfl st⟩,q2,?_⟩;cases o3 with
  |nx=>exact λσ5 g5 H5 p5 x5=>⟨g5,s4,p3.trans p5,x5,ko⟩
  |ct=>exact λσ5 g5 H5 p5 x5=>⟨g5,s4,p3.trans p5,x5,ko⟩
  |bk=>
   cases ko;exact λσ5 g5 H5 p5 x5=>k σ5 g5 H5 ((p1.trans p3).trans p5) x5
  |rt t=>
   cases ko;exact λv g5 H5 p5 x5 r=>k v g5 H5 ((p1.trans p3).trans p5) x5 r
 ·have e:i=xs.length:=by omega
  subst e;rw[x9]at ko;cases ko;exact .inl ⟨wk.stop _ H2 Xw rfl,k σ2 g2 H2 (p1.trans p2) x2⟩
theorem HA{body:Ee}(n:Nat)(hc:PT X c (tT B ft))(hb:jH X body (tS B F))(hp:PassesOwn (model X.prog X.w) X.A X.env X.xe):PS X (.While c body [] pos) (tS B (eW n ft F)):=by
 refine c5 (Cp hp hc hb) λD σ H zz=>?_;obtain⟨g,s,o,s',x,h,k⟩:=zz;refine⟨λm σ2 H2=>∃g2 s2,eO g H g2 H2/\SR B g2 H2 σ2 s2/\aY ft F m s2=.ok (o,s'),⟨n,g,s,.refl,x,h⟩,?_⟩
 rintro m σ2 H2 ⟨g2,s2,p2,x2,ko⟩
 cases m with
 |zero=>cases ko
 |succ m=>
  obtain⟨⟨d,s3⟩,q1,ko⟩:=ae ko;refine⟨g2,s2,d,s3,x2,q1,λg3 H3 p3 x3=>?_⟩;cases d with
  |false=>
   cases ko;exact uc (k σ2 g3 H3 (p2.trans p3) x3)
  |true=>
   obtain⟨⟨o4,s4⟩,q2,ko⟩:=ae ko;refine ud ⟨λσ' H'=>∃g' s5,eO g H g' H'/\SR B g' H' σ' s5/\aY ft F m s5=.ok (o,s'),λσ' H' ⟨g',s5,a,b,c⟩=>⟨m,vW m,g',s5,a,b,c⟩,?_⟩;refine⟨g3,s3,o4,s4,x3,q2,?_⟩;have Vw:=p2.trans p3;cases o4 with
   |nx=>exact λσ5 g5 H5 p5 x5=>⟨g5,s4,Vw.trans p5,x5,ko⟩
   |ct=>exact λσ5 g5 H5 p5 x5=>⟨g5,s4,Vw.trans p5,x5,ko⟩
   |bk=>
    cases ko;exact λσ5 g5 H5 p5 x5=>k σ5 g5 H5 (Vw.trans p5) x5
   |rt t=>
    cases ko;exact λv g5 H5 p5 x5 r=>k v g5 H5 (Vw.trans p5) x5 r
end
section
theorem AX{N:Bi}{vs:List V}{ts:FK}(r:az B g.al g.HF ts vs):nA B g H (L2.start N vs) (ts.map (λt=>some (C.val t))++ck (N.length-ts.length) none):=by
 refine⟨by unfold L2.start;simp[r.len],λi c h=>?_⟩
 by_cases hi:i<ts.length
 ·rw[gp (by simpa using hi),dB,b8 hi]at h
  cases h;obtain⟨v,h1,h2⟩:=r.get (b8 hi);refine⟨v,?_,h2⟩;unfold L2.start;rw[gp (by rw[bF,<- r.len];exact hi),dB,h1];rfl
 ·rw[eS (by simpa using hi),sW]at h
  split at h<;>cases h
theorem yR{np n:Nat}{F:FS}{ts:FK}{m m':FV}{t:T}(h:aJ np n F ts m=.ok (t,m')):ts.length=np/\∃o s',F ⟨ts.map (λt=>some (.val t))++ck (n-ts.length) none,m⟩=.ok (o,s')/\s'.m=m'/\(o=.rt t\/(o=.nx/\t=.non)):=by
 unfold aJ at h;split at h
 ·rename_i hl
  obtain⟨⟨o,s'⟩,h1,h⟩:=ae h;refine⟨hl,o,s',h1,?_⟩;cases o with
  |rt u=>cases h;exact⟨rfl,.inl rfl⟩
  |nx=>cases h;exact⟨rfl,.inr ⟨rfl,rfl⟩⟩
  |bk=>cases h
  |ct=>cases h
 ·cases h
variable{P:Program}{w:World}{K:bu}{mg:Str->D1}{base:Heap}
structure wU(K:bu)(x qual:Str)(st:Stmt)(f:Addr)(fd:FuncData):Prop where
 ex:∃(oc:Value)(od:Option Addr)(dV kV doc pm:Value)(an:Option Addr)(jD ct:Value)(CG:Array D1),
  fd=z7 x qual (jP st) (cL st) (aD st) dV kV doc pm an jD ct/\K.lookup f=some ⟨oc,od,.func fd,CG⟩/\BG K jD qual=true
 kp:oY K (.ref f)=true
theorem wU.ok{x qual:Str}{st:Stmt}{f:Addr}{fd:FuncData}{N ps:Bi}{k:Nat}{sp:Sp}(F:wU K x qual st f fd)(Sc:gK N ps (aD st))(len:∀vs H Q E,sp vs H Q E->vs.length=ps.length)
  (CH:∀(jD:Value)(A:Around)(outer:List Env)(s:Shared)(H:Hp)(vs:List V)(Q:VK)(E:XK),bC k (A.deeper (Kd qual (aD st) s.heap.objs.size f jD))->sp vs H Q E ->
   ∃t,jH (pD lJ P w K mg base N qual (aD st) f jD A outer s H E).Kf (cL st) t/\t {nx:=λ_ H'=>Q .non H',rt:=Q} (L2.start N vs) H):dH P w K mg base lJ (k+1) f fd ps sp:=by
 obtain⟨oc,od,dV,kV,doc,pm,an,jD,ct,CG,rfl,lk,jI⟩:=F.ex;refine QT lk jI Sc len λA outer s H vs Q E hr GL=>?_;obtain⟨t,h,q⟩:=CH jD A outer s H vs Q E hr GL;exact⟨t,h.Kf,q⟩
theorem NF{x qual:Str}{st:Stmt}{f:Addr}{fd:FuncData}{N ps:Bi}{k:Nat}{F:FS}(Fn:wU K x qual st f fd)(Sc:gK N ps (aD st))
  (body:∀(jD:Value)(A:Around)(outer:List Env)(s:Shared)(H:Hp)(E:XK),bC k (A.deeper (Kd qual (aD st) s.heap.objs.size f jD))->jH (pD lJ P w K mg base N qual (aD st) f jD A outer s H E).Kf (cL st) (tS B F)) :
  dH P w K mg base lJ (k+1) f fd ps (qr B (aJ ps.length N.length F)):=by
 refine Fn.ok Sc (λvs H Q E h=>?_) (λjD A outer s H vs Q E hr h=>?_)
 ·obtain⟨g,ts,m,t,m',x,r,h,_⟩:=h
  rw[<- r.len,(yR h).1]
 ·obtain⟨g,ts,m,t,m',x,r,h,q⟩:=h
  obtain⟨_,o,s',h1,rfl,ho⟩:=yR h;refine⟨_,body jD A outer s H E hr,g,_,o,s',⟨x,AX r⟩,h1,?_⟩;rcases ho with rfl|⟨rfl,rfl⟩
  ·exact λv g' H' p y rv=>q v g' H' p y rv
  ·exact λσ' g' H' p y=>q _ g' H' p y.st rfl
theorem HB{f:Addr}{fd:FuncData}{ps:Bi}{k:Nat}{fn:Fn}(F:dH P w K mg base lJ k f fd ps (qr B fn)):dH P w K mg base lJ k f fd ps (qr B (aO fn)):=F.imp λvs H Q E h=>by
 obtain⟨g,ts,m,t,m',x,r,h,q⟩:=h;unfold aO at h;split at h
 case isFalse=>cases h
 rename_i hn;cases e:fn ts []with
 |bad=>rw[e]at h;cases h
 |exc c fs s=>rw[e]at h;dsimp only at h;split at h<;>cases h
 |ok z=>
  rw[e]at h;dsimp only at h;split at h
  case isFalse=>cases h
  rename_i Vh;cases h;refine⟨⟨g.HF,λ_=>none,[]⟩,ts,[],z.1,z.2,⟨x.sub,λb p e=>(by cases e),rfl,λk ob e=>(by simp at e)⟩,az.no hn r,e,λv g0 H' p y rv=>?_⟩
  have keep:∀b p,g.o b=some p->H' b=H b/\g0.HF b=none:=λb q hb=>by
   obtain⟨h1,u,h2⟩:=x.live b q hb;obtain⟨h3,h4,_⟩:=p.rest b u h2 h1 rfl;exact⟨h3.trans h2.symm,h4⟩
  refine q v ⟨g0.HF,g.o,g.al⟩ H' ⟨p.fr,er,λb u h n z=>?_,p.there⟩ (x.mv y.sub (λb p e=>?_) p.fr rfl λl p h _=>⟨h,(keep l p h).1⟩) (Rep.no Vh rv)
  ·obtain⟨h3,h4,_⟩:=p.rest b u h n rfl
   exact⟨h3,h4,z⟩
  ·obtain⟨h1,u,h2⟩:=x.live b p e
   obtain⟨h3,h4⟩:=keep b p e;exact⟨h4,u,h3.trans h2⟩
end
section
variable{b9:Pos}
theorem SR.KS{k:Nat}{ob nK:Ob}{a C dx:Addr}{ns:Bi}{vs fS:List V}(x:SR B g H σ s)(Z:Bq B g H k ob a C dx ns vs)(hk:s.m[k]?=some ob)(hc:nK.c=ob.c)(hle:fS.length<=ns.length)(hln:fS.length=nK.fs.length)
  (hf:∀j c,nK.fs[j]?=some c->∃v,fS[j]?=some v/\aX B g H (.fld k j) c v) :
  eO g H g (upd H a (.ins C dx (ns.zip fS)))/\SR B g (upd H a (.ins C dx (ns.zip fS))) σ {s with m:=s.m.set k nK}:=by
 have ne:∀l q,g.o l=some q->q≠.ob k->upd H a (.ins C dx (ns.zip fS)) l=H l:=λl q hl hq=>aq λz=>hq (by rw[z,Z.o]at hl;cases hl;rfl)
 have sl:∀{q:jo}{c:_root_.D.C}{v:V},q≠.ob k->aX B g H q c v->aX B g (upd H a (.ins C dx (ns.zip fS))) q c v:=λhq h=>aX.mv (g:=g) (g':=g) (aK.refl _) er (λl hl=>⟨hl,ne l _ hl hq⟩) h;refine⟨lX Z.o,⟨⟨λb w e=>?_,λb q e=>?_,by rw[eA];exact x.st.len,λk' wV e=>?_⟩,x.lc.len,λi c e=>?_⟩⟩
 ·have:b≠a:=λz=>by rw[z,(x.st.live a _ Z.o).1]at e;cases e
  rw[aq this];exact x.sub _ _ e
 ·obtain⟨h1,w,h2⟩:=x.st.live b q e
  by_cases hb:b=a
  ·exact⟨h1,_,by rw[hb,ah]⟩
  ·exact⟨h1,w,by rw[aq hb];exact h2⟩
 ·by_cases nM:k=k'
  ·subst nM
   have iW:k<s.m.length:=(dc.mp hk).1;have e:(s.m.set k nK)[k]?=some wV:=e;rw[dW iW]at e;cases e;exact .inl ⟨a,C,dx,ns,fS,Z.al,Z.o,by rw[hc];exact Z.cl,ah,hle,hln,λj c h=>let⟨v,h1,h2⟩:=hf j c h;⟨v,h1,sl (λz=>by cases z) h2⟩⟩
  ·have e:(s.m.set k nK)[k']?=some wV:=e
   rw[cy nM]at e;refine(x.st.at_ k' wV e).mv (aK.refl _) er λl q h hq=>⟨h,ne l q h ?_⟩;rcases hq with rfl|⟨j,rfl⟩
   ·exact λz=>nM (by cases z;rfl)
   ·exact λz=>by cases z
 ·obtain⟨v,h1,h2⟩:=x.lc.at_ i c e
  exact⟨v,h1,sl (λz=>by cases z) h2⟩
theorem AY{fs pY:List C}{j:Nat}{c:C}(h:setAt fs j c=some pY):(j<fs.length/\pY=fs.set j c)\/(j=fs.length/\pY=fs++[c]):=by
 unfold setAt at h;split at h
 ·rename_i q;cases h;exact .inl ⟨q,rfl⟩
 ·split at h
  ·rename_i q;cases h;exact .inr ⟨q,rfl⟩
  ·cases h
theorem yS(O:lO X.K X.mg P){f:Nat}{n:Str}{k:Nat}{ob nK:Ob}{c':_root_.D.C}{a C dx:Addr}{ns:Bi}{vs:List V}{v:V}(hf:P.an[f]?=some n)(x:SR (P.kt X) g H σ s)(Z:Bq (P.kt X) g H k ob a C dx ns vs)(hk:s.m[k]?=some ob)(h:dM P.tab f c' ob=some nK)
  (hv:∀j,aX (P.kt X) g H (.fld k j) c' v):pC X.K C/\eu X.K C n/\(ns.zip vs).length<1000 /\
  ∃fS,L2.c8 n v (ns.zip vs)=ns.zip fS/\eO g H g (upd H a (.ins C dx (ns.zip fS)))/\SR (P.kt X) g (upd H a (.ins C dx (ns.zip fS))) σ {s with m:=s.m.set k nK}:=by
 obtain⟨j,h1,h2⟩:=ba.mp h;obtain⟨pY,h3,rfl⟩:=cz.mp h2;obtain⟨m,hm,vP,F⟩:=O.of Z.cl;have hj:=lY hf vP h1;have SI:j<ns.length:=(dc.mp hj).1;refine⟨F.cl,F.na _ (je hj),by rw[qP];have:=F.nq;omega,?_⟩
 rcases AY h3 with⟨iW,rfl⟩|⟨rfl,rfl⟩
 ·refine⟨vs.set j v,yN F.nd hj Z.le (by rw[Z.ln];exact iW),?_⟩
  refine x.KS Z hk rfl (by rw[eA];exact Z.le) (by rw[eA,eA];exact Z.ln) λi c e=>?_
  by_cases hi:j=i
  ·subst hi
   rw[dW iW]at e;cases e;exact⟨v,by rw[dW (by rw[Z.ln];exact iW)],hv j⟩
  ·rw[cy hi]at e
   obtain⟨w,h4,h5⟩:=Z.f i c e;exact⟨w,by rw[cy hi];exact h4,h5⟩
 ·refine⟨vs++[v],rM F.nd (by rw[Z.ln];exact hj),?_⟩
  refine x.KS Z hk rfl (by rw[cK,Z.ln];exact SI) (by rw[cK,cK,Z.ln];rfl) λi c e=>?_
  by_cases hi:i<ob.fs.length
  ·rw[gp hi]at e
   obtain⟨w,h4,h5⟩:=Z.f i c e;exact⟨w,by rw[gp (by rw[Z.ln];exact hi)];exact h4,h5⟩
  ·rw[eS (by omega)]at e
   have hz:i-ob.fs.length=0:=by
    have:=(dc.mp e).1
    simp at this;omega
   rw[hz]at e;cases e;exact⟨v,by rw[eS (by rw[Z.ln];omega),Z.ln,hz];rfl,hv i⟩
theorem SJ(O:lO X.K X.mg P){f:Nat}{n:Str}(hf:P.an[f]?=some n)(ho:PE X o (tE (P.kt X) fo))(he:PE X e (tE (P.kt X) fa))(hs:swapsWith e (some (.Attribute o n b9)) pos.line X.env=pure false) :
  PS X (.Assign [.Attribute o n b9] e pos) (tS (P.kt X) (aM P.tab f fo fa)):=c5 (wj ho he hs) λD σ H z=>by
 obtain⟨g,s,oo,s',x,h,k⟩:=z;obtain⟨⟨t,s1⟩,h1,h⟩:=ae h;obtain⟨⟨tx,s2⟩,h2,h⟩:=ae h;cases tx<;>first|(cases h;done)|skip
 rename_i kk;obtain⟨nK,h3,h⟩:=ae h;cases h;obtain⟨ob,h4,h5⟩:=ba.mp (aj h3);refine⟨g,s,t,s1,x,h1,λv g1 H1 p1 x1 r1=>⟨g1,s1,_,s2,x1,h2,λw g2 H2 p2 x2 r2=>?_⟩⟩;obtain⟨a,rfl,ha⟩:=r2;rcases x2.st.at_ kk ob h4 with⟨a',C,dx,ns,vs,Z⟩|⟨a',Z⟩
 case inr=>
  obtain⟨j,q,_⟩:=ba.mp h5;obtain⟨l,q,_⟩:=ba.mp q;have z:(P.tab.map _)[ob.c]?=none:=Z.nf;rw[dB,q]at z;cases z
 have:=Z.al.symm.trans ha
 cases this;obtain⟨cl,na,hl,fS,e1,p3,x3⟩:=yS O hf x2 Z h4 h5 (v:=v) λj=>r1.mv p2.pre p2.fr;refine⟨a,C,dx,_,rfl,Z.h,cl,na,hl,?_⟩;rw[e1];exact k σ g2 _ ((p1.trans p2).trans p3) x3
end
end D
namespace L2
open PySem PySem.Spec PyProof.Rows
section
variable{X:Cx}
end
end L2
namespace D
open PySem L2
variable{X:Cx}{env:Env}{a b c e o tg:Expr}{fa fb fc fo:FE}{fl:FL}{g g':G}{H H':Hp}{B:KT}{es:Bz}{i k:Nat}{P:Pg}{b_ c9 p pos b9:Pos}{s s':S}{σ:St}{x y:Str}
section
theorem yT:∀{Ds:BM}{its:B2},Vals (Ds.map V.ref) its->its=Ds.map Value.ref
 |[],_,h=>by cases h;rfl
 |D::Ds,_,h=>by
  cases h with
  |cons p q=>
   cases p;rw[yT q];rfl
theorem DT:eY X (.builtin "isinstance") (λxs H Q=>∃(a C dx tp:Addr)(fs:List (Str×V))(Ds:BM)(b:Bool),xs=[.ref a,.ref tp]/\H a=some (.ins C dx fs)/\pC X.K C/\gi X.K (.ref C) "__class__" = some (some (.builtin "object.__class__")) /\
  xU X.K (.builtin "object.__class__") "__get__" = some (some (.builtin "getset_descriptor.__get__"))/\xV X.K (.builtin "object.__class__")=some true/\xW X.K C (.type "object")=some true /\
  H tp=some (.tup (Ds.map V.ref))/\BH X.K (.ref C) (Ds.map Value.ref)=some b/\Q (.bl b) H):=by
 intro aa s σ H xs us Q I r h;obtain⟨a,C,dx,tp,fs,Ds,b,rfl,ea,cl,h1,hn,sO,h2,et,e,q⟩:=h;obtain⟨u,u',rfl,ru,Q_⟩:=vals2 r;cases ru;cases Q_;obtain⟨mA,O,_⟩:=jN I.bx ea;obtain⟨od,J,_⟩:=O.look;obtain⟨_,its,rv,o,g1,g2,n,g3⟩:=(show bQ X.prog X.w H s.heap tp (.tup (Ds.map V.ref))from I.bx tp _ et);have ei:its=Ds.map Value.ref:=yT rv;obtain⟨oc,odd,odt,CG⟩:=o;cases g2;cases g3;rw[ei]at g1;exact PySem.W.kia_tup (Jx (cl.get _) cl.hd h1 hn sO h2) I.jG J g1 e (λz=>nomatch z) λtk=>⟨.bl b,H,I.tok _,rfl,q⟩
def G.dR(g:G)(a:Addr):G:={g with o:=λb=>if b=a then some (.ob g.al.length)else g.o b,al:=g.al++[a]}
theorem SR.dR{c:Nat}{C q dx:Addr}{ns:Bi}(x:SR B g H σ s)(hC:iA B c C ns)(nx:H q=none)(nd:H dx=none)(ie:dx≠q) :
  eO g H (g.dR q) (upd (upd H dx (.own q)) q (.ins C dx []))/\SR B (g.dR q) (upd (upd H dx (.own q)) q (.ins C dx [])) σ {s with m:=s.m++[⟨c,[]⟩]}:=by
 have nf:g.HF q=none:=x.sub.free nx;have nf2:g.HF dx=none:=x.sub.free nd;have no:∀l p',g.o l=some p'->l≠q/\l≠dx:=λl p' h=>by
  obtain⟨_,u,z⟩:=x.st.live l p' h;exact⟨aG z nx,aG z nd⟩
 have DU:∀l,l≠q->l≠dx->upd (upd H dx (.own q)) q (.ins C dx []) l=H l:=λl h1 h2=>by rw[aq h1,aq h2]
 have ho:∀l p',g.o l=some p'->(g.dR q).o l=some p':=λl p' h=>by
  show(if l=q then some (jo.ob g.al.length)else g.o l)=_
  rw[if_neg (no l p' h).1];exact h
 have pre:g.al <+: (g.dR q).al:=x_ _ _;refine⟨⟨aK.refl _,pre,λb u h n z=>?_,λb h=>?_⟩,⟨⟨λb u e=>?_,λb p' e=>?_,?_,λk ob e=>?_⟩,x.lc.len,λi c' e=>?_⟩⟩
 ·have h1:=aG h nx
  have h2:=aG h nd;refine⟨(DU b h1 h2).trans h,n,?_⟩;show(if b=q then some (jo.ob g.al.length)else g.o b)=none
  rw[if_neg h1];exact z
 ·by_cases h1:b=q
  ·subst h1;exact nx
  ·by_cases h2:b=dx
   ·subst h2;exact nd
   ·rw[DU b h1 h2]at h;exact h
 ·have h1:b≠q:=λz=>by rw[z]at e;have e:g.HF q=some u:=e;rw[nf]at e;cases e
  have h2:b≠dx:=λz=>by rw[z]at e;have e:g.HF dx=some u:=e;rw[nf2]at e;cases e
  rw[DU b h1 h2];exact x.sub _ _ e
 ·have e:(if b=q then some (jo.ob g.al.length)else g.o b)=some p':=e
  by_cases hb:b=q
  ·subst hb;exact⟨nf,_,ah⟩
  ·rw[if_neg hb]at e
   obtain⟨h1,u,h2⟩:=x.st.live b p' e;obtain⟨h3,h4⟩:=no b p' e;exact⟨h1,u,(DU b h3 h4).trans h2⟩
 ·show(s.m++[_]).length=(g.al++[q]).length
  rw[cK,cK,x.st.len];rfl
 ·have e:(s.m++[(⟨c,[]⟩:Ob)])[k]?=some ob:=e
  by_cases hk:k<s.m.length
  ·rw[gp hk]at e
   refine(x.st.at_ k ob e).mv (aK.refl _) pre λl p' h _=>⟨ho l p' h,?_⟩;obtain⟨h3,h4⟩:=no l p' h;exact DU l h3 h4
  ·rw[eS (by omega)]at e
   have Xx:k-s.m.length=0:=by
    have:=(dc.mp e).1
    simp at this;omega
   rw[Xx]at e;cases e;have nM:k=g.al.length:=by have:=x.st.len;omega
   subst nM;refine .inl ⟨q,C,dx,ns,[],?_,?_,hC,?_,i6 _,rfl,λj c h=>by simp at h⟩
   ·show(g.al++[q])[g.al.length]?=some q
    rw[eS (cC _),i7];rfl
   ·show(if q=q then some (jo.ob g.al.length)else g.o q)=_
    rw[if_pos rfl]
   ·rw[ah,JI]
 ·obtain⟨v,h1,h2⟩:=x.lc.at_ i c' e
  refine⟨v,h1,aX.mv (g:=g) (g':=g.dR q) (aK.refl _) pre (λl h=>⟨ho l _ h,?_⟩) h2⟩;obtain⟨h3,h4⟩:=no l _ h;exact DU l h3 h4
structure ZX(P:Pg)(Pr:Program)(w:World)(K:bu)(mg:Str->D1)(base:Heap)(k:Nat)(c:Nat)(x:Str)(f:Fn):Prop where
 ex:∃(C fi:Addr)(fd:FuncData)(ps:Bi)(ns:Bi),iA (jt P K Pr w) c C ns/\mg x=some (.ref C)/\Mk K C fi/\dH Pr w K mg base lJ k fi fd ps (qr (jt P K Pr w) f)/\Binds K fd ps []
theorem HC{c:Nat}{f:Fn}{t:T}(h:jR c f fl s=.ok (t,s')):∃ts s1 m',fl s=.ok (ts,s1)/\f (.own s1.m.length::ts) (s1.m++[⟨c,[]⟩])=.ok (.non,m')/\t=.own s1.m.length/\s'={s1 with m:=m'}:=by
 obtain⟨⟨ts,s1⟩,h1,h⟩:=ae h;dsimp only at h;cases q:f (.own s1.m.length::ts) (s1.m++[⟨c,[]⟩])with
 |ok r=>
  rw[q]at h;obtain⟨u,m'⟩:=r;cases u<;>first|(cases h;done)|skip
  cases h;exact⟨ts,s1,m',h1,q,rfl,rfl⟩
 |bad=>rw[q]at h;cases h
 |exc c fs s2=>rw[q]at h;cases h
theorem HD{c:Nat}{f:Fn}{C:Addr}{ns:Bi}{ts:FK}{vs:List V}{m':FV}{Q:VK}(hC:iA B c C ns)(x1:SR B g H σ s)(r1:az B g.al g.HF ts vs)(h2:f (.own s.m.length::ts) (s.m++[⟨c,[]⟩])=.ok (.non,m'))
  (k:∀v g' H',eO g H g' H'->SR B g' H' σ {s with m:=m'}->Rep B g'.al g'.HF (.own s.m.length) v->Q v H'):∀q dx,H q=none->H dx=none->dx≠q->qr B f (.ref q::(vs++[])) (upd (upd H dx (.own q)) q (.ins C dx [])) (λv H2=>v=.non/\Q (.ref q) H2) E0:=λq dx nx nd ie=>by
 obtain⟨p2,x2⟩:=x1.dR hC nx nd ie;rw[dz];have hq:(g.dR q).al[s.m.length]?=some q:=by
  show(g.al++[q])[s.m.length]?=some q;rw[x1.st.len,eS (cC _),i7];rfl
 refine uB (E:=E0) (ts:=.own s.m.length::ts) x2 ⟨_,vs,rfl,⟨q,rfl,hq⟩,r1.mv p2.pre p2.fr⟩ h2 λv g' H' p3 x3 rv=>⟨rv,k _ g' H' (p2.trans p3) x3 ⟨q,rfl,dN p3.pre hq⟩⟩
theorem NG{k j c:Nat}{f:Fn}(D:ZX P X.prog X.w X.K X.mg X.base k c x f)(hr:bC j X.A)(AU:k+1<=j)(ha:PA X (e::es) (tA (P.kt X) fl))(hg:Gl X x)(mV:bW x)(hs:(e::es).all noStar=true) :
  PE X (.Call (.Name x p) (e::es) [] pos) (tE (P.kt X) (jR c f fl)):=by
 obtain⟨C,fi,fd,ps,ns,hC,hm,M,F,hb⟩:=D.ex;rw[e9,cO]at hs;refine aP (rn M F (hr.mono AU) hg hm hb .nil mX ha mV (au hs.1) (eE hs.2)) λσ H Q zz=>?_;obtain⟨g,s,t,s',x,h,k⟩:=zz;obtain⟨ts,s1,m',h1,h2,rfl,rfl⟩:=HC h;exact⟨g,s,ts,s1,x,h1,λvs g1 H1 p1 x1 r1=>HD hC x1 r1 h2 λv g' H' p2 x2 rv=>k v g' H' (p1.trans p2) x2 rv⟩
def rN:Expr->Option (Expr×Bz×List Keyword×Pos)
 |.Call f a k p=>some (f,a,k,p)
 |_=>none
def asName:Expr->Option Str
 |.Name x _=>some x
 |_=>none
def ju:Expr->Option (Expr×Str×Pos)
 |.Attribute o f p=>some (o,f,p)
 |_=>none
def kM(e:Expr):Option (Str×Bz×List Keyword):=(rN e).bind λq=>(asName q.1).map λf=>(f,q.2.1,q.2.2.1)
theorem kN{e:Expr}{q}(h:rN e=some q):e=.Call q.1 q.2.1 q.2.2.1 q.2.2.2:=by
 cases e<;>first|(cases h;done)|(cases h;rfl)
theorem eF{e:Expr}{x:Str}(h:asName e=some x):∃p,e=.Name x p:=by
 cases e<;>first|(cases h;done)|(cases h;exact⟨_,rfl⟩)
theorem j3{e:Expr}{q}(h:ju e=some q):e=.Attribute q.1 q.2.1 q.2.2:=by
 cases e<;>first|(cases h;done)|(cases h;rfl)
theorem fG{e:Expr}{q}(h:kM e=some q):∃p pos,e=.Call (.Name q.1 p) q.2.1 q.2.2 pos:=by
 obtain⟨w,h1,h2⟩:=ba.mp h;obtain⟨f,h3,rfl⟩:=cz.mp h2;obtain⟨p,h4⟩:=eF h3;rw[kN h1,h4];exact⟨_,_,rfl⟩
def DV:Stmt->Option (Str×Str×Expr)
 |.Assign ts e _=>(match ts with
  |[t]=>(ju t).bind λq=>(asName q.1).map λs=>(s,q.2.1,e)
  |_=>none)
 |_=>none
theorem yU{st:Stmt}{q}(h:DV st=some q):∃p0 pf pos,st=.Assign [.Attribute (.Name q.1 p0) q.2.1 pf] q.2.2 pos:=by
 cases st<;>first|(cases h;done)|skip
 rename_i ts e pos
 match ts,h with
 |[t],h=>
  obtain⟨w,h1,h2⟩:=ba.mp (show(ju t).bind _=some q from h);obtain⟨s,h3,rfl⟩:=cz.mp h2;obtain⟨p,h4⟩:=eF h3;rw[j3 h1,h4];exact⟨_,_,_,rfl⟩
def rO(st:Stmt):Option (Str×Str×Str):=(DV st).bind λw=>(asName w.2.2).map λq=>(w.1,w.2.1,q)
theorem wW{st:Stmt}{z:Str×Str×Str}(h:rO st=some z):∃p0 pf pq pos,st=.Assign [.Attribute (.Name z.1 p0) z.2.1 pf] (.Name z.2.2 pq) pos:=by
 obtain⟨w,h1,h2⟩:=ba.mp h;obtain⟨q,h3,rfl⟩:=cz.mp h2;obtain⟨p0,pf,pos,rfl⟩:=yU h1;obtain⟨p,h4⟩:=eF h3;rw[h4];exact⟨_,_,_,_,rfl⟩
def nN(N:Bi):Nat->Ee->Bi->Bool
 |_,[],[]=>true
 |i,st::rest,n::ns=>(match rO st with
  |some z=>decide (N[0]?=some z.1)&&decide (N[i]?=some z.2.2)&&decide (z.2.1=n)
  |none=>false)&&nN N (i+1) rest ns
 |_,_,_=>false
def Vx(K:bu):Nat->Bi->TS
 |_,[]=>Cj
 |i,n::ns=>Qh (QK K (vZ 0) (vZ i) n) (Vx K (i+1) ns)
theorem yV(hv:∀(i:Nat)(x:Str),X.N[i]?=some x->sN X.env.scope x/\bW x/\iE x):∀(body:Ee)(ns:Bi)(i:Nat),nN X.N i body ns=true->jH X body (Vx X.K i ns)
 |[],[],_,_=>yl
 |[],_::_,_,h=>by cases h
 |st::rest,[],_,h=>by cases h
 |st::rest,n::ns,i,h=>by
  have h:((match rO st with
   |some z=>decide (X.N[0]?=some z.1)&&decide (X.N[i]?=some z.2.2)&&decide (z.2.1=n)
   |none=>false)&&nN X.N (i+1) rest ns)=true:=h
  rw[cO]at h;obtain⟨h1,h5⟩:=h;cases e:rO st with
  |none=>rw[e]at h1;cases h1
  |some z=>
   rw[e]at h1;simp only[cO,decide_eq_true_eq]at h1;obtain⟨⟨h2,h3⟩,rfl⟩:=h1;obtain⟨p0,pf,pq,pos,rfl⟩:=wW e;obtain⟨v1,v2,v3⟩:=hv 0 _ h2;obtain⟨w1,w2,w3⟩:=hv i _ h3;exact tU (wj (dJ h2 v1 v2 v3) (dJ h3 w1 w2 w3) rfl) (yV hv rest ns (i+1) h5)
theorem yW{K:bu}{C q dx:Addr}{N:Bi}{all:List V}{D:Ends}(cl:pC K C):∀(ns rP:Bi)(as rQ:List V)(H:Hp),(∀f∈ns,eu K C f)->(rP++ns).Nodup->(rP++ns).length<=100->rQ.length=rP.length->as.length=ns.length->all=.ref q::(rQ++as)->H q=some (.ins C dx (rP.zip rQ)) ->
  D.nx (L2.start N all) (upd H q (.ins C dx ((rP++ns).zip (rQ++as))))->Vx K (rQ.length+1) ns D (L2.start N all) H
 |[],rP,as,rQ,H,_,_,_,Hf,hl,ha,hq,k=>by
  have:as=[]:=JJ.mp hl
  subst this;rw[dz,dz]at k;have e:upd H q (.ins C dx (rP.zip rQ))=H:=by
   funext b
   by_cases hb:b=q
   ·subst hb;rw[ah,hq]
   ·rw[aq hb]
  rw[e]at k;exact k
 |n::ns,rP,[],rQ,H,_,_,_,Hf,hl,ha,hq,k=>by cases hl
 |n::ns,rP,v::as,rQ,H,hna,nd,hsz,Hf,hl,ha,hq,k=>by
  have hg:(L2.start N all)[rQ.length+1]?=some (some v):=by
   unfold L2.start;rw[gp (by rw[ha];simp),dB,ha,BQ,eS (cC _),i7];rfl
  have h0:(L2.start N all)[0]?=some (some (.ref q)):=by
   unfold L2.start;rw[gp (by rw[ha];simp),dB,ha];rfl
  have hn:n∉rP:=λz=>by
   rw[BR]at nd;exact nd.2.2 n z n (eg ..) rfl
  refine⟨v,hg,.ref q,h0,q,C,dx,rP.zip rQ,rfl,hq,cl,hna n (eg ..),?_,?_⟩
  ·rw[qP];rw[cK]at hsz;omega
  ·have e1:L2.c8 n v (rP.zip rQ)=(rP++[n]).zip (rQ++[v]):=by
    have:=rM (f:=n) (v:=v) (ns:=rP++[n]) (vs:=rQ) (by
     rw[show rP++n::ns=(rP++[n])++ns by simp]at nd
     exact(BR.mp nd).1) (by rw[Hf,eS (cC _),i7];rfl)
    rw[<- this]
    congr 1
    have:∀(a:Bi)(b:List V)(r:Bi),b.length=a.length->a.zip b=(a++r).zip b:=by
     intro a
     induction a with
     |nil=>intro b r h;cases b with
      |nil=>simp
      |cons=>cases h
     |cons x a ih=>intro b r h;cases b with
      |nil=>cases h
      |cons y b=>rw[jh,BS,jh,ih b r (by simpa using h)]
    exact this rP rQ [n] Hf
   rw[e1];have h5:=yW (N:=N) (all:=all) (D:=D) (q:=q) (dx:=dx) cl ns (rP++[n]) as (rQ++[v]) (upd H q (.ins C dx ((rP++[n]).zip (rQ++[v])))) (λf hf=>hna f (ez _ hf)) (by simpa using nd) (by simpa using hsz) (by simp[Hf]) (by simpa using hl) (by rw[ha];simp) ah (by
    rw[qT];simpa using k)
   rw[show(rQ++[v]).length+1=rQ.length+1+1 by simp]at h5
   exact h5
end
section
theorem nO:∀(k:Int)(ts:FK),(cZ k ts).length=ts.length
 |_,[]=>rfl
 |k,_::ts=>congrArg (· + 1) (nO (k+1) ts)
theorem yX:∀(k:Nat)(ts:FK)(i:Nat)(t:T),ts[i]?=some t->(cZ (k:Int) ts)[i]?=some (.tup [.int ((k+i:Nat):Int),t])
 |_,[],_,_,h=>by simp at h
 |k,_::ts,0,_,h=>by simp at h;subst h;rfl
 |k,_::ts,i+1,t,h=>by
  have:=yX (k+1) ts i t (by simpa using h)
  rw[show k+(i+1)=k+1+i by omega]
  exact this
theorem SK(hB:B.K=X.K)(m:Nat):∀σ H R,tI B (ig (m:Int) fa) σ H R->MK X.K m (tA B (cA fa bq)) σ H R:=by
 rintro σ H R ⟨g,s,t,s',x,h,k⟩
 obtain⟨⟨tx,s1⟩,h1,h⟩:=ae h;obtain⟨ts,h2,h⟩:=ae h;cases h;have h2:=aj h2;obtain⟨SM,rfl,rfl⟩:∃SM,tx=.lst SM/\t=cZ m SM:=by
  cases tx<;>first|(cases h2;done)|(cases h2;exact⟨_,rfl,rfl⟩)
 have hc:cA fa bq s=.ok ([.lst SM],s1):=by
  show(fa s).bind _=_;rw[h1];rfl
 refine⟨g,s,_,_,x,hc,λvs g1 H1 p1 x1 r1=>?_⟩;obtain⟨v,rfl,l,ws,rfl,q1,r1⟩:=cj r1;refine⟨l,ws,rfl,dh.of (x1.sub _ _ q1),k _ g1 H1 p1 x1 ⟨λi H3 s3 hi=>?_,λi H3 x H4 s3 hi y=>?_,λi H3 s3 hi=>?_⟩⟩
 ·rw[nO,r1.len]at hi
  exact⟨hi,dh.of (s3 _ _ q1)⟩
 ·obtain⟨p,x',hn,e1,rfl,rfl⟩:=y
  obtain⟨t1,f1,g1'⟩:=r1.wG e1;refine⟨_,yX m SM i t1 f1,λuE s4 s5=>⟨upd uE p (.tup [.int ((m+i:Nat):Int),x']),.new s5 hn,p,[.int ((m+i:Nat):Int),x'],rfl,k7.of ah,?_⟩⟩;have s6:=s4.trans (aQ (o:=.tup [.int ((m+i:Nat):Int),x']) (s5.free hn));exact⟨.int ((m+i:Nat):Int),[x'],rfl,rfl,.one (g1'.same s6)⟩
 ·rw[nO,r1.len]at hi
  exact⟨hi,dh.of (s3 _ _ q1)⟩
theorem SN(hB:B.K=X.K){elts:Bz}{x1:Nat}{lH:Pos}(hg:Gl X "enumerate")(hm:X.mg "enumerate" = none)(ha:PE X a (tE B fa))(hs:noStar a=true):PI X (.Tuple elts x1 lH) (.Call (.Name "enumerate" p) [a] [] pos) (tI B (ig 0 fa)):=
 lh (Rz hg hm (rG ha wH (au hs)) (au hs)) (SK hB 0)
theorem SO(hB:B.K=X.K){elts:Bz}{x1 k1:Nat}{lH p1 kp:Pos}(hg:Gl X "enumerate")(hm:X.mg "enumerate" = none)(ha:PE X a (tE B fa))(hs:noStar a=true):PI X (.Tuple elts x1 lH) (.Call (.Name "enumerate" p) [a] [⟨some (Str.ofString "start"),.Constant (.int 1) k1 p1,kp⟩] pos) (tI B (ig 1 fa)):=
 lh (MM hg hm (rG ha wH (au hs)) (au hs)) (SK hB 1)
end
section
theorem KU{m:Str}(hb:bK o=true)(hs:es.all noStar=true)(hl:es.length<30)(hp:(b_.endLine == pos.line)=true):DL X o m b_ es pos:=by
 have hf:methodCallForm (es.length+0) (backTo pos (starEach es X.env)) (backToKw pos (keywordEach [] X.env))=true:=by
  unfold methodCallForm;rw[nH hs];show(true&&true&&decide (es.length+0+0<30))=true;rw[decide_eq_true (show es.length+0+0<30 by omega)];rfl
 refine⟨(do return(<- importBound o X.env).getD true),?_⟩
 show(do
  let ov <- attributeBase o m X.env (eval o X.env)
  standAt b_.atName
  methodCall o m b_ pos X.env ov (es.length+0) (backTo pos (starEach es X.env)) (backToKw pos (keywordEach [] X.env)))=_
 rw[gT hb];unfold methodCall;rw[hf];unfold calleeOf methodCallPos;rw[hp];rfl
theorem HE{Pr:Program}{w:World}{K:bu}{mg:Str->D1}{base:Heap}{n qual:Str}{st:Stmt}{f C:Addr}{fd:FuncData}{N ps ns:Bi}{k:Nat}(Fn:wU K n qual st f fd)(Sc:gK N ps (aD st))
  (hv:∀(i:Nat)(x:Str),N[i]?=some x->sN (aD st) x/\bW x/\iE x) (hi:nN N 1 (cL st) ns=true) (hl:ps.length=ns.length+1) (cl:pC K C) (na:∀f∈ns,eu K C f) (nd:ns.Nodup) (nq:ns.length<=100) :
  dH Pr w K mg base lJ (k+1) f fd ps (ZP C ns):=by
 refine Fn.ok Sc (λvs H Q E h=>?_) (λjD A outer s H vs Q E hr h=>?_)
 ·obtain⟨x,dx,args,rfl,qX,_⟩:=h
  rw[bz,qX,hl]
 ·obtain⟨x,dx,args,rfl,qX,hx,q⟩:=h
  refine⟨Vx K 1 ns,yV (X:=(pD lJ Pr w K mg base N qual (aD st) f jD A outer s H E).Kf) hv _ ns 1 hi,?_⟩;exact yW (N:=N) (D:={nx:=λ_ H'=>Q .non H',rt:=Q}) cl ns [] args [] H na (by simpa using nd) (by simpa using nq) rfl qX rfl (by simpa using hx) (by simpa using q)
def ZY(K:bu)(C:Addr)(n:Str):Sp:=λvs H Q _=>∃x dx p ys,vs=[.ref x,.ref p]/\H x=some (.ins C dx [])/\dh K H p ys/\∀l,H l=none->Q .non (upd (upd H l (.lst ys)) x (.ins C dx [(n,.ref l)]))
noncomputable def rR(st:Stmt):Option (Str×Str×Str):=(DV st).bind λw=>(kM w.2.2).bind λc=>(match c.2.1,c.2.2 with
 |[a],[]=>if c.1=("list" : Str)then(asName a).map λq=>(w.1,w.2.1,q)else none
 |_,_=>none)
theorem uI{st:Stmt}{z:Str×Str×Str}(h:rR st=some z):∃p0 pf pq pl pc pos,st=.Assign [.Attribute (.Name z.1 p0) z.2.1 pf] (.Call (.Name "list" pl) [.Name z.2.2 pq] [] pc) pos:=by
 obtain⟨w,h1,h2⟩:=ba.mp h;obtain⟨⟨f,as,ks⟩,h3,h4⟩:=ba.mp h2
 match as,ks,h3,h4 with
 |[a],[],h3,h4=>
  dsimp only at h4;split at h4
  ·rename_i e
   obtain⟨q,h5,rfl⟩:=cz.mp h4;obtain⟨p0,pf,pos,rfl⟩:=yU h1;obtain⟨pl,pc,h6⟩:=fG h3;obtain⟨pq,h7⟩:=eF h5;rw[h6,h7,e];exact⟨_,_,_,_,_,_,rfl⟩
  ·cases h4
theorem DW{Pr:Program}{w:World}{K:bu}{mg:Str->D1}{base:Heap}{nm qual s0 q n:Str}{st SQ:Stmt}{f C:Addr}{fd:FuncData}{N ps:Bi}{k:Nat}(Fn:wU K nm qual st f fd)(Sc:gK N ps (aD st))
  (hb:cL st=[SQ]) (h1:rR SQ=some (s0,n,q)) (h0:N[0]?=some s0) (hq:N[1]?=some q) (hv:∀(i:Nat)(x:Str),N[i]?=some x->sN (aD st) x/\bW x/\iE x) (hm:mg "list" = none) (hg:(aD st).names.lookup ("list" : Str)=some .globalImplicit) (hl:ps.length=2) (cl:pC K C) (na:eu K C n) :
  dH Pr w K mg base lJ (k+1) f fd ps (ZY K C n):=by
 obtain⟨p0,pf,pq,pl,pc,pos,rfl⟩:=uI h1;refine Fn.ok Sc (λvs H Q E h=>?_) (λjD A outer s H vs Q E hr h=>?_)
 ·obtain⟨x,dx,p,ys,rfl,_⟩:=h
  exact hl.symm
 ·obtain⟨x,dx,p,ys,rfl,hx,hp,k⟩:=h
  obtain⟨v1,v2,v3⟩:=hv 0 _ h0;obtain⟨w1,w2,w3⟩:=hv 1 _ hq;rw[hb];refine⟨_,ym (wj (dJ h0 v1 v2 v3) (gB gM (X:=(pD lJ Pr w K mg base N qual (aD st) f jD A outer s H E).Kf) hg hm tH (aV (dJ hq w1 w2 w3) cP)) rfl),?_⟩;refine⟨.ref p,rfl,p,ys,rfl,.inl hp,λl hl=>⟨.ref x,rfl,x,C,dx,[],rfl,?_,cl,na,by decide,k l hl⟩⟩
  rw[aq (λe=>by subst e;rw[hl]at hx;cases hx)]
  exact hx
structure ZZ(P:Pg)(Pr:Program)(w:World)(K:bu)(mg:Str->D1)(base:Heap)(k:Nat)(c:Nat)(x:Str):Prop where
 ex:∃(C fi:Addr)(fd:FuncData)(ps:Bi)(n:Str),iA (jt P K Pr w) c C [n]/\mg x=some (.ref C)/\Mk K C fi/\dH Pr w K mg base lJ k fi fd ps (ZY K C n)/\Binds K fd ps []
theorem NH{k j c:Nat}(D:ZZ P X.prog X.w X.K X.mg X.base k c x)(hr:bC j X.A)(AU:k+1<=j)(ha:PE X e (tE (P.kt X) fa))(hg:Gl X x)(mV:bW x)(hs:noStar e=true) :
  PE X (.Call (.Name x p) [e] [] pos) (tE (P.kt X) (du (AO c) fa)):=by
 obtain⟨C,fi,fd,ps,n,hC,hm,M,F,hb⟩:=D.ex;refine aP (rn M F (hr.mono AU) hg hm hb .nil mX (aV ha cP (au hs)) mV (au hs) rfl) λσ H Q zz=>?_;obtain⟨g,s,t,s',z,h,k⟩:=zz;obtain⟨⟨tx,s1⟩,h1,h⟩:=ae h;obtain⟨t',h2,h⟩:=ae h;cases h;have h2:=aj h2;cases tx<;>first|(cases h2;done)|skip
 rename_i ts;cases h2;refine⟨g,s,_,_,z,h1,λv g1 H1 p1 x1 r1 x dx nx nd ie=>?_⟩;obtain⟨q,vs,rfl,hq,rr⟩:=r1;have g2:=Gr.new (o:=.own x) x1.sub nd;have Xq:upd H1 dx (.own x) x=none:=by rw[aq (Ne.symm ie)];exact nx
 have SW:H1 q=some (.lst vs):=x1.sub _ _ hq;have qd:q≠dx:=λe=>by subst e;rw[nd]at SW;cases SW
 have qx:q≠x:=λe=>by subst e;rw[nx]at SW;cases SW
 refine⟨x,dx,q,vs,rfl,ah,dh.of (by rw[aq qx,aq qd];exact SW),λl hl=>⟨rfl,?_⟩⟩
 have lx:l≠x:=λe=>by subst e;rw[ah]at hl;cases hl
 have FQ:upd H1 dx (.own x) l=none:=by rw[aq lx]at hl;exact hl
 have ld:l≠dx:=λe=>by subst e;rw[ah]at FQ;cases FQ
 have g3:=Gr.new (o:=.lst vs) g2.sub FQ;have nx3:upd (upd H1 dx (.own x)) l (.lst vs) x=none:=by rw[aq (Ne.symm lx)];exact Xq
 have g4:=Gr.new (o:=.ins C dx [(n,.ref l)]) g3.sub nx3;have e:upd (upd (upd (upd H1 dx (.own x)) x (.ins C dx [])) l (.lst vs)) x (.ins C dx [(n,.ref l)])=upd (upd (upd H1 dx (.own x)) l (.lst vs)) x (.ins C dx [(n,.ref l)]):=by
  funext b
  by_cases hb:b=x
  ·subst hb;rw[ah,ah]
  ·rw[aq hb,aq hb]
   by_cases hb2:b=l
   ·subst hb2;rw[ah,ah]
   ·rw[aq hb2,aq hb2,aq hb]
 rw[e];have gr:=(g2.trans g3).trans g4;refine k _ (g1.grow _) _ (p1.trans (x1.gv gr)) (x1.grow gr) ⟨x,C,dx,[n],[.ref l],rfl,hC,ah,cC _,?_,.one ⟨l,vs,rfl,?_,rr.same gr.fr⟩⟩
 ·show upd (upd (upd g1.HF dx (.own x)) l (.lst vs)) x _ dx=_
  rw[aq ie,aq (Ne.symm ld),ah]
 ·show upd (upd (upd g1.HF dx (.own x)) l (.lst vs)) x _ l=_
  rw[aq lx,ah]
theorem yY{K:bu}{t:Value}:∀{cs:B2}{bs:Fh},cs.length=bs.length->(∀(i:Nat)(c:Value)(b:Bool),cs[i]?=some c->bs[i]?=some b->qM K t c=some b)->BH K t cs=some (bs.any id)
 |[],[],_,_=>rfl
 |[],_::_,h,_=>by cases h
 |_::_,[],h,_=>by cases h
 |c::cs,b::bs,hl,h=>by
  have h1:=h 0 c b rfl rfl;have h2:=yY (cs:=cs) (bs:=bs) (by simpa using hl) λi c b e1 e2=>h (i+1) c b (by simpa using e1) (by simpa using e2)
  unfold BH;rw[h1];cases b with
  |true=>rfl
  |false=>exact h2
def namesOf:Bz->Option Bi
 |[]=>some []
 |.Name x _::es=>(namesOf es).map (x::·)
 |_=>none
theorem uJ{Ds:BM}:∀{es:Bz}{ys:Bi}{Ds:BM},namesOf es=some ys->ys.length=Ds.length->(∀(i:Nat)(y:Str)(D:Addr),ys[i]?=some y->Ds[i]?=some D->Gl X y/\X.mg y=some (.ref D)/\bW y)->PA X es (λ_ H Q=>Q (Ds.map V.ref) H)
 |[],_,Ds,h,hl,_=>by
  cases h;cases Ds with
  |nil=>exact cP
  |cons=>cases hl
 |e::es,ys,Ds,h,hl,k=>by
  cases e<;>first|(cases h;done)|skip
  rename_i x px;obtain⟨zs,h1,rfl⟩:=cz.mp (show(namesOf es).map (x::·)=some ys from h)
  cases Ds with
  |nil=>cases hl
  |cons D Ds=>
   obtain⟨k1,k2,k3⟩:=k 0 x D rfl rfl;exact aV (qY (v:=.ref D) k1 k2 rfl k3) (uJ (Ds:=Ds) h1 (by simpa using hl) λi y D e1 e2=>k (i+1) y D (by simpa using e1) (by simpa using e2)) rfl
theorem SX(O:lO X.K X.mg P){ds:B1}{ys:Bi}{x1:Nat}{lH:Pos}(Z3:namesOf es=some ys)(hd:ys.length=ds.length)(hy:∀(i d:Nat)(y:Str),ds[i]?=some d->ys[i]?=some y->P.cn[d]?=some y/\(P.fn[d]?).isSome=true/\Gl X y/\bW y)
  (hl:es.length<=100) (hm:X.mg "isinstance" = none) (ha:PE X a (tE (P.kt X) fa)) (hg:Gl X "isinstance") (hs:noStar a=true) :
  PE X (.Call (.Name "isinstance" p) [a,.Tuple es x1 lH] [] pos) (tE (P.kt X) (du (fZ P.sub ds) fa)):=by
 have cls:∀(ds:B1)(ys:Bi),ys.length=ds.length->(∀(i d:Nat)(y:Str),ds[i]?=some d->ys[i]?=some y->P.cn[d]?=some y/\(P.fn[d]?).isSome=true/\Gl X y/\bW y)->∃Ds:BM,Ds.length=ds.length/\∀(i:Nat)(y:Str)(D:Addr),ys[i]?=some y->Ds[i]?=some D->X.mg y=some (.ref D):=by
  intro ds
  induction ds with
  |nil=>intro ys hl _;exact⟨[],rfl,λi y D _ h=>by simp at h⟩
  |cons d ds ih=>
   intro ys hl h;cases ys with
   |nil=>cases hl
   |cons y ys=>
    obtain⟨h1,h2,_⟩:=h 0 d y rfl rfl;obtain⟨ns,vP⟩:=Cc.mp h2;obtain⟨D,F⟩:=O.cls d y ns h1 vP;obtain⟨Ds,hD,k⟩:=ih ys (by simpa using hl) λi d y e1 e2=>h (i+1) d y (by simpa using e1) (by simpa using e2)
    refine⟨D::Ds,by simp[hD],λi y' D' e1 e2=>?_⟩
    cases i with
    |zero=>simp at e1 e2;subst e1 e2;exact F.gl
    |succ i=>exact k i y' D' (by simpa using e1) (by simpa using e2)
 obtain⟨Ds,Xy,Z4⟩:=cls ds ys hd hy;have get:∀(i:Nat)(y:Str),ys[i]?=some y->∃d,ds[i]?=some d:=λi y h=>by
  have:=(dc.mp h).1
  exact⟨_,b8 (by omega)⟩
 have names:=uJ (X:=X) (Ds:=Ds) Z3 (by rw[hd,Xy]) λi y D e1 e2=>by
  obtain⟨d,e3⟩:=get i y e1;obtain⟨_,_,h3,h4⟩:=hy i d y e3 e1;exact⟨h3,Z4 i y D e1 e2,h4⟩
 refine aP (iH DT hg hm Ce (aV ha (aV (Cw names) cP rfl) (au hs)) (he:=au hs) (hpl:=rfl)) λσ H Q zz=>?_;obtain⟨g,s,t,s',x,h,k⟩:=zz;obtain⟨⟨tx,s1⟩,h1,h⟩:=ae h;obtain⟨t',h2,h⟩:=ae h;cases h;refine⟨g,s,_,_,x,h1,λv g1 H1 p1 x1 r1=>?_⟩;have h2:=aj h2;cases tx<;>first|(cases h2;done)|skip
 obtain⟨l,qX,rfl⟩:=cz.mp h2;obtain⟨b,C,dx,C6,vs,rfl,hC,hq,hle,hdx,r⟩:=r1;obtain⟨m,Xn,Xo,F⟩:=O.of hC;have bO:ys.length=es.length:=by
  have:∀(es:Bz)(ys:Bi),namesOf es=some ys->ys.length=es.length:=by
   intro es
   induction es with
   |nil=>intro ys h;cases h;rfl
   |cons e es ih=>
    intro ys h;cases e<;>first|(cases h;done)|skip
    rename_i x px;obtain⟨zs,h1,rfl⟩:=cz.mp (show(namesOf es).map (x::·)=some ys from h)
    rw[bz,bz,ih zs h1]
  exact this es ys Z3
 refine⟨by rw[bF,Xy,<- hd,bO,sizeLine_eq];omega,λtp htp=>?_⟩
 have g2:=Gr.new (o:=.tup (Ds.map V.ref)) x1.sub htp;have kit:=yY (K:=X.K) (t:=.ref C) (cs:=Ds.map Value.ref) (bs:=ds.map λd=>decide (d∈l)) (by rw[bF,bF,Xy]) λi c bb e1 e2=>by
  rw[dB]at e1 e2;obtain⟨D,e3,rfl⟩:=cz.mp e1;obtain⟨d,e4,rfl⟩:=cz.mp e2;have hi:i<ys.length:=by rw[hd];exact(dc.mp e4).1
  have e5:ys[i]?=some ys[i]:=b8 hi;obtain⟨f1,_⟩:=hy i d _ e4 e5;exact O.sub _ d m _ C D l Xn f1 F.gl (Z4 i _ D e5 e3) qX
 refine⟨b,C,dx,tp,_,Ds,_,rfl,g2.sub _ _ (g2.fr _ _ hq),F.cl,F.ca,O.gt.1,O.gt.2,F.mo,ah,kit,?_⟩
 have:=k (V.bl (ds.any λd=>decide (d∈l))) (g1.grow _) _ (p1.trans (x1.gv g2)) (x1.grow g2) rfl
 rw[BO];exact this
theorem NI{px:Pos}(hN:X.N[i]?=some y)(hv:sN X.env.scope y)(hd:bW y)(jI:iE y)(hb:PE X b (tE B fb))(hs:iV b) :
  PE X (.Subscript (.Name y px) b pos) (tE B (jm i fb)):=by
 refine aP (Kn yr (dJ hN hv hd jI) hb hs) λσ H Q zz=>?_;obtain⟨g,s,t,s',x,h,k⟩:=zz;obtain⟨us,h0,h⟩:=ae h;obtain⟨⟨ty,s1⟩,h1,h⟩:=ae h;obtain⟨ts,h2,h⟩:=ae h;obtain⟨t',h3,h⟩:=ae h;cases h;obtain⟨l,vs,w1,w2,w3,w4⟩:=x.uH (gW (aj h0));refine⟨_,w1,g,s,ty,_,x,h1,λv g1 H1 p1 x1 r1=>?_⟩;obtain⟨l',fS,q1,q2,q3,q4⟩:=x1.uH (gW (aj h2));rw[w1]at q1;cases q1;have h3:=aj h3;cases ty<;>first|(cases h3;done)|skip
 obtain⟨w,e,wy⟩:=rJ q4 (show atT ts _=some _ from h3);exact⟨l,fS,_,w,rfl,r1,dh.of q3,e,k w g1 H1 p1 x1 wy⟩
def ik:T->T->FR
 |.int i,.int j=>some (.int (i+j))
 |_,_=>none
theorem SY(hN:X.N.Nodup)(hi:X.N[i]?=some x)(hx:Loc X.env.scope x)(he:PE X e (tE B fa))(hf:X.fn x=true\/X.env.scope.names.lookup x=some .local) :
  PS X (.AugAssign (.Name x b9) .Add e pos) (tS B (C5 ik i fa)):=c5 (L5 hN hi hx he L6 hf) λD σ H zz=>by
 obtain⟨g,s,o,s',z,h,k⟩:=zz;unfold C5 at h;split at h
 ·rename_i tx hr
  obtain⟨⟨ty,s1⟩,h1,h⟩:=ae h;obtain⟨t,h2,h⟩:=ae h;cases h;obtain⟨v,hv,rv⟩:=z.lc.at_ i _ hr;have h2:=aj h2;cases tx<;>first|(cases h2;done)|(cases ty<;>first|(cases h2;done)|skip)
  cases h2;cases(show v=V.int _ from rv);refine⟨_,hv,g,s,_,s1,z,h1,λw g1 H1 p1 x1 r1=>?_⟩;cases(show w=V.int _ from r1);exact⟨_,_,rfl,rfl,k _ g1 H1 p1 (x1.set (t:=.int _) rfl)⟩
 ·cases h
def yZ(K:bu)(mg:Str->D1)(x:Str)(t:T):Prop:=∃u v,mg x=some u/\RelV v u/\∀(B:KT)(al:BM)(H:Hp),B.K=K->Rep B al H t v
theorem S_{t:T}(h:yZ X.K X.mg x t)(hB:B.K=X.K)(hg:Gl X x)(hd:bW x):PE X (.Name x pos) (tE B (cF t)):=by
 obtain⟨u,v,h1,h2,h3⟩:=h;exact jT (qY hg h1 h2 hd) λal H=>h3 B al H hB
theorem Tc{body:Ee}{h0:ExceptHandler}{hs:List ExceptHandler}{t:TS}(hxe:X.xe=λ_ _=>False)(h:jH X body t):PS X (.Try body (h0::hs) [] [] pos) t:=λaa s σ H D I q=>by
 refine wpAny_Try_except (wpAny_mono (h aa s σ H D I q) (λf s1 z=>?_) λe s1 z=>?_)
 ·cases f with
  |next=>exact wpAny_execs_nil z
  |brk=>exact z
  |cont=>exact z
  |ret u=>exact z
 ·rw[hxe]at z;exact z.elim
end
def HG(neg:Bool):T->T->FR
 |x,.dq ks _=>(gO x).map λk=>.bl (if neg then !decide (k∈ks)else decide (k∈ks))
 |_,_=>none
def aI(op:CmpOp)(x y:T):FR:=match op,y with
 |.In,.dq ks vs=>HG false x (.dq ks vs)
 |.NotIn,.dq ks vs=>HG true x (.dq ks vs)
 |op,y=>Hn op x y
def PV:Option (Option C)->Option (List Ky×FK)
 |some (some (.od ks ts))=>some (ks,ts)
 |_=>none
def lq:CmpOp->Option Bool
 |.In=>some false
 |.NotIn=>some true
 |_=>none
def Td(neg:Bool)(i:Nat)(a:FE):FE:=λs=>(a s).bind λp=>(aS (PV p.2.r[i]?)).bind λd=>(aS (gO p.1)).bind λk=>.ok (.bl (if neg then !decide (k∈d.1)else decide (k∈d.1)),p.2)
def Xz(i:Nat)(s:S):Bool:=(PV s.r[i]?).isSome
def KW(neg:Bool)(i:Nat)(a:FE):FE:=λs=>(a s).bind λp=>(aS (kH p.2.r[i]?)).bind λts=>(aS (MQ p.1 (.lst ts))).bind λb=>.ok (.bl (if neg then !b else b),p.2)
def HH(i:Nat)(s:S):Bool:=(kH s.r[i]?).isSome
def PX(op:CmpOp)(neg:Bool)(i:Nat)(a:FE):FE:=λs=>if Xz i s then Td neg i a s else if HH i s then KW neg i a s else bo (aI op) a (vF i) s
def y9(i:Nat):FS:=λs=>.ok (.nx,i_ s i (.od [] []))
def b7(ks:List Ky)(ts:FK)(k:Ky)(t:T):List Ky×FK:=if k∈ks then(ks,(ks.zip ts).map λp=>if p.1=k then t else p.2)else(ks++[k],ts++[t])
def KY(i:Nat)(b a:FE):FS:=λs=>(a s).bind λp=>(b p.2).bind λq=>(aS (PV p.2.r[i]?)).bind λ_=>(aS (PV q.2.r[i]?)).bind λd=>(aS (gO q.1)).bind λk=>(aS (gd (d.1.length<1000000) ())).bind λ_=>.ok (.nx,i_ q.2 i (let z:=b7 d.1 d.2 k p.1;.od z.1 z.2))
section
variable{wX p1:Pos}{al:BM}
theorem rT{a b:Ky}(h:jE a=jE b):a=b:=by
 cases a<;>cases b
 ·injection h with h;rw[h]
 ·cases h
 ·cases h
 ·injection h with h
  injection h with h
  have h:=congrArg Array.toList h;dsimp only at h;rw[h]
theorem f6{t:T}{v:V}{k:Ky}(h:gO t=some k)(r:Rep B al H t v):v=kV (jE k):=by
 cases t<;>first|(cases h;done)|skip
 ·cases h;exact r
 ·cases h;exact r.1
theorem nP:∀{ks:List Ky}{vs:List V},ks.length=vs.length->∀k,(jj ((ks.map jE).zip vs) (jE k)).isSome=decide (k∈ks)
 |[],_,_,k=>by simp[jj]
 |q::ks,[],h,_=>by cases h
 |q::ks,v::vs,h,k=>by
  rw[cU,jh];by_cases e:q=k
  ·rw[iJ (p:=(jE q,v)) (by rw[e])]
   simp[e]
  ·rw[iK (p:=(jE q,v)) (λz=>e (rT z)),nP (lE.inj h) k]
   have:(k∈q::ks) ↔ (k∈ks):=⟨λz=>(cu.mp z).elim (λz=>absurd z.symm e) id,ez _⟩
   simp only[this]
theorem y_{k:Ky}{v:V}{t:T}(rt:Rep B al H t v):∀{ks:List Ky}{vs:List V}{ts:FK},ks.length=vs.length->az B al H ts vs ->
  ((ks.map jE).zip vs).map (λkv=>if kv.1=jE k then(kv.1,v)else kv)=(ks.map jE).zip ((ks.zip vs).map λp=>if p.1=k then v else p.2)/\ks.length=((ks.zip vs).map λp=>if p.1=k then v else p.2).length/\az B al H ((ks.zip ts).map λp=>if p.1=k then t else p.2) ((ks.zip vs).map λp=>if p.1=k then v else p.2)
 |[],[],_,_,r=>⟨rfl,rfl,by cases ‹FK›<;>exact rfl⟩
 |q::ks,[],_,h,_=>by cases h
 |[],_::_,_,h,_=>by cases h
 |q::ks,u::vs,ts,h,r=>by
  cases ts with
  |nil=>cases(show u::vs=[]from r)
  |cons t' ts=>
   obtain⟨u',fS,e,ru,rs⟩:=r;cases e;obtain⟨h1,h2,h3⟩:=y_ rt (ks:=ks) (vs:=vs) (ts:=ts) (lE.inj h) rs;refine⟨?_,?_,?_⟩
   ·simp only[cU,jh]at h1 ⊢
    rw[h1];by_cases e:q=k
    ·rw[if_pos (by rw[e]),if_pos e]
    ·rw[if_neg (λz=>e (rT z)),if_neg e]
   ·simp only[jh,cU,bz]
    rw[<- h2]
   ·simp only[jh,cU]
    refine⟨_,_,rfl,?_,h3⟩;by_cases e:q=k
    ·rw[if_pos e,if_pos e];exact rt
    ·rw[if_neg e,if_neg e];exact ru
theorem DX{ks:List Ky}{ts:FK}{vs:List V}{k:Ky}{t:T}{v:V}(hl:ks.length=vs.length)(r:az B al H ts vs)(rt:Rep B al H t v) :
  ∃fS,L2.putK ((ks.map jE).zip vs) (jE k) v=((b7 ks ts k t).1.map jE).zip fS/\(b7 ks ts k t).1.length=fS.length/\az B al H (b7 ks ts k t).2 fS:=by
 unfold L2.putK b7;rw[m_,nP hl];by_cases e:k∈ks
 ·rw[if_pos (decide_eq_true e),if_pos e]
  obtain⟨h1,h2,h3⟩:=y_ (k:=k) rt hl r;exact⟨_,h1,h2,h3⟩
 ·rw[if_neg (by simpa using e),if_neg e]
  refine⟨vs++[v],?_,by simp[hl],r.app (.one rt)⟩
  rw[gy,List.zip_append (by rw[bF];exact hl)]
  rfl
def NJ(neg:Bool):R2:=λx y H Q=>∃a o,y=.ref a/\pJ H a x o/\Q (.bl (if neg then !o.isSome else o.isSome)) H
theorem DY(hu:X.A.units+1<cLine):fR X (compareOp .In) (NJ false):=λaa s σ H x y v u Q I rx ry z=>by
 obtain⟨a,o,ey,g,q⟩:=z;subst ey
 obtain rfl:u=Value.ref a:=ry
 exact WM hu I g rx λs3 I3=>⟨.bl o.isSome,H,I3,rfl,q⟩
theorem za(hu:X.A.units+1<cLine):fR X (compareOp .NotIn) (NJ true):=λaa s σ H x y v u Q I rx ry z=>by
 obtain⟨a,o,ey,g,q⟩:=z;subst ey
 obtain rfl:u=Value.ref a:=ry
 exact G4 hu I g rx λs3 I3=>⟨.bl (!o.isSome),H,I3,rfl,q⟩
theorem KZ(neg:Bool):pQ X (HG neg) (NJ neg):=λB hB al HF H x y t tx ty Q sm rx ry h k=>by
 unfold HG at h;split at h
 case h_2=>cases h
 rename_i ks ts;obtain⟨kk,h1,rfl⟩:=cz.mp h;obtain⟨a,vs,rfl,h2,h3,h4⟩:=ry;rw[f6 h1 rx];refine⟨a,_,rfl,.k (sm _ _ h2),?_⟩;rw[nP h3];exact k _ HF H (.refl sm) rfl
theorem lZ{op:CmpOp}{k:Nat}(hr:bC k X.A):∃r,fR X (compareOp op) r/\pQ X (aI op) r:=by
 have hu:X.A.units+1<cLine:=by have:=hr.units;omega
 obtain⟨r,h1,h2⟩:=M5 (op:=op) hr;have XA:(∀x y,aI op x y=Hn op x y)->∃r,fR X (compareOp op) r/\pQ X (aI op) r:=λz=>⟨r,h1,by
  have:aI op=Hn op:=funext λx=>funext λy=>z x y
  rw[this];exact h2⟩
 cases op
 case In=>exact⟨_,h1.or (DY hu),λB hB al HF H x y t tx ty Q sm rx ry h k=>by
  unfold aI at h;split at h
  ·exact .inr (KZ false B hB al HF H x y t tx _ Q sm rx ry h k)
  ·rename_i q;cases q
  ·exact .inl (h2 B hB al HF H x y t tx _ Q sm rx ry h k)⟩
 case NotIn=>exact⟨_,h1.or (za hu),λB hB al HF H x y t tx ty Q sm rx ry h k=>by
  unfold aI at h;split at h
  ·rename_i q;cases q
  ·exact .inr (KZ true B hB al HF H x y t tx _ Q sm rx ry h k)
  ·exact .inl (h2 B hB al HF H x y t tx _ Q sm rx ry h k)⟩
 all_goals exact XA λx y=>by cases y<;>rfl
theorem NK{op:CmpOp}{k:Nat}(hB:B.K=X.K)(hr:bC k X.A)(ha:PE X a (tE B fa))(hb:PE X b (tE B fb))(hm:behindInMarks op b=false):PE X (.Compare a [op] [b] pos) (tE B (bo (aI op) fa fb)):=by
 obtain⟨r,ho,hl⟩:=lZ (op:=op) hr;exact aP (jL ho ha hb hm) (iR hB hl)
theorem HJ{op:CmpOp}{k:Nat}(hB:B.K=X.K)(hr:bC k X.A)(ha:PE X a (tE B fa))(hb:PE X b (tE B fb))(hm:behindInMarks op b=false):PT X (.Compare a [op] [b] pos) (tT B (bP (bo (aI op) fa fb))):=by
 obtain⟨r,ho,hl⟩:=lZ (op:=op) hr;exact yE (jM ho ha hb hm) λσ H Q q=>iR hB hl σ H _ (Dr q)
theorem rV{q:Option (Option C)}{d:List Ky×FK}(h:PV q=some d):q=some (some (.od d.1 d.2)):=by
 unfold PV at h;split at h
 ·cases h;rfl
 ·cases h
theorem SR.NL(x:SR B g H σ s){ks:List Ky}{ts:FK}(h:s.r[i]?=some (some (.od ks ts))):∃l vs,σ[i]?=some (some (.ref l))/\g.o l=some (.loc i)/\H l=some (.dK ((ks.map jE).zip vs))/\ks.length=vs.length/\az B g.al g.HF ts vs:=by
 obtain⟨v,h1,l,vs,rfl,h2,h3,h4,h5⟩:=x.lc.at_ i _ h;exact⟨l,vs,h1,h2,h3,h4,h5⟩
theorem DZ{neg:Bool}:∀σ H Q,tE B (Td neg i fa) σ H Q->Cq (NJ neg) (tE B fa) (vZ i) σ H Q:=by
 rintro σ H Q ⟨g,s,t,s',x,h,k⟩
 obtain⟨⟨tx,s1⟩,h1,h⟩:=ae h;obtain⟨d,h2,h⟩:=ae h;obtain⟨kk,h3,h⟩:=ae h;cases h;refine⟨g,s,tx,_,x,h1,λv g1 H1 p1 x1 r1=>?_⟩;obtain⟨l,vs,w1,w2,w3,w4,w5⟩:=x1.NL (rV (aj h2));refine⟨_,w1,?_⟩;rw[f6 (aj h3) r1];refine⟨l,_,rfl,.k w3,?_⟩;rw[nP w4];exact k _ g1 H1 p1 x1 rfl
theorem j4{op:CmpOp}{neg:Bool}(hu:X.A.units+1<cLine)(h:lq op=some neg):fR X (compareOp op) (NJ neg):=by
 cases op<;>first|(cases h;done)|skip
 ·cases h;exact DY hu
 ·cases h;exact za hu
theorem zb{neg:Bool}(hB:B.K=X.K):∀σ H Q,tE B (KW neg i fa) σ H Q->Cq (uw X.K neg) (tE B fa) (vZ i) σ H Q:=by
 rintro σ H Q ⟨g,s,t,s',x,h,k⟩
 obtain⟨⟨tx,s1⟩,h1,h⟩:=ae h;obtain⟨ts,h2,h⟩:=ae h;obtain⟨b,h3,h⟩:=ae h;cases h;refine⟨g,s,tx,_,x,h1,λv g1 H1 p1 x1 r1=>?_⟩;obtain⟨l,vs,w1,w2,w3,w4⟩:=x1.uH (gW (aj h2));have hf:=(x1.st.live l _ w2).1;refine⟨_,w1,Dq (HF:=upd g1.HF l (.lst vs)) (ty:=.lst ts) hB (λb u e=>?_) (r1.mv er (aQ hf)) ⟨l,vs,rfl,ah,w4.mv er (aQ hf)⟩ (aj h3) (k _ g1 H1 p1 x1 rfl)⟩;by_cases hb:b=l
 ·subst hb;rw[ah]at e;cases e;exact w3
 ·rw[aq hb]at e;exact x1.sub _ _ e
theorem qu{op:CmpOp}{neg:Bool}(h:lq op=some neg):fR X (compareOp op) (uw X.K neg):=by
 cases op<;>first|(cases h;done)|skip
 ·cases h;exact Dp
 ·cases h;exact yI
theorem Te{op:CmpOp}{neg:Bool}{k:Nat}{py:Pos}(hB:B.K=X.K)(hr:bC k X.A)(hn:lq op=some neg)(ha:PE X a (tE B fa))(hN:X.N[i]?=some y)(hv:sN X.env.scope y)(hd:bW y)(jI:iE y) :
  PE X (.Compare a [op] [.Name y py] pos) (tE B (PX op neg i fa)):=by
 have hu:X.A.units+1<cLine:=by have:=hr.units;omega
 obtain⟨r,ho,hl⟩:=lZ (op:=op) hr;have hm:behindInMarks op (.Name y py)=false:=by cases op<;>rfl
 refine DK (ι:=Option Bool) (C:=λ_=>True) (t:=λq=>match q with|some true=>Cq (NJ neg) (tE B fa) (vZ i)|none=>Cq (uw X.K neg) (tE B fa) (vZ i)|some false=>Cq r (tE B fa) (tE B (vF i))) (λq _=>?_) λσ H Q ⟨g,s,t,s',x,h,kk⟩=>?_
 ·match q with
  |some true=>exact jL (j4 hu hn) ha (dJ hN hv hd jI) hm
  |none=>exact jL (qu hn) ha (dJ hN hv hd jI) hm
  |some false=>exact jL ho ha (C9 hN hv hd jI) hm
 ·unfold PX at h
  split at h
  ·exact⟨some true,trivial,DZ σ H Q ⟨g,s,t,s',x,h,kk⟩⟩
  ·split at h
   ·exact⟨none,trivial,zb hB σ H Q ⟨g,s,t,s',x,h,kk⟩⟩
   ·exact⟨some false,trivial,iR hB hl σ H Q ⟨g,s,t,s',x,h,kk⟩⟩
theorem NN{op:CmpOp}{neg:Bool}{k:Nat}{py:Pos}(hB:B.K=X.K)(hr:bC k X.A)(hn:lq op=some neg)(ha:PE X a (tE B fa))(hN:X.N[i]?=some y)(hv:sN X.env.scope y)(hd:bW y)(jI:iE y) :
  PT X (.Compare a [op] [.Name y py] pos) (tT B (bP (PX op neg i fa))):=by
 have hu:X.A.units+1<cLine:=by have:=hr.units;omega
 obtain⟨r,ho,hl⟩:=lZ (op:=op) hr;have hm:behindInMarks op (.Name y py)=false:=by cases op<;>rfl
 have h1:=jM (pos:=pos) ho ha (C9 (B:=B) hN hv hd jI) hm;have h2:=jM (pos:=pos) (j4 hu hn) ha (dJ hN hv hd jI) hm;have h3:=jM (pos:=pos) (qu hn) ha (dJ hN hv hd jI) hm;intro aa s0 σ H Q I q;obtain⟨g,s,t,s',x,h,kk⟩:=Dr q;unfold PX at h;split at h
 ·exact h2 aa s0 σ H Q I (DZ σ H _ ⟨g,s,t,s',x,h,kk⟩)
 ·split at h
  ·exact h3 aa s0 σ H Q I (zb hB σ H _ ⟨g,s,t,s',x,h,kk⟩)
  ·exact h1 aa s0 σ H Q I (iR hB hl σ H _ ⟨g,s,t,s',x,h,kk⟩)
theorem NO{dp:Pos}(hN:X.N.Nodup)(hi:X.N[i]?=some x)(hx:Loc X.env.scope x)(hf:X.fn x=true\/X.env.scope.names.lookup x=some .local) :
  PS X (.Assign [.Name x b9] (.Dict [] [] dp) pos) (tS B (y9 i)):=c5 (v_ hN hi hx nj rfl hf) λD σ H z=>by
 obtain⟨g,s,o,s',x,h,k⟩:=z;cases h;intro q hq;obtain⟨gr,n1,n2⟩:=pO (u:=.dK []) x hq;have x1:=x.grow gr;have p1:=x.gv gr;refine k _ ((g.grow g.HF).own q (.loc i)) _ ⟨p1.fr,p1.pre,λb u h n z=>?_,p1.there⟩ (x1.W2 (ks:=[]) (ts:=[]) (vs:=[]) n2 n1 ah rfl rfl);obtain⟨a,b',c⟩:=p1.rest b u h n z
 have:b≠q:=aG h hq
 exact⟨a,b',by show(if b=q then some (jo.loc i)else g.o b)=none;rw[if_neg this];exact c⟩
theorem NP{py:Pos}{k:Nat}(hr:bC k X.A)(he:PE X e (tE B fa))(hb:PE X b (tE B fb))(hN:X.N[i]?=some y)(hv:sN X.env.scope y)(hd:bW y)(jI:iE y)
  (hs:swapsWith e (some (.Subscript (.Name y py) b b9)) pos.line X.env=pure false) :
  PS X (.Assign [.Subscript (.Name y py) b b9] e pos) (tS B (KY i fb fa)):=by
 have hu:X.A.units+1<cLine:=by have:=hr.units;omega
 refine c5 (yw hu (dJ hN hv hd jI) hb he hs) λD σ H zz=>?_;obtain⟨g,s,o,s',x,h,k⟩:=zz;obtain⟨⟨t,s1⟩,h1,h⟩:=ae h;obtain⟨⟨tk,s2⟩,h2,h⟩:=ae h;obtain⟨d0,h3,h⟩:=ae h;obtain⟨d,h4,h⟩:=ae h;obtain⟨kk,h5,h⟩:=ae h;obtain⟨_,h6,h⟩:=ae h;obtain⟨z,_⟩:=aW (aj h6);cases h;refine⟨g,s,t,s1,x,h1,λv g1 H1 p1 x1 r1=>?_⟩;obtain⟨l,vs,w1,w2,w3,w4,w5⟩:=x1.NL (rV (aj h3));refine⟨_,w1,g1,s1,tk,s2,x1,h2,λu g2 H2 p2 x2 r2=>?_⟩;have ho:=rV (aj h4);obtain⟨l',fS,q1,q2,q3,q4,q5⟩:=x2.NL ho;rw[w1]at q1;cases q1;obtain⟨Tf,e1,e2,e3⟩:=DX (k:=kk) q4 q5 (r1.mv p2.pre p2.fr);obtain⟨x3,p3⟩:=x2.W3 ho w1 e2 e3;rw[f6 (aj h5) r2];refine⟨l,_,rfl,.k q3 ?_,?_⟩
 ·rw[qP,bF,sizeLine_eq]
  have:d.1.length<1000000:=z
  omega
 ·rw[e1]
  exact k σ g2 _ ((p1.trans p2).trans p3) x3
end
def rW(n:Nat)(m:FV):T->Option (Nat×C)
 |.own k=>(m[k]?).bind λob=>(match ob.fs with
  |[c]=>if ob.c=n then some (k,c)else none
  |_=>none)
 |_=>none
def XC:C->FC
 |.ol ts=>some ts
 |_=>none
def XD:C->Option (List Ky×FK)
 |.od ks ts=>some (ks,ts)
 |_=>none
def wY(n:Nat)(m:FV)(t:T):Option (Nat×FK):=(rW n m t).bind λz=>(XC z.2).map λts=>(z.1,ts)
def j5(n:Nat)(m:FV)(t:T):Option (Nat×List Ky×FK):=(rW n m t).bind λz=>(XD z.2).map λd=>(z.1,d.1,d.2)
def setB(n:Nat)(s:S)(k:Nat)(c:C):S:={s with m:=s.m.set k ⟨n,[c]⟩}
def lP(n:Nat):FE:=λs=>.ok (.own s.m.length,{s with m:=s.m++[⟨n,[.od [] []]⟩]})
def il(n:Nat)(o a:FE):FS:=λs=>(o s).bind λp=>(aS (wY n p.2.m p.1)).bind λ_=>(a p.2).bind λq=>(aS (wY n q.2.m p.1)).bind λz=>(aS (gd (z.2.length<1000000) ())).bind λ_=>.ok (.nx,setB n q.2 z.1 (.ol (z.2++[q.1])))
def pR(n:Nat)(o b a:FE):FS:=λs=>(a s).bind λv=>(o v.2).bind λp=>(b p.2).bind λq=>(aS (j5 n q.2.m p.1)).bind λz=>(aS (gO q.1)).bind λk=>(aS (gd (z.2.1.length<1000000) ())).bind λ_=>.ok (.nx,setB n q.2 z.1 (let y:=b7 z.2.1 z.2.2 k v.1;.od y.1 y.2))
def rX(n:Nat)(neg:Bool)(a o:FE):FE:=λs=>(a s).bind λp=>(o p.2).bind λq=>(aS (j5 n q.2.m q.1)).bind λz=>(aS (gO p.1)).bind λk=>.ok (.bl (if neg then !decide (k∈z.2.1)else decide (k∈z.2.1)),q.2)
def D0(n:Nat)(o b:FE):FE:=λs=>(o s).bind λp=>(b p.2).bind λq=>(aS (j5 n q.2.m p.1)).bind λz=>(aS (gO q.1)).bind λk=>(aS (dX z.2.1 z.2.2 k)).bind λt=>.ok (t,q.2)
def AZ(n:Nat)(o b d:FE):FE:=λs=>(o s).bind λp=>(aS (j5 n p.2.m p.1)).bind λ_=>(b p.2).bind λq=>(d q.2).bind λw=>(aS (j5 n w.2.m p.1)).bind λz=>(aS (gO q.1)).bind λk=>.ok ((dX z.2.1 z.2.2 k).getD w.1,w.2)
section
variable{f:Expr}{H1:Hp}{g1:G}{n:Nat}
theorem nQ{m:FV}{t:T}{z:Nat×C}(h:rW n m t=some z):t=.own z.1/\m[z.1]?=some ⟨n,[z.2]⟩:=by
 cases t<;>first|(cases h;done)|skip
 obtain⟨ob,h1,h⟩:=ba.mp (show(m[_]?).bind _=some z from h);obtain⟨d,fs⟩:=ob
 match fs,h,h1 with
 |[c],h,h1=>
  dsimp only at h;split at h
  ·rename_i q;cases h;subst q;exact⟨rfl,h1⟩
  ·cases h
theorem uK{m:FV}{t:T}{z:Nat×FK}(h:wY n m t=some z):t=.own z.1/\m[z.1]?=some ⟨n,[.ol z.2]⟩:=by
 obtain⟨w,h1,h2⟩:=ba.mp h;obtain⟨ts,h3,rfl⟩:=cz.mp h2;obtain⟨e1,e2⟩:=nQ h1;obtain⟨k,c⟩:=w;cases c<;>first|(cases h3;done)|skip
 cases h3;exact⟨e1,e2⟩
theorem iS{m:FV}{t:T}{z:Nat×List Ky×FK}(h:j5 n m t=some z):t=.own z.1/\m[z.1]?=some ⟨n,[.od z.2.1 z.2.2]⟩:=by
 obtain⟨w,h1,h2⟩:=ba.mp h;obtain⟨d,h3,rfl⟩:=cz.mp h2;obtain⟨e1,e2⟩:=nQ h1;obtain⟨k,c⟩:=w;cases c<;>first|(cases h3;done)|skip
 cases h3;exact⟨e1,e2⟩
theorem SR.uL(x:SR B g H σ s)(hc:B.cn[n]?=none){c:C}(hm:s.m[k]?=some ⟨n,[c]⟩){l:Addr}(ha:g.al[k]?=some l):Vs B g H k ⟨n,[c]⟩ l/\aX B g H (.ob k) c (.ref l):=by
 rcases x.st.at_ k _ hm with⟨a',C,dx,ns,vs,Z⟩|⟨a',Z⟩
 ·obtain⟨m,q,_⟩:=Z.cl
  rw[hc]at q;cases q
 ·have:=Z.al.symm.trans ha
  cases this;exact⟨Z,Z.f c rfl⟩
theorem SR.uM{l:Addr}{c:C}(x:SR B g H σ s)(hc:B.cn[n]?=none)(hf:B.fn[n]?=none)(n1:g.HF l=none)(n2:g.o l=none){u:HO}(hl:H l=some u)(r:aX B (g.dR l) H (.ob g.al.length) c (.ref l)):SR B (g.dR l) H σ {s with m:=s.m++[⟨n,[c]⟩]}:=by
 have ho:∀b p',g.o b=some p'->(g.dR l).o b=some p':=λb p' h=>by
  show(if b=l then some (jo.ob g.al.length)else g.o b)=_
  rw[if_neg λz=>by rw[z,n2]at h;cases h];exact h
 have pre:g.al <+: (g.dR l).al:=x_ _ _;refine⟨⟨x.sub,λb p' e=>?_,?_,λk ob e=>?_⟩,x.lc.len,λi c' e=>?_⟩
 ·have e:(if b=l then some (jo.ob g.al.length)else g.o b)=some p':=e
  by_cases hb:b=l
  ·subst hb;exact⟨n1,_,hl⟩
  ·rw[if_neg hb]at e;exact x.st.live b p' e
 ·show(s.m++[_]).length=(g.al++[l]).length
  rw[cK,cK,x.st.len];rfl
 ·have e:(s.m++[(⟨n,[c]⟩:Ob)])[k]?=some ob:=e
  by_cases hk:k<s.m.length
  ·rw[gp hk]at e
   exact(x.st.at_ k ob e).mv (aK.refl _) pre λb p' h _=>⟨ho b p' h,rfl⟩
  ·rw[eS (by omega)]at e
   have Xx:k-s.m.length=0:=by
    have:=(dc.mp e).1
    simp at this;omega
   rw[Xx]at e;cases e;have nM:k=g.al.length:=by have:=x.st.len;omega
   subst nM;refine .inr ⟨l,?_,hc,hf,λd z=>by cases z;exact r⟩
   show(g.al++[l])[g.al.length]?=some l;rw[eS (cC _),i7];rfl
 ·obtain⟨v,h1,h2⟩:=x.lc.at_ i c' e
  exact⟨v,h1,aX.mv (g:=g) (g':=g.dR l) (aK.refl _) pre (λb h=>⟨ho b _ h,rfl⟩) h2⟩
theorem zc{l:Addr}:(g.dR l).o l=some (.ob g.al.length):=by
 show(if l=l then some (jo.ob g.al.length)else g.o l)=_
 rw[if_pos rfl]
theorem eO.uM(q:eO g H g1 H1){l:Addr}(h0:H l=none):eO g H (g1.dR l) H1:=⟨q.fr,q.pre.trans (x_ _ _),λb u h n z=>by
 obtain⟨h1,h2,h3⟩:=q.rest b u h n z;refine⟨h1,h2,?_⟩;show(if b=l then some (jo.ob g1.al.length)else g1.o b)=none
 rw[if_neg (aG h h0)];exact h3,q.there⟩
theorem uN(x:SR B g H σ s){l:Addr}:Rep B (g.dR l).al (g.dR l).HF (.own s.m.length) (.ref l):=⟨l,rfl,by
 show(g.al++[l])[s.m.length]?=some l;rw[x.st.len,eS (cC _),i7];rfl⟩
theorem NQ(hc:B.cn[n]?=none)(hf:B.fn[n]?=none)(he:PE X e (tO B fl)):PE X e (tE B (uq n fl)):=aP he λσ H Q z=>by
 obtain⟨g,s,t,s',x,h,k⟩:=z;obtain⟨⟨ts,s1⟩,h1,h⟩:=ae h;cases h;exact⟨g,s,ts,s1,x,h1,λl vs g1 H1 p1 x1 h0 n1 n2 hl r=>k _ (g1.dR l) H1 (p1.uM h0) (x1.uM (c:=.ol ts) hc hf n1 n2 hl ⟨l,vs,rfl,zc,hl,r.mv (x_ _ _) (aK.refl _)⟩) (uN x1)⟩
theorem NR{dp:Pos}(hc:B.cn[n]?=none)(hf:B.fn[n]?=none):PE X (.Dict [] [] dp) (tE B (lP n)):=aP nj λσ H Q z=>by
 obtain⟨g,s,t,s',x,h,k⟩:=z;cases h;intro q hq;obtain⟨gr,n1,n2⟩:=pO (u:=.dK []) x hq;have x1:=x.grow gr;exact k _ ((g.grow g.HF).dR q) _ ((x.gv gr).uM hq) (x1.uM (c:=.od [] []) hc hf n1 n2 ah ⟨q,[],rfl,zc,ah,rfl,rfl⟩) (uN x1)
theorem SR.K0{l:Addr}{c c':C}{u:HO}(x:SR B g H σ s)(Z:Vs B g H k ⟨n,[c]⟩ l)(hk:s.m[k]?=some ⟨n,[c]⟩)(ho:g.o l=some (.ob k))(r:aX B g (upd H l u) (.ob k) c' (.ref l)) :
  eO g H g (upd H l u)/\SR B g (upd H l u) σ (setB n s k c'):=by
 have ne:∀b q,g.o b=some q->q≠.ob k->upd H l u b=H b:=λb q hb hq=>aq λz=>hq (by rw[z,ho]at hb;cases hb;rfl)
 refine⟨lX ho,⟨⟨λb w e=>?_,λb q e=>?_,by show(s.m.set k _).length=_;rw[eA];exact x.st.len,λk' wV e=>?_⟩,x.lc.len,λi c e=>?_⟩⟩
 ·have:b≠l:=λz=>by rw[z,(x.st.live l _ ho).1]at e;cases e
  rw[aq this];exact x.sub _ _ e
 ·obtain⟨h1,w,h2⟩:=x.st.live b q e
  by_cases hb:b=l
  ·exact⟨h1,_,by rw[hb,ah]⟩
  ·exact⟨h1,w,by rw[aq hb];exact h2⟩
 ·have e:(s.m.set k ⟨n,[c']⟩)[k']?=some wV:=e
  by_cases nM:k=k'
  ·subst nM
   rw[dW (dc.mp hk).1]at e;cases e;exact .inr ⟨l,Z.al,Z.nc,Z.nf,λd z=>by cases z;exact r⟩
  ·rw[cy nM]at e
   refine(x.st.at_ k' wV e).mv (aK.refl _) er λb q h hq=>⟨h,ne b q h ?_⟩;rcases hq with rfl|⟨j,rfl⟩
   ·exact λz=>nM (by cases z;rfl)
   ·exact λz=>by cases z
 ·obtain⟨v,h1,h2⟩:=x.lc.at_ i c e
  exact⟨v,h1,aX.mv (g:=g) (g':=g) (aK.refl _) er (λb hb=>⟨hb,ne b _ hb λz=>by cases z⟩) h2⟩
theorem NS(hc:B.cn[n]?=none)(ho:PE X o (tE B fo))(hb:bK o=true)(he:PE X e (tE B fa))(hs:noStar e=true)(mW:(b_.endLine == c9.line)=true) :
  PS X (.Expr (.Call (.Attribute o "append" b_) [e] [] c9) pos) (tS B (il n fo fa)):=by
 refine c5 (qZ (CM PySem.F.plainAttrs_list PySem.F.slot_list_append PySem.F.type_list_append kD ho (aV he cP (au hs)) (gT hb) (nq (by rw[e9,hs];rfl) (by decide)) mW (au hs) rfl) rfl) λD σ H z=>?_
 obtain⟨g,s,oo,s',x,h,k⟩:=z;obtain⟨⟨tx,s1⟩,h1,h⟩:=ae h;obtain⟨z0,h2,h⟩:=ae h;obtain⟨⟨t,s2⟩,h3,h⟩:=ae h;obtain⟨z,h4,h⟩:=ae h;obtain⟨_,h5,h⟩:=ae h;obtain⟨hz,_⟩:=aW (aj h5);cases h;obtain⟨e1,m1⟩:=uK (aj h2);obtain⟨e2,m2⟩:=uK (aj h4);dsimp only at e1 e2;subst e1;refine⟨g,s,_,s1,x,h1,λv g1 H1 p1 x1 r1=>?_⟩;obtain⟨l,rfl,ha⟩:=r1;obtain⟨Z1,l1,vs1,q1,o1,XE,_⟩:=x1.uL hc m1 ha;cases q1;refine⟨.inl ⟨rfl,_,dh.of XE⟩,g1,s1,t,s2,x1,h3,λv g2 H2 p2 x2 r2=>?_⟩;have ek:z.1=z0.1:=by injection e2 with e2;exact e2.symm
 rw[<- ek]at ha;obtain⟨Z2,l2,Tf,q2,o2,hh2,rr⟩:=x2.uL hc m2 (dN p2.pre ha);cases q2;obtain⟨p3,x3⟩:=x2.K0 (c':=.ol (z.2++[t])) Z2 m2 o2 ⟨l,_,rfl,o2,ah,rr.app (.one r2)⟩;exact⟨l,Tf,v,rfl,rfl,hh2,by rw[<- rr.len,sizeLine_eq];omega,k σ g2 _ ((p1.trans p2).trans p3) x3⟩
theorem Tg{kk:Nat}(hc:B.cn[n]?=none)(hr:bC kk X.A)(he:PE X e (tE B fa))(ho:PE X o (tE B fo))(hb:PE X b (tE B fb))(hs:swapsWith e (some (.Subscript o b b9)) pos.line X.env=pure false) :
  PS X (.Assign [.Subscript o b b9] e pos) (tS B (pR n fo fb fa)):=by
 have hu:X.A.units+1<cLine:=by have:=hr.units;omega
 refine c5 (yw hu ho hb he hs) λD σ H z=>?_;obtain⟨g,s,oo,s',x,h,k⟩:=z;obtain⟨⟨t,s1⟩,h1,h⟩:=ae h;obtain⟨⟨tx,s2⟩,h2,h⟩:=ae h;obtain⟨⟨tk,s3⟩,h3,h⟩:=ae h;obtain⟨z,h4,h⟩:=ae h;obtain⟨ky,h5,h⟩:=ae h;obtain⟨_,h6,h⟩:=ae h;obtain⟨hz,_⟩:=aW (aj h6);cases h;obtain⟨e1,m1⟩:=iS (aj h4);dsimp only at e1;subst e1;refine⟨g,s,t,s1,x,h1,λv g1 H1 p1 x1 r1=>⟨g1,s1,_,s2,x1,h2,λw g2 H2 p2 x2 r2=>⟨g2,s2,tk,s3,x2,h3,λu g3 H3 p3 x3 r3=>?_⟩⟩⟩;obtain⟨l,rfl,ha⟩:=r2;obtain⟨Z,l1,vs,q1,o1,hh,hl,rr⟩:=x3.uL hc m1 (dN p3.pre ha);cases q1;obtain⟨Tf,e1,e2,e3⟩:=DX (k:=ky) hl rr ((r1.mv p2.pre p2.fr).mv p3.pre p3.fr);obtain⟨p4,x4⟩:=x3.K0 (c':=.od (b7 z.2.1 z.2.2 ky t).1 (b7 z.2.1 z.2.2 ky t).2) Z m1 o1 ⟨l,Tf,rfl,o1,ah,e2,e3⟩;rw[f6 (aj h5) r3];refine⟨l,_,rfl,.k hh ?_,?_⟩
 ·rw[qP,bF,sizeLine_eq]
  have:z.2.1.length<1000000:=hz
  omega
 ·rw[e1]
  exact k σ g3 _ (((p1.trans p2).trans p3).trans p4) x4
theorem K1{neg:Bool}(hc:B.cn[n]?=none):∀σ H Q,tE B (rX n neg fa fo) σ H Q->Cq (NJ neg) (tE B fa) (tE B fo) σ H Q:=by
 rintro σ H Q ⟨g,s,t,s',x,h,k⟩
 obtain⟨⟨tx,s1⟩,h1,h⟩:=ae h;obtain⟨⟨ty,s2⟩,h2,h⟩:=ae h;obtain⟨z,h3,h⟩:=ae h;obtain⟨kk,h4,h⟩:=ae h;cases h;obtain⟨e1,m1⟩:=iS (aj h3);dsimp only at e1;subst e1;refine⟨g,s,tx,s1,x,h1,λv g1 H1 p1 x1 r1=>⟨g1,s1,_,s2,x1,h2,λw g2 H2 p2 x2 r2=>?_⟩⟩;obtain⟨l,rfl,ha⟩:=r2;obtain⟨Z,l1,vs,q1,o1,hh,hl,rr⟩:=x2.uL hc m1 ha;cases q1;rw[f6 (aj h4) r1];refine⟨l,_,rfl,.k hh,?_⟩;rw[nP hl];exact k _ g2 H2 (p1.trans p2) x2 rfl
theorem NT{op:CmpOp}{neg:Bool}{kk:Nat}(hc:B.cn[n]?=none)(hr:bC kk X.A)(hn:lq op=some neg)(ha:PE X a (tE B fa))(ho:PE X o (tE B fo))(hm:behindInMarks op o=false):PE X (.Compare a [op] [o] pos) (tE B (rX n neg fa fo)):=
 aP (jL (j4 (by have:=hr.units;omega) hn) ha ho hm) (K1 hc)
theorem NU{op:CmpOp}{neg:Bool}{kk:Nat}(hc:B.cn[n]?=none)(hr:bC kk X.A)(hn:lq op=some neg)(ha:PE X a (tE B fa))(ho:PE X o (tE B fo))(hm:behindInMarks op o=false):PT X (.Compare a [op] [o] pos) (tT B (bP (rX n neg fa fo))):=
 yE (jM (j4 (by have:=hr.units;omega) hn) ha ho hm) λσ H Q q=>K1 hc σ H _ (Dr q)
theorem l_{al:BM}{HF:Hp}{k:Ky}:∀{ks:List Ky}{ts:FK}{vs:List V},ks.length=vs.length->az B al HF ts vs->(∀t,dX ks ts k=some t->∃v,jj ((ks.map jE).zip vs) (jE k)=some v/\Rep B al HF t v)/\(dX ks ts k=none->jj ((ks.map jE).zip vs) (jE k)=none)
 |[],ts,[],_,r=>by
  refine⟨λt h=>?_,λ_=>rfl⟩;cases ts<;>cases h
 |[],_,_::_,h,_=>by cases h
 |q::ks,_,[],h,_=>by cases h
 |q::ks,[],u::vs,h,r=>by cases(show u::vs=[]from r)
 |q::ks,t::ts,u::vs,h,r=>by
  obtain⟨u',fS,e,ru,rs⟩:=r;cases e;rw[cU,jh];by_cases e:q=k
  ·rw[iJ (p:=(jE q,u)) (by rw[e])]
   refine⟨λt' h'=>?_,λh'=>?_⟩
   ·rw[dX,if_pos e]at h'
    cases h';exact⟨u,rfl,ru⟩
   ·rw[dX,if_pos e]at h';cases h'
  ·rw[iK (p:=(jE q,u)) (λz=>e (rT z)),dX,if_neg e]
   exact l_ (lE.inj h) rs
theorem Th{kk:Nat}(hc:B.cn[n]?=none)(hr:bC kk X.A)(ho:PE X o (tE B fo))(hb:PE X b (tE B fb))(hs:MF b):PE X (.Subscript o b pos) (tE B (D0 n fo fb)):=by
 refine aP (yv (by have:=hr.units;omega) ho hb hs) λσ H Q z=>?_
 obtain⟨g,s,t,s',x,h,k⟩:=z;obtain⟨⟨tx,s1⟩,h1,h⟩:=ae h;obtain⟨⟨ty,s2⟩,h2,h⟩:=ae h;obtain⟨z,h3,h⟩:=ae h;obtain⟨ky,h4,h⟩:=ae h;obtain⟨t',h5,h⟩:=ae h;cases h;obtain⟨e1,m1⟩:=iS (aj h3);dsimp only at e1;subst e1;refine⟨g,s,_,s1,x,h1,λv g1 H1 p1 x1 r1=>⟨g1,s1,ty,s2,x1,h2,λw g2 H2 p2 x2 r2=>?_⟩⟩;obtain⟨l,rfl,ha⟩:=r1;obtain⟨Z,l1,vs,q1,o1,hh,hl,rr⟩:=x2.uL hc m1 (dN p2.pre ha);cases q1;obtain⟨v,hv,rv⟩:=(l_ (k:=ky) hl rr).1 _ (aj h5);rw[f6 (aj h4) r2];exact⟨l,v,rfl,hv▸.k hh,k v g2 H2 (p1.trans p2) x2 rv⟩
theorem Ti{kk:Nat}(hc:B.cn[n]?=none)(hr:bC kk X.A)(ho:PE X o (tE B fo))(hb:PE X b (tE B fb))(hd:PE X f (tE B fc))(m:M2 X o "get" b_ b f c9):PE X (.Call (.Attribute o "get" b_) [b,f] [] c9) (tE B (AZ n fo fb fc)):=by
 refine aP (C1 (by have:=hr.units;omega) ho hb hd m) λσ H Q z=>?_
 obtain⟨g,s,t,s',x,h,k⟩:=z;obtain⟨⟨tx,s1⟩,h1,h⟩:=ae h;obtain⟨z0,h2,h⟩:=ae h;obtain⟨⟨ty,s2⟩,h3,h⟩:=ae h;obtain⟨⟨td,s3⟩,h4,h⟩:=ae h;obtain⟨z,h5,h⟩:=ae h;obtain⟨ky,h6,h⟩:=ae h;cases h;obtain⟨e1,m1⟩:=iS (aj h2);obtain⟨e2,m2⟩:=iS (aj h5);dsimp only at e1 e2;subst e1;refine⟨g,s,_,s1,x,h1,λv g1 H1 p1 x1 r1=>?_⟩;obtain⟨l,rfl,ha⟩:=r1;obtain⟨Z1,l1,vs1,q1,o1,XE,_⟩:=x1.uL hc m1 ha;cases q1;refine⟨l,rfl,.inl ⟨_,.inl XE⟩,g1,s1,ty,s2,x1,h3,λw g2 H2 p2 x2 r2=>⟨g2,s2,td,s3,x2,h4,λy g3 H3 p3 x3 r3=>?_⟩⟩;have ek:z.1=z0.1:=by injection e2 with e2;exact e2.symm
 rw[<- ek]at ha;obtain⟨Z,l2,vs,q2,o2,hh,hl,rr⟩:=x3.uL hc m2 (dN p3.pre (dN p2.pre ha));cases q2;rw[f6 (aj h6) r2];obtain⟨g4,g5⟩:=l_ (k:=ky) hl rr;refine⟨_,.k hh,?_⟩;cases e:dX z.2.1 z.2.2 ky with
 |none=>rw[e]at k;rw[g5 e];exact k _ g3 H3 ((p1.trans p2).trans p3) x3 r3
 |some t'=>
  rw[e]at k;obtain⟨v,hv,rv⟩:=g4 t' e;rw[hv];exact k _ g3 H3 ((p1.trans p2).trans p3) x3 rv
end
section
variable{m:FV}{j:Nat}{ob:Ob}{c c':C}{a Ca dx:Addr}{ns:Bi}{vs:List V}{w:V}
theorem fE.one(x:fE B g H m)(hk:m[k]?=some ob)(Z:Bq B g H k ob a Ca dx ns vs)(hw:vs[j]?=some w)(sub:aK g'.HF H')(live:∀b p,g'.o b=some p->g'.HF b=none/\∃u,H' b=some u)(fr:aK g.HF g'.HF)(RJ:g'.al=g.al)
  (kk:∀l p,g.o l=some p->p≠.fld k j->(∀i,p≠.loc i)->g'.o l=some p/\H' l=H l) (q:aX B g' H' (.fld k j) c' w):fE B g' H' (m.set k ⟨ob.c,ob.fs.set j c'⟩):=by
 have pre:g.al <+: g'.al:=by rw[RJ];exact er
 refine⟨sub,live,by rw[eA,RJ];exact x.len,λk' nK e=>?_⟩
 by_cases nM:k=k'
 ·subst nM
  rw[dW (dc.mp hk).1]at e;cases e;obtain⟨o',h'⟩:=kk a _ Z.o (λz=>by cases z) (λi z=>by cases z)
  refine .inl ⟨a,Ca,dx,ns,vs,dN pre Z.al,o',Z.cl,h'.trans Z.h,Z.le,by rw[eA];exact Z.ln,λj' d e=>?_⟩
  by_cases hj:j=j'
  ·subst hj
   have iW:j<ob.fs.length:=by rw[<- Z.ln];exact(dc.mp hw).1
   have e:(ob.fs.set j c')[j]?=some d:=e;rw[dW iW]at e;cases e;exact⟨w,hw,q⟩
  ·have e:(ob.fs.set j c')[j']?=some d:=e
   rw[cy hj]at e;obtain⟨v,h1,h2⟩:=Z.f j' d e;exact⟨v,h1,h2.mv fr pre λl z=>kk l _ z (λz=>hj (by cases z;rfl)) (λi z=>by cases z)⟩
 ·rw[cy nM]at e
  refine(x.at_ k' nK e).mv fr pre λl p h hp=>kk l p h ?_ ?_
  ·rcases hp with rfl|⟨j',rfl⟩
   ·exact λz=>by cases z
   ·exact λz=>nM (by cases z;rfl)
  ·rcases hp with rfl|⟨j',rfl⟩
   ·exact λi z=>by cases z
   ·exact λi z=>by cases z
end
def ir(tab:Ap)(f:Nat)(m:FV):T->Option (Nat×Ob×Nat×C)
 |.own k=>(m[k]?).bind λob=>(gP tab ob.c f).bind λj=>(ob.fs[j]?).map λc=>(k,ob,j,c)
 |_=>none
def D3(m:FV)(z:Nat×Ob×Nat×C)(c:C):FV:=m.set z.1 ⟨z.2.1.c,z.2.1.fs.set z.2.2.1 c⟩
def NV:C->FR
 |.ol ts=>some (.lst ts)
 |.od ks ts=>some (.dq ks ts)
 |_=>none
def gX(n:Nat)(tab:Ap)(f:Nat)(a:FE):FE:=λs=>(a s).bind λp=>(aS (ir tab f p.2.m p.1)).bind λz=>match z.2.2.2 with
 |.val t=>(match rW n p.2.m t with
  |some y=>(aS (NV y.2)).bind λu=>.ok (u,{p.2 with m:=D3 (p.2.m.set y.1 ⟨n,[]⟩) z (.val u)})
  |none=>.ok (t,p.2))
 |_=>.bad
def uO(tab:Ap)(f:Nat)(gg:T->T->FR)(o a:FE):FS:=λs=>(o s).bind λp=>(aS (ir tab f p.2.m p.1)).bind λz=>match z.2.2.2 with
 |.val t=>(a p.2).bind λq=>(aS (ir tab f q.2.m p.1)).bind λy=>(aS (gd (y.2.1.c=z.2.1.c) ())).bind λ_=>(aS (gg t q.1)).bind λu=>.ok (.nx,{q.2 with m:=D3 q.2.m y (.val u)})
 |_=>.bad
section
variable{n:Nat}
theorem SR.HK(O:lO X.K X.mg P){f:Nat}{n:Str}(hf:P.an[f]?=some n)(x:SR (P.kt X) g H σ s){t:T}{z:Nat×Ob×Nat×C}(h:ir P.tab f s.m t=some z){v:V}(r:Rep (P.kt X) g.al g.HF t v) :
  ∃a Ca dx ns vs w,v=.ref a/\Bq (P.kt X) g H z.1 z.2.1 a Ca dx ns vs/\s.m[z.1]?=some z.2.1/\vs[z.2.2.1]?=some w/\aX (P.kt X) g H (.fld z.1 z.2.2.1) z.2.2.2 w/\pC X.K Ca/\eu X.K Ca n/\(ns.zip vs).lookup n=some w:=by
 cases t<;>first|(cases h;done)|skip
 rename_i k;obtain⟨ob,h1,h⟩:=ba.mp (show(s.m[k]?).bind _=some z from h);obtain⟨j,h2,h⟩:=ba.mp h;obtain⟨c,h3,rfl⟩:=cz.mp h;obtain⟨a,rfl,ha⟩:=r;rcases x.st.at_ k ob h1 with⟨a',Ca,dx,ns,vs,Z⟩|⟨a',Z⟩
 case inr=>
  obtain⟨l,q,_⟩:=ba.mp h2;have z:(P.tab.map _)[ob.c]?=none:=Z.nf;rw[dB,q]at z;cases z
 have:=Z.al.symm.trans ha
 cases this;obtain⟨mm,hm,vP,F⟩:=O.of Z.cl;have hj:=lY hf vP h2;obtain⟨w,hw,sl⟩:=Z.f j c h3;exact⟨a,Ca,dx,ns,vs,w,rfl,Z,h1,hw,sl,F.cl,F.na _ (je hj),by rw[gU F.nd hj,hw]⟩
theorem SR.XF{l:Addr}{c:C}{u:HO}(x:SR B g H σ s)(Z:Vs B g H k ⟨n,[c]⟩ l)(hk:s.m[k]?=some ⟨n,[c]⟩)(ho:g.o l=some (.ob k))(hh:H l=some u) :
  eO g H (g.iU l u) H/\SR B (g.iU l u) H σ {s with m:=s.m.set k ⟨n,[]⟩}:=by
 have hf:=(x.st.live l _ ho).1;have ne:∀b p,g.o b=some p->p≠.ob k->(g.iU l u).o b=some p:=λb p hb hp=>by
  have:b≠l:=λe=>hp (by rw[e,ho]at hb;cases hb;rfl)
  show(if b=l then none else g.o b)=_
  rw[if_neg this];exact hb
 refine⟨rF ho hf,⟨⟨λb w e=>?_,λb q e=>?_,by show(s.m.set k _).length=_;rw[eA];exact x.st.len,λk' wV e=>?_⟩,x.lc.len,λi d e=>?_⟩⟩
 ·have e:upd g.HF l u b=some w:=e
  by_cases hb:b=l
  ·subst hb;rw[ah]at e;cases e;exact hh
  ·rw[aq hb]at e;exact x.sub _ _ e
 ·have e:(if b=l then none else g.o b)=some q:=e
  by_cases hb:b=l
  ·rw[if_pos hb]at e;cases e
  ·rw[if_neg hb]at e
   obtain⟨h1,h2⟩:=x.st.live b q e;exact⟨by show upd g.HF l u b=none;rw[aq hb];exact h1,h2⟩
 ·have e:(s.m.set k ⟨n,[]⟩)[k']?=some wV:=e
  by_cases nM:k=k'
  ·subst nM
   rw[dW (dc.mp hk).1]at e;cases e;exact .inr ⟨l,Z.al,Z.nc,Z.nf,λd z=>by cases z⟩
  ·rw[cy nM]at e
   refine(x.st.at_ k' wV e).mv (g':=g.iU l u) (aQ hf) er λb q h hq=>⟨ne b q h ?_,rfl⟩;rcases hq with rfl|⟨j,rfl⟩
   ·exact λz=>nM (by cases z;rfl)
   ·exact λz=>by cases z
 ·obtain⟨v,h1,h2⟩:=x.lc.at_ i d e
  exact⟨v,h1,nB (q:=.loc i) ho hf (λz=>by cases z) h2⟩
theorem SR.XG{z:Nat×Ob×Nat×C}{c':C}{a Ca dx:Addr}{ns:Bi}{vs:List V}{w:V}(x:SR B g H σ s)(hk:s.m[z.1]?=some z.2.1)(Z:Bq B g H z.1 z.2.1 a Ca dx ns vs)(hw:vs[z.2.2.1]?=some w)(q:aX B g H (.fld z.1 z.2.2.1) c' w):SR B g H σ {s with m:=D3 s.m z c'}:=
 ⟨x.st.one hk Z hw x.st.sub x.st.live (aK.refl _) rfl (λ_ _ h _ _=>⟨h,rfl⟩) q,x.lc⟩
theorem qv{tab:Ap}{f:Nat}{m:FV}{t:T}{z:Nat×Ob×Nat×C}(h:ir tab f m t=some z):t=.own z.1/\m[z.1]?=some z.2.1/\gP tab z.2.1.c f=some z.2.2.1/\z.2.1.fs[z.2.2.1]?=some z.2.2.2:=by
 cases t<;>first|(cases h;done)|skip
 rename_i k;obtain⟨ob,h1,h⟩:=ba.mp (show(m[k]?).bind _=some z from h);obtain⟨j,h2,h⟩:=ba.mp h;obtain⟨c,h3,rfl⟩:=cz.mp h;exact⟨rfl,h1,h2,h3⟩
theorem HL{l:Addr}{c:C}{u:T}(h:NV c=some u)(q:aX B g H (.ob k) c (.ref l))(lv:g.HF l=none):∃hu,g.o l=some (.ob k)/\H l=some hu/\Rep B (g.iU l hu).al (g.iU l hu).HF u (.ref l):=by
 cases c<;>first|(cases h;done)|skip
 ·cases h
  obtain⟨l',vs,e,ho,hh,r⟩:=q;cases e;exact⟨_,ho,hh,l,vs,rfl,ah,r.mv er (aQ lv)⟩
 ·cases h
  obtain⟨l',vs,e,ho,hh,hl,r⟩:=q;cases e;exact⟨_,ho,hh,l,vs,rfl,ah,hl,r.mv er (aQ lv)⟩
theorem NW(O:lO X.K X.mg P){f:Nat}{nm:Str}(hc:P.cn[n]?=none)(hf:P.an[f]?=some nm)(he:PE X e (tE (P.kt X) fa))(hb:bK e=true):PE X (.Attribute e nm pos) (tE (P.kt X) (gX n P.tab f fa)):=by
 refine aP (Cv he (gT hb)) λσ H Q z=>?_;obtain⟨g,s,t,s',x,h,k⟩:=z;obtain⟨⟨tx,s1⟩,h1,h⟩:=ae h;obtain⟨z,h2,h⟩:=ae h;have hz:=aj h2;refine⟨g,s,_,s1,x,h1,λv g1 H1 p1 x1 r1=>?_⟩;obtain⟨a,Ca,dx,ns,vs,w,rfl,Z,hk,hw,sl,cl,na,lk⟩:=x1.HK O hf hz r1;refine⟨a,Ca,dx,_,w,rfl,Z.h,cl,na,lk,?_⟩;obtain⟨k0,ob,j,c⟩:=z;cases c<;>first|(cases h;done)|skip
 rename_i tv;dsimp only at h;cases hb:rW n s1.m tv with
 |none=>
  rw[hb]at h;cases h;exact k w g1 H1 p1 x1 sl
 |some y=>
  rw[hb]at h;obtain⟨u,h3,h⟩:=ae h;cases h;obtain⟨e1,m1⟩:=nQ hb;subst e1;obtain⟨l,rfl,ha⟩:=sl;obtain⟨ZB,qB⟩:=x1.uL hc m1 ha;have ho0:g1.HF l=none:=by
   have h3:=aj h3;obtain⟨kb,cb⟩:=y;cases cb<;>first|(cases h3;done)|skip
   ·obtain⟨l',_,e,ho,_⟩:=qB
    cases e;exact(x1.st.live l _ ho).1
   ·obtain⟨l',_,e,ho,_⟩:=qB
    cases e;exact(x1.st.live l _ ho).1
  obtain⟨hu,ho,hh,ru⟩:=HL (aj h3) qB ho0;obtain⟨p2,x2⟩:=x1.XF ZB m1 ho hh;obtain⟨e0,e1,e2,e3⟩:=qv hz;dsimp only at e0 e1 e2 e3;have nM:y.1≠k0:=λz=>by
   rw[z,e1]at m1;cases m1;obtain⟨l,q,_⟩:=ba.mp e2;obtain⟨mm,q2,_⟩:=Z.cl;rw[hc]at q2;cases q2
  have Z5:(s1.m.set y.1 ⟨n,[]⟩)[k0]?=some ob:=by rw[cy nM];exact e1
  have hz2:ir P.tab f (s1.m.set y.1 ⟨n,[]⟩) tx=some (k0,ob,j,.val (.own y.1)):=by
   rw[e0];show((s1.m.set y.1 ⟨n,[]⟩)[k0]?).bind _=_;rw[Z5];show(gP P.tab ob.c f).bind _=_;rw[e2];show(ob.fs[j]?).map _=_;rw[e3];rfl
  obtain⟨a',Ca',Vi,C6,fS,w',e4,Z',Tj,hw',Vb,_⟩:=x2.HK O hf hz2 (r1.mv p2.pre p2.fr);obtain⟨l',e5,Vl⟩:=Vb
  have:l=l':=by
   have q:=dN p2.pre ha;rw[q]at Vl;exact ku.inj Vl
  subst this;subst e5;exact k _ _ H1 (p1.trans p2) (x2.XG Tj Z' hw' (c':=.val _) ru) ru
theorem A0{t u w:T}(h:ik t u=some w):∃i j,t=.int i/\u=.int j/\w=.int (i+j):=by
 cases t<;>first|(cases h;done)|(cases u<;>first|(cases h;done)|(cases h;exact⟨_,_,rfl,rfl,rfl⟩))
theorem Tn(O:lO X.K X.mg P){f:Nat}{nm:Str}(hf:P.an[f]?=some nm)(ho:PE X o (tE (P.kt X) fo))(he:PE X e (tE (P.kt X) fa)):PS X (.AugAssign (.Attribute o nm b9) .Add e pos) (tS (P.kt X) (uO P.tab f ik fo fa)):=by
 refine c5 (Au ho he Mm) λD σ H z=>?_;obtain⟨g,s,oo,s',x,h,k⟩:=z;obtain⟨⟨tx,s1⟩,h1,h⟩:=ae h;obtain⟨z,h2,h⟩:=ae h;have hz:=aj h2;refine⟨g,s,_,s1,x,h1,λv g1 H1 p1 x1 r1=>?_⟩;obtain⟨a,Ca,dx,ns,vs,w,rfl,Z,hk,hw,sl,cl,na,lk⟩:=x1.HK O hf hz r1;refine⟨a,Ca,dx,_,w,rfl,Z.h,cl,na,lk,?_⟩;obtain⟨k0,ob,j,c⟩:=z;cases c<;>first|(cases h;done)|skip
 rename_i tv;obtain⟨⟨ty,s2⟩,h3,h⟩:=ae h;obtain⟨y,h4,h⟩:=ae h;obtain⟨_,h5,h⟩:=ae h;obtain⟨PM,_⟩:=aW (aj h5);obtain⟨u,h6,h⟩:=ae h;cases h;have h6:=aj h6;obtain⟨i,j',rfl,rfl,rfl⟩:=A0 h6;cases(show w=V.int i from sl);refine⟨g1,s1,_,s2,x1,h3,λw2 g2 H2 p2 x2 r2=>?_⟩;cases(show w2=V.int j' from r2);refine⟨_,_,rfl,rfl,?_⟩;have hy:=aj h4;obtain⟨a2,Ca2,dx2,ns2,Tf,w3,e4,Z2,Z5,Vy,_,_⟩:=x2.HK O hf hy (r1.mv p2.pre p2.fr);cases e4;obtain⟨k2,wV,j2,c2⟩:=y;have PM:wV.c=ob.c:=PM;have ec:=Z2.cl;rw[PM]at ec;obtain⟨rfl,rfl⟩:=ec.eq Z.cl;obtain⟨e0,e1,e2,e3⟩:=qv hy;have hp:dM P.tab f (.val (.int (i+j'))) wV=some ⟨wV.c,wV.fs.set j2 (.val (.int (i+j')))⟩:=by
  unfold dM;rw[e2];show(setAt wV.fs j2 _).map _=_;unfold setAt;rw[if_pos (dc.mp e3).1];rfl
 obtain⟨_,_,hl,fS,e5,p3,x3⟩:=yS O hf x2 Z2 e1 hp (v:=.int (i+j')) λj=>rfl;refine⟨dx2,_,Z2.h,hl,?_⟩;rw[e5];exact k σ g2 _ ((p1.trans p2).trans p3) x3
end
def Vz(c:FT)(a b:FL):FL:=λs=>(c s).bind λp=>if p.1 then a p.2 else b p.2
def XH:T->FC
 |.tup ts=>some ts
 |.lst ts=>some ts
 |_=>none
def o1(g:T->FC)(a:FE):FL:=λs=>(a s).bind λp=>(aS (g p.1)).bind λts=>.ok (ts,p.2)
def A1:T->T->FC
 |.lst a,.int k=>gd (k<1000000/\-1000000<k/\a.length*k.toNat<=1000000) (ck k.toNat a).flatten
 |_,_=>none
def o2(g:T->T->FC)(a b:FE):FL:=λs=>(a s).bind λp=>(b p.2).bind λq=>(aS (g p.1 q.1)).bind λts=>.ok (ts,q.2)
def A2:T->FC
 |.int j=>gd (0<=j/\j<1000000) (iT 0 j.toNat)
 |_=>none
def A3:FK->FC
 |[.int i,.int j,.int k]=>gd (j=-1/\k=-1/\-1<=i/\i<1000000) ((dZ (i+1).toNat).map λk=>.int (i-(k:Nat)))
 |_=>none
def NX:T->FC
 |.lst ts=>some ts.reverse
 |_=>none
def isSlice:Expr->Bool
 |.Slice _ _ _ _=>true
 |_=>false
def pS(i:Nat)(b a:FE):FS:=λs=>match HH i s with
 |true=>c8 i b a s
 |false=>KY i b a s
section
variable{gl:FL}{ft:FT}
theorem To(hc:PT X c (tT B ft))(ha:PE X a (tO B fl))(hb:PE X b (tO B gl)):PE X (.IfExp c a b pos) (tO B (Vz ft fl gl)):=aP (tR hc ha hb) λσ H Q z=>by
 obtain⟨g,s,t,s',x,h,k⟩:=z;obtain⟨⟨d,s1⟩,h1,h⟩:=ae h;refine⟨g,s,d,s1,x,h1,λg1 H1 p1 x1=>?_⟩;cases d with
 |true=>exact ud ⟨g1,s1,_,_,x1,h,λl vs g2 H2 p2 x2 n0=>k l vs g2 H2 (p1.trans p2) x2 (p1.there l n0)⟩
 |false=>exact uc ⟨g1,s1,_,_,x1,h,λl vs g2 H2 p2 x2 n0=>k l vs g2 H2 (p1.trans p2) x2 (p1.there l n0)⟩
theorem Tp(hB:B.K=X.K)(hm:X.mg "list" = none)(hg:Gl X "list")(ha:PE X a (tE B fa))(hs:noStar a=true):PE X (.Call (.Name "list" p) [a] [] pos) (tO B (o1 XH fa)):=by
 refine aP (gB gM hg hm tH (aV ha cP (au hs)) (by decide) (by decide) (au hs) rfl) λσ H Q z=>?_
 obtain⟨g,s,t,s',x,h,k⟩:=z;obtain⟨⟨tx,s1⟩,h1,h⟩:=ae h;obtain⟨ts,h2,h⟩:=ae h;cases h;have h2:=aj h2;refine⟨g,s,tx,s1,x,h1,λv g1 H1 p1 x1 r1=>?_⟩;have main:∀{xs:List V},az B g1.al g1.HF t xs->∀l,H1 l=none->Q (.ref l) (upd H1 l (.lst xs)):=λ{xs} r l hl=>by
  obtain⟨gr,n1,n2⟩:=pO (u:=.lst xs) x1 hl;exact k l xs _ _ (p1.trans (x1.gv gr)) (x1.grow gr) (p1.there l hl) n1 n2 ah r
 cases tx<;>first|(cases h2;done)|skip
 ·cases h2
  obtain⟨l,xs,rfl,q,r⟩:=r1;exact⟨l,xs,rfl,.inr (hB▸bM x1.sub q),main r⟩
 ·cases h2
  obtain⟨l,xs,rfl,q,r⟩:=r1;exact⟨l,xs,rfl,.inl (dh.of (x1.sub _ _ q)),main r⟩
theorem NY(ha:PE X a (tE B fa))(hb:PE X b (tE B fb)):PE X (.BinOp a .Mult b pos) (tO B (o2 A1 fa fb)):=by
 refine aP (mQ CO ha hb) λσ H Q z=>?_;obtain⟨g,s,t,s',x,h,k⟩:=z;obtain⟨⟨tx,s1⟩,h1,h⟩:=ae h;obtain⟨⟨ty,s2⟩,h2,h⟩:=ae h;obtain⟨ts,h3,h⟩:=ae h;cases h;have h3:=aj h3;refine⟨g,s,tx,s1,x,h1,λv g1 H1 p1 x1 r1=>⟨g1,s1,ty,s2,x1,h2,λw g2 H2 p2 x2 r2=>?_⟩⟩;cases tx<;>first|(cases h3;done)|(cases ty<;>first|(cases h3;done)|skip)
 obtain⟨c,rfl⟩:=aW h3;obtain⟨l,xs,rfl,q,r⟩:=r1.mv p2.pre p2.fr;refine⟨l,_,xs,rfl,r2,x2.sub _ _ q,by omega,by omega,by rw[<- r.len,sizeLine_eq];omega,λp hp=>?_⟩
 obtain⟨gr,n1,n2⟩:=pO (u:=.lst (ck _ xs).flatten) x2 hp;exact k p _ _ _ ((p1.trans p2).trans (x2.gv gr)) (x2.grow gr) (p1.there p (p2.there p hp)) n1 n2 ah (r.flat _)
theorem HM{t:T}{ts:FK}(h:A2 t=some ts):∃j,t=.int j/\(0<=j/\j<1000000)/\ts=iT 0 j.toNat:=by
 cases t<;>first|(cases h;done)|skip
 obtain⟨c,rfl⟩:=aW h;exact⟨_,rfl,c,rfl⟩
theorem K2(hc:X.calm=true)(hml:X.mg "list" = none)(hmr:X.mg "range" = none)(hgl:Gl X "list")(hgr:Gl X "range")(ha:PE X a (tE B fa)){p1 wX:Pos}(hs:noStar a=true) :
  PE X (.Call (.Name "list" p) [.Call (.Name "range" p1) [a] [] wX] [] pos) (tO B (o1 A2 fa)):=by
 refine aP (gB (pI hc) hgl hml tH (aV (gB AG hgr hmr PyProof.Rows.boot_range (aV ha cP (au hs)) (by decide) (by decide) (au hs) rfl) cP (au rfl)) (by decide) (by decide) (au rfl) rfl) λσ H Q z=>?_
 obtain⟨g,s,t,s',x,h,k⟩:=z;obtain⟨⟨tx,s1⟩,h1,h⟩:=ae h;obtain⟨ts,h2,h⟩:=ae h;cases h;have h2:=aj h2;obtain⟨j,rfl,c,rfl⟩:=HM h2;refine⟨g,s,_,s1,x,h1,λv g1 H1 p1 x1 r1=>?_⟩;cases r1;refine⟨j,rfl,λq hq=>⟨q,j,rfl,ah,c.1,by omega,λl hl=>?_⟩⟩
 obtain⟨gr,n1,n2⟩:=pO (u:=.iT 0 j) x1 hq;have x2:=x1.grow gr;obtain⟨Z6,n3,n4⟩:=pO (u:=.lst ((dZ j.toNat).map λk=>V.int (k:Nat))) x2 hl;have Mn:l≠q:=(aG ah hl).symm;have hl1:H1 l=none:=by rw[aq Mn]at hl;exact hl
 have e:((dZ j.toNat).map λk=>V.int (k:Nat))=(dZ j.toNat).map λk=>V.int (0+((k:Nat):Int)):=by
  apply Ac;intro k _;rw[yi]
 refine k l _ _ _ ((p1.trans (x1.gv gr)).trans (x2.gv Z6)) (x2.grow Z6) (p1.there l hl1) n3 n4 ah ?_;rw[e];exact az.iT 0 _
theorem az.rev{al:BM}{H:Hp}:∀{ts:FK}{vs:List V},az B al H ts vs->az B al H ts.reverse vs.reverse
 |[],_,h=>by have h:_=[]:=h;subst h;rfl
 |t::ts,_,h=>by
  obtain⟨v,r,rfl,h1,h2⟩:=h;rw[BU,BU];exact h2.rev.app (.one h1)
theorem HN{a b c:T}{ts:FK}(h:A3 [a,b,c]=some ts):∃i,a=.int i/\b=.int (-1)/\c=.int (-1)/\-1<=i/\i<1000000/\ts=(dZ (i+1).toNat).map λk=>.int (i-(k:Nat)):=by
 cases a<;>first|(cases h;done)|(cases b<;>first|(cases h;done)|(cases c<;>first|(cases h;done)|skip))
 obtain⟨⟨rfl,rfl,h1,h2⟩,rfl⟩:=aW h;exact⟨_,rfl,rfl,rfl,h1,h2,rfl⟩
theorem NZ(hg:Gl X "range")(hm:X.mg "range" = none)(ha:PE X a (tE B fa))(hb:PE X b (tE B fb))(hc:PE X c (tE B fc))(hs:[a,b,c].all noStar=true):PI X tg (.Call (.Name "range" p) [a,b,c] [] pos) (tI B (ql A3 (cA fa (cA fb (cA fc bq))))):=by
 simp only[e9,JK,tG,cO]at hs;obtain⟨k1,k2,k3⟩:=hs;have e3:starEach [c] X.env=[(false,eval c X.env)]:=au k3;have e2:starEach [b,c] X.env=[(false,eval b X.env),(false,eval c X.env)]:=by rw[au k2,e3]
 have e1:starEach [a,b,c] X.env=[(false,eval a X.env),(false,eval b X.env),(false,eval c X.env)]:=by rw[au k1,e2]
 refine lh (G0 hg hm (aV ha (aV hb (aV hc cP (au k3)) (au k2)) (au k1)) e1 e2) λσ H R z=>?_;obtain⟨g,s,t,s',x,h,k⟩:=z;obtain⟨⟨ts,s1⟩,h1,h⟩:=ae h;obtain⟨us,h2,h⟩:=ae h;cases h;obtain⟨⟨tx,s2⟩,h3,h1⟩:=ae h1;obtain⟨⟨ty,s3⟩,h4,h1⟩:=ae h1;cases h1;obtain⟨⟨tz,s4⟩,h5,h4⟩:=ae h4;obtain⟨⟨tw,s5⟩,h6,h4⟩:=ae h4;cases h4;obtain⟨⟨tv,s6⟩,h7,h6⟩:=ae h6;cases h6;obtain⟨i,rfl,rfl,rfl,l1,l2,rfl⟩:=HN (aj h2);refine⟨g,s,_,_,x,h3,λv g1 H1 p1 x1 r1=>⟨g1,_,_,_,x1,h5,λw g2 H2 p2 x2 r2=>⟨g2,_,_,_,x2,h7,λu g3 H3 p3 x3 r3=>?_⟩⟩⟩;cases r1;cases r2;cases r3;exact⟨_,rfl,l1,by omega,k _ g3 H3 ((p1.trans p2).trans p3) x3 (j1 (DO _ _) (az.dwn _ _))⟩
theorem Tq(hg:Gl X "reversed")(hm:X.mg "reversed" = none)(ha:PE X a (tE B fa))(hs:noStar a=true):PI X tg (.Call (.Name "reversed" p) [a] [] pos) (tI B (o1 NX fa)):=by
 have h0:starEach [a] X.env=[(false,eval a X.env)]:=au hs;refine lh (MA hg hm (aV ha cP h0) h0) λσ H R z=>?_;obtain⟨g,s,t,s',x,h,k⟩:=z;obtain⟨⟨tx,s1⟩,h1,h⟩:=ae h;obtain⟨ts,h2,h⟩:=ae h;cases h;have h2:=aj h2;cases tx<;>first|(cases h2;done)|skip
 cases h2;refine⟨g,s,_,s1,x,h1,λv g1 H1 p1 x1 r1=>?_⟩;obtain⟨l,vs,rfl,q,r⟩:=r1;refine⟨l,vs,rfl,dh.of (x1.sub _ _ q),k _ g1 H1 p1 x1 ⟨λi H1 s1 hi=>?_,λi H1 x H2 s1 hi y=>?_,λi H1 s1 hi=>?_⟩⟩
 ·rw[BV,r.len]at hi
  exact⟨hi,dh.of (s1 _ _ q)⟩
 ·rw[BV,r.len]at hi
  obtain⟨rfl,e⟩:=y;have e':vs.reverse[i]?=some x:=by rw[List.getElem?_reverse hi];exact e
  obtain⟨t,e1,e2⟩:=r.rev.wG e';exact⟨t,e1,λuE s2 s3=>⟨uE,.refl s3,e2.same s2⟩⟩
 ·rw[BV,r.len]at hi
  exact hi
theorem Tr{py rC:Pos}(hb:PE X b (tE B fb))(he:PE X e (tE B fa))(hN:X.N[i]?=some y)(hv:sN X.env.scope y)(hd:bW y)(jI:iE y)(hs:swapsWith e (some (.Subscript (.Name y py) b rC)) pos.line X.env=pure false)(Sb:isSlice b=false) :
  PS X (.Assign [.Subscript (.Name y py) b rC] e pos) (tS B (c8 i fb fa)):=by
 refine c5 (L4 he (L3 (dJ hN hv hd jI) hb set_list λv=>?_) hs rfl rfl) λD σ H z=>?_
 ·cases b<;>first|rfl|(cases Sb)
 obtain⟨g,s,oo,s',x,h,k⟩:=z;obtain⟨⟨t,s1⟩,h1,h⟩:=ae h;obtain⟨HQ,h2,h⟩:=ae h;obtain⟨⟨tk,s2⟩,h3,h⟩:=ae h;obtain⟨ts,h4,h⟩:=ae h;obtain⟨j,h5,h⟩:=ae h;obtain⟨us,h6,h⟩:=ae h;obtain⟨⟨z1,z2⟩,rfl⟩:=aW (aj h6);cases h;have ej:tk=.int j:=yM (aj h5);subst ej;refine⟨g,s,t,s1,x,h1,λv g1 H1 p1 x1 r1=>?_⟩;obtain⟨l,vs,w1,w2,w3,w4⟩:=x1.uH (gW (aj h2));refine⟨_,w1,g1,s1,_,s2,x1,h3,λu g2 H2 p2 x2 r2=>?_⟩;have ho:=gW (aj h4);obtain⟨l',fS,q1,q2,q3,q4⟩:=x2.uH ho;rw[w1]at q1;cases q1;cases r2;obtain⟨x3,p3⟩:=x2.chg ho w1 (q4.set (r1.mv p2.pre p2.fr) j.toNat);have hl:ts.length=fS.length:=q4.len;refine⟨l,fS,j,j.toNat,rfl,rfl,q3,?_,k σ g2 _ ((p1.trans p2).trans p3) x3⟩;unfold GQ;rw[if_pos z1,if_pos (by omega)]
theorem XI{py rC:Pos}{k:Nat}(hr:bC k X.A)(hb:PE X b (tE B fb))(he:PE X e (tE B fa))(hN:X.N[i]?=some y)(hv:sN X.env.scope y)(hd:bW y)(jI:iE y)(hs:swapsWith e (some (.Subscript (.Name y py) b rC)) pos.line X.env=pure false)(Sb:isSlice b=false) :
  PS X (.Assign [.Subscript (.Name y py) b rC] e pos) (tS B (pS i fb fa)):=λaa sh σ H D I z=>by
 obtain⟨g,s,oo,s',x,h,k⟩:=z;unfold pS at h;cases ho:HH i s with
 |true=>
  rw[ho]at h;exact Tr hb he hN hv hd jI hs Sb aa sh σ H D I ⟨g,s,oo,s',x,h,k⟩
 |false=>
  rw[ho]at h;exact NP hr he hb hN hv hd jI hs aa sh σ H D I ⟨g,s,oo,s',x,h,k⟩
def lQ(i:Nat):FE:=λs=>match s.r[i]? with
 |some (some (.ol ts))=>.ok (.int ts.length,s)
 |some (some (.val (.lst ts)))=>.ok (.int ts.length,s)
 |_=>.bad
theorem N1(hB:B.K=X.K){px:Pos}(hN:X.N[i]?=some y)(hv:sN X.env.scope y)(hd:bW y)(jI:iE y)(hg:Gl X "len")(hm:X.mg "len" = none) :
  PE X (.Call (.Name "len" p) [.Name y px] [] pos) (tE B (lQ i)):=by
 refine aP (iH tZ hg hm PySem.boot_len (aV (dJ hN hv hd jI) cP rfl) (he:=rfl) (hpl:=rfl)) λσ H Q z=>?_;obtain⟨g,s,t,s',x,h,k⟩:=z;unfold lQ at h;split at h
 ·rename_i ts h1
  cases h;obtain⟨l,vs,w1,w2,w3,w4⟩:=x.uH h1;exact⟨_,w1,_,_,rfl,.inl ⟨vs,dh.of w3,w4.len⟩,k _ g H .refl x rfl⟩
 ·rename_i ts h1
  cases h;obtain⟨v,w1,l,vs,rfl,w3,w4⟩:=x.lc.at_ _ _ h1;exact⟨_,w1,_,_,rfl,.inl ⟨vs,dh.of (x.sub _ _ w3),w4.len⟩,k _ g H .refl x rfl⟩
 ·cases h
end
def j6:Expr->Option Const
 |.Constant c _ _=>some c
 |_=>none
def zd(e:Expr):Option Str:=match j6 e with
 |some (.str x)=>some x
 |_=>none
def XJ:T->Bool
 |.dq _ _=>true
 |_=>false
section
theorem Tt{kk:Nat}(hB:B.K=X.K)(hr:bC kk X.A)(ha:PE X a (tE B fa))(hb:PE X b (tE B fb))(hs:iV b):PE X (.Subscript a b pos) (tE B (bo vQ fa fb)):=λaa sh σ H Q I z=>by
 obtain⟨g,s,t,s',x,h,k⟩:=z;obtain⟨⟨tx,s1⟩,h1,h0⟩:=ae h;obtain⟨⟨ty,s2⟩,h2,h0⟩:=ae h0;obtain⟨t',h3,h0⟩:=ae h0;cases h0;cases hd:XJ tx with
 |false=>
  refine M7 hB ha hb hs aa sh σ H Q I ⟨g,s,t,_,x,?_,k⟩;have e:gS tx ty=vQ tx ty:=by cases tx<;>first|rfl|(cases hd)
  unfold bo;rw[h1];show(fb s1).bind _=_;rw[h2];show(aS (gS tx ty)).bind _=_;rw[e,h3];rfl
 |true=>
  cases tx<;>first|(cases hd;done)|skip
  obtain⟨ky,h4,h5⟩:=ba.mp (aj h3);refine yv (by have:=hr.units;omega) ha hb hs aa sh σ H Q I ⟨g,s,_,s1,x,h1,λv g1 H1 p1 x1 r1=>⟨g1,s1,ty,s2,x1,h2,λw g2 H2 p2 x2 r2=>?_⟩⟩
  obtain⟨l,vs,rfl,q,hl,rr⟩:=r1.mv p2.pre p2.fr;obtain⟨v,hv,rv⟩:=(l_ (k:=ky) hl rr).1 _ h5;rw[f6 h4 r2];exact⟨l,v,rfl,hv▸.k (x2.sub _ _ q),k v g2 H2 (p1.trans p2) x2 rv⟩
theorem Tu{dp:Pos}:PE X (.Dict [] [] dp) (tE B (cF (.dq [] []))):=aP nj λσ H Q z=>by
 obtain⟨g,s,t,s',x,h,k⟩:=z;cases h;intro q hq;have gr:=Gr.new (o:=.dK []) x.sub hq;exact k _ _ _ (x.gv gr) (x.grow gr) ⟨q,[],rfl,ah,rfl,rfl⟩
def Tv(l:List (Str×Str)):List (V×V):=l.map λp=>(.str p.1,.str p.2)
theorem D4{l:List (Str×Str)}:∀{σ:St}{H:Hp}{Q:List (V×V)->Hp->Prop},Q (Tv l) H->rE (l.map λp=>(tC (.str p.1),tC (.str p.2))) σ H Q:=by
 induction l with
 |nil=>intro σ H Q h;exact h
 |cons p l ih=>intro σ H Q h;exact ih h
theorem HR:∀{aF:List (Key×V)}{k:Key}{v:V},k∉aF.map (·.1)->L2.putK aF k v=aF++[(k,v)]:=by
 intro aF k v h;unfold L2.putK;split
 ·rename_i z
  exfalso;obtain⟨q,h1,h2⟩:=xZ.mp z;exact h (eU.mpr ⟨q,h1,of_decide_eq_true h2⟩)
 ·rfl
theorem qw:∀{more aF:List (Key×V)},((aF++more).map (·.1)).Nodup->jk aF more=aF++more
 |[],aF,_=>by rw[dz];rfl
 |p::more,aF,h=>by
  have e:aF++p::more=(aF++[p])++more:=by simp
  have h':=h;rw[e]at h';have hn:p.1∉aF.map (·.1):=λz=>by
   rw[gy,BR]at h;exact h.2.2 _ z _ (eU.mpr ⟨p,eg ..,rfl⟩) rfl
  show jk (L2.putK aF p.1 p.2) more=_;rw[HR hn,qw h',e]
def HS:List (Option Expr)->Bz->Option (List (Str×Str))
 |[],[]=>some []
 |some k::ks,v::vs=>(zd k).bind λx=>(zd v).bind λy=>if x.length<=1000/\y.length<=1000 then(HS ks vs).map ((x,y)::·)else none
 |_,_=>none
def Tw(l:List (Str×Str)):T:=.dq (l.map λp=>.s p.1.cps.toList) (l.map λp=>.str p.2.cps.toList)
theorem qy{q}(h:j6 e=some q):∃k p,e=.Constant q k p:=by
 cases e<;>first|(cases h;done)|(cases h;exact⟨_,_,rfl⟩)
theorem str_inv(h:zd e=some x):∃kk p,e=.Constant (.str x) kk p:=by
 unfold zd at h;cases hc:j6 e with
 |none=>rw[hc]at h;cases h
 |some c=>
  rw[hc]at h;cases c<;>first|(cases h;done)|skip
  cases h;exact qy hc
theorem ze:∀{ks:List (Option Expr)}{vs:Bz}{l:List (Str×Str)},HS ks vs=some l->Ru X pos ks vs (l.map λp=>(tC (.str p.1),tC (.str p.2)))/\ks.all (·.isSome)=true/\ks.length=vs.length/\ks.length=l.length/\∀p∈l,p.2.length<=1000
 |[],[],l,h=>by cases h;exact⟨G7,rfl,rfl,rfl,λp hp=>by cases hp⟩
 |some k::ks,v::vs,l,h=>by
  obtain⟨x,h1,h⟩:=ba.mp h;obtain⟨y,h2,h⟩:=ba.mp h;split at h
  ·rename_i hl
   obtain⟨l',h3,rfl⟩:=cz.mp h;obtain⟨_,_,rfl⟩:=str_inv h1;obtain⟨_,_,rfl⟩:=str_inv h2;obtain⟨q1,q2,q3,q4,q5⟩:=ze h3;refine⟨C0 v5 v5 q1,by simpa using q2,by simp[q3],by simp[q4],λp hp=>?_⟩
   rcases cu.mp hp with rfl|hp
   ·exact hl.2
   ·exact q5 p hp
  ·cases h
 |[],_::_,_,h=>by cases h
 |none::_,_,_,h=>by cases h
 |some _::_,[],_,h=>by cases h
theorem zf(x:Str):(⟨x.cps.toList.toArray⟩:Str)=x:=by obtain⟨⟨l⟩⟩:=x;rfl
theorem uP{al:BM}{H:Hp}:∀{l:List (Str×Str)},(∀p∈l,p.2.length<=1000)->az B al H (l.map λp=>T.str p.2.cps.toList) (l.map λp=>V.str p.2)
 |[],_=>rfl
 |p::l,h=>⟨_,_,rfl,⟨by show V.str p.2=V.str _;rw[zf],by have:=h p (eg ..);obtain⟨_,⟨⟨m⟩⟩⟩:=p;have e:m.length<=1000:=(dP m)▸this;show m.length<=1000000;omega⟩,uP λq hq=>h q (ez _ hq)⟩
def uQ(l:List (Str×Str)):List (Key×V):=l.map λp=>(.inr p.1,.str p.2)
theorem qz:∀{l:Bi},l.Nodup->(l.map (λx=>(.inr x:Key))).Nodup
 |[],_=>.nil
 |x::l,h=>by
  rw[kq]at h;rw[cU,kq];refine⟨λz=>?_,qz h.2⟩;obtain⟨y,h1,h2⟩:=eU.mp z;injection h2 with h2
  exact h.1 (h2▸h1)
theorem zg:∀{l:List (Str×Str)},((l.map λp=>Ky.s p.1.cps.toList).map jE).zip (l.map λp=>V.str p.2)=uQ l
 |[]=>rfl
 |p::l=>by
  have ih:=zg (l:=l);rw[cU,cU,cU,jh,ih];show((.inr ⟨p.1.cps.toList.toArray⟩:Key),V.str p.2)::_=_;rw[zf];rfl
theorem N2{ks:List (Option Expr)}{vs:Bz}{l:List (Str×Str)}(h:HS ks vs=some l)(h0:l≠[])(WN:l.length<=15)(hn:(l.map (·.1)).Nodup):PE X (.Dict ks vs pos) (tE B (cF (Tw l))):=by
 obtain⟨q1,q2,q3,q4,q5⟩:=ze (X:=X) (pos:=pos) h;have hk:ks≠[]:=λz=>h0 (by rw[z]at q4;exact JJ.mp q4.symm)
 refine aP (G8 q1 q2 q3 hk (by omega)) λσ H Q z=>?_
 obtain⟨g,s,t,s',x,h,k⟩:=z;cases h;intro q hq;refine D4 ⟨ah,uQ l,?_,by unfold uQ;rw[bF];exact WN,?_⟩
 ·unfold Tv uQ
  rw[fQ];rfl
 ·have nd:(([]++uQ l).map (λq:Key×V=>q.1)).Nodup:=by
   unfold uQ;rw[o9,fQ]
   have:(l.map (λq:Str×Str=>q.1)).map (λx=>(.inr x:Key))=l.map ((λq:Key×V=>q.1)∘λp:Str×Str=>((.inr p.1,.str p.2):Key×V)):=by rw[fQ];rfl
   rw[<- this];exact qz hn
  rw[qw nd,o9,qT];have gr:=Gr.new (o:=.dK (uQ l)) x.sub hq;refine k _ _ _ (x.gv gr) (x.grow gr) ⟨q,l.map λp=>.str p.2,rfl,?_,by simp,uP q5⟩
  show upd g.HF q (.dK (uQ l)) q=_;rw[ah,zg]
end
end D
namespace D
open PySem
structure Lc where
 N:Bi
 sc:Scope
 mu:Bi
inductive Ck where
 |fz (c n:Nat)|z0 (c:Nat)|cp (c:Nat)|nw (c i:Nat)
structure Gm where
 P:Pg
 cs:List (Str×T)
 fs:List (Str×FK×Nat)
 cl:List (Str×Ck)
 ms:List (Str×List (Nat×Nat))
 bl:Bi
 bf:Bi:=[]
def Gm.bc(M:Gm):Nat:=M.P.cn.length+M.P.tab.length
theorem Gm.rY(M:Gm):M.P.cn[M.bc]?=none:=qQ (vX _ _)
theorem Gm.Tz(M:Gm):M.P.fn[M.bc]?=none:=qQ (by unfold Pg.fn;rw[bF];exact Nat.le_add_left _ _)
def lr(N:Bi)(x:Str):Option Nat:=N.idxOf? x
def qA(x:Str):Bool:=x == ("__debug__" : Str) ||x == ("__classdict__" : Str)
def lR(L:Lc)(x:Str):Bool:=match L.sc.names.lookup x with
 |some .local=>!qA x
 |some .cell=>!qA x
 |_=>false
def D5(L:Lc)(x:Str):Bool:=decide (L.sc.names.lookup x=some .globalImplicit)&&!qA x
structure Rc where
 E:Lc->Expr->FE
 T:Lc->Expr->FT
 I:Lc->Expr->Expr->FL
 O:Lc->Expr->FL
def eG:List FE->FL
 |[]=>bq
 |a::r=>cA a (eG r)
def D6:List FE->FE
 |[]=>bG
 |[a]=>a
 |a::r=>pL a (D6 r)
def N3:List FT->FT
 |[]=>pK
 |[a]=>a
 |a::r=>sP a (N3 r)
def D7:List FT->FT
 |[]=>pK
 |[a]=>a
 |a::r=>fD a (D7 r)
def D8(sc outer:Scope):Scope:={sc with names:=sc.names.map λ(n,k)=>if(k == NameKind.free&&outer.kind == .function&&outer.names.lookup n == some .cell)then(n,NameKind.cell)else(n,k)}
def locals(sc:Scope):Bi:=sc.names.filterMap λp=>if p.2=.local then some p.1 else none
def frees(sc:Scope):Bi:=sc.names.filterMap λp=>if p.2=.free then some p.1 else none
def idxs(N:Bi):Bi->Option B1
 |[]=>some []
 |x::xs=>(lr N x).bind λi=>(idxs N xs).map (i::·)
def N4(L:Lc)(sc:Scope):Bool:=decide (sc.kind=.function)&&sc.names.all (λp=>decide (p.2≠.cell)&&(decide (p.2=.local)->decide (sc.names.lookup p.1=some .local))&&(decide (p.2=.free)->(decide (sc.names.lookup p.1=some .free)&&decide (L.sc.names.lookup p.1=some .cell))))&&decide (L.sc.kind=.function)
def TF(N:Bi)(ok:Str->Bool):Expr->Option (FG×B1)
 |.Name x _=>if ok x then(lr N x).map λi=>(setG i,[i])else none
 |.Tuple es _ _=>(namesOf es).bind λxs=>if xs.all ok then(idxs N xs).map λis=>(e7 is,is)else none
 |_=>none
def isSet:Expr->Bool
 |.Set _ _ _=>true
 |_=>false
def K3(r:Rc)(L:Lc):Bz->FT
 |[]=>cX
 |[c]=>r.T L c
 |_=>pK
def D9(L:Lc)(sc:Scope):Lc:=⟨locals sc++frees sc,D8 sc L.sc,[]⟩
def nR(r:Rc)(L:Lc)(elt:Expr)(q:Comprehension)(sc:Scope):FL:=if q.is_async=0/\(N4 L sc&&decide ((locals sc++frees sc).Nodup)&&!isSet q.iter&&decide (q.ifs.length<=1))=true then(match idxs L.N (frees sc),TF (locals sc) (λx=>decide (sc.names.lookup x=some .local)) q.target with
  |some js,some (g,_)=>bB (r.I L q.target q.iter) (locals sc).length js g (K3 r (D9 L sc) q.ifs) (r.E (D9 L sc) elt)
  |_,_=>fB)else fB
def qC(r:Rc)(L:Lc):Expr->FL
 |.ListComp elt gs sc _=>(match gs with
  |[g]=>nR r L elt g sc
  |_=>fB)
 |_=>fB
def N5(r:Rc)(L:Lc):Option Expr->FO
 |none=>wF
 |some e=>kG (r.E L e)
def uR(M:Gm)(L:Lc):Bi->Option B1
 |[]=>some []
 |y::ys=>if D5 L y&&((lr M.P.cn y).bind λd=>M.P.fn[d]?).isSome then(lr M.P.cn y).bind λd=>(uR M L ys).map (d::·)else none
def blt(M:Gm)(L:Lc)(x:Str):Bool:=M.bl.contains x&&D5 L x
def Z7(M:Gm)(r:Rc)(L:Lc)(a:Expr):Expr->FE
 |.Name y _=>(match uA.lookup y with
  |some ty=>if M.bl.contains y&&D5 L y then du (Nf ty) (r.E L a)else bG
  |none=>(match uR M L [y]with
   |some ds=>du (fZ M.P.sub ds) (r.E L a)
   |none=>bG))
 |.Tuple es _ _=>if es.length<=100 then(match(namesOf es).bind (uR M L)with
  |some ds=>du (fZ M.P.sub ds) (r.E L a)
  |none=>bG)else bG
 |_=>bG
def ak(l:List (Nat×Nat))(ai:Nat->Fn)(c:Nat):Option Fn:=(l.lookup c).map ai
def TH(L:Lc):Expr->Option Nat
 |.Name y _=>if L.mu.contains y&&lR L y then lr L.N y else none
 |_=>none
def uS(M:Gm)(r:Rc)(L:Lc)(o:Expr):Option FE:=(ju o).bind λq=>if M.bf.contains q.2.1&&bK q.1 then(lr M.P.an q.2.1).map λj=>aC M.P.tab j (r.E L q.1)else none
def uT(M:Gm)(r:Rc)(L:Lc)(a:Expr)(op:CmpOp)(b:Expr):FE:=match lq op,uS M r L b with
 |some neg,some f=>rX M.bc neg (r.E L a) f
 |_,_=>(match lq op,TH L b with
  |some neg,some i=>PX op neg i (r.E L a)
  |_,_=>bo (aI op) (r.E L a) (r.E L b))
def wZ(M:Gm)(L:Lc)(f:Str):Bz->Option Expr
 |[e]=>(kM e).bind λq=>(match q.2.1,q.2.2 with
  |[a],[]=>if f=("list" : Str)/\q.1=("range" : Str)/\blt M L ("range" : Str)=true/\noStar a=true then some a else none
  |_,_=>none)
 |_=>none
def w_(M:Gm)(ai:Nat->Fn)(r:Rc)(L:Lc)(f:Str)(args:Bz):FE:=
 if args.all noStar then(match M.fs.lookup f with
  |some (ds,i)=>if D5 L f then ao (ai i) ds (eG (args.map (r.E L)))else bG
  |none=>(match M.cl.lookup f with
   |some (.fz c n)=>if D5 L f&&!args.isEmpty then cD c n (eG (args.map (r.E L)))else bG
   |some (.z0 c)=>if D5 L f&&args.isEmpty then cD c 0 bq else bG
   |some (.cp c)=>(match args with
    |[a]=>if D5 L f then du (AO c) (r.E L a)else bG
    |_=>bG)
   |some (.nw c i)=>if D5 L f&&!args.isEmpty then jR c (ai i) (eG (args.map (r.E L)))else bG
   |none=>if blt M L f then(match f == ("isinstance" : Str),args with
     |true,[a,q]=>Z7 M r L a q
     |_,_=>(match f == ("len" : Str),args with
      |true,[.Name y p]=>(match lr L.N y with
       |some i=>if L.mu.contains y&&lR L y then lQ i else bg bD (eG [r.E L (.Name y p)])
       |none=>bg bD (eG [r.E L (.Name y p)]))
      |_,_=>(match wZ M L f args with
        |some a=>cY (o1 A2 (r.E L a))
        |none=>(match wN.lookup f,args with
         |some g,_::_=>bg g (eG (args.map (r.E L)))
         |_,_=>bG))))else bG))else bG
def D_:Const->FE
 |.int i=>cF (.int i)
 |.bool b=>cF (.bl b)
 |.none=>cF .non
 |.str s=>if s.length<=1000000 then cF (.str s.cps.toList)else bG
 |_=>bG
def Ea(M:Gm)(L:Lc)(x:Str):FE:=match lr L.N x with
 |some i=>if lR L x then vF i else bG
 |none=>(match M.cs.lookup x with
  |some t=>if D5 L x then cF t else bG
  |none=>bG)
def unE(a:FE):UnaryOp->FE
 |.USub=>du lL a
 |.Not=>pM a
 |_=>bG
def boE(l:List FE):BoolOp->FE
 |.And=>D6 l
 |.Or=>bG
def XM(M:Gm)(r:Rc)(L:Lc)(a:Expr):List CmpOp->Bz->FE
 |[op],[b]=>if behindInMarks op b then bG else uT M r L a op b
 |_,_=>bG
def XN:Expr->Bool
 |.Attribute _ _ _=>true
 |.Dict _ _ _=>true
 |_=>false
def N6(ks:List (Option Expr))(vs:Bz):FE:=match ks,vs with
 |[],[]=>cF (.dq [] [])
 |_,_=>(match HS ks vs with
  |some l=>if l.length<=15/\(l.map (·.1)).Nodup/\l.isEmpty=false then cF (Tw l)else bG
  |none=>bG)
def VA(M:Gm)(r:Rc)(L:Lc)(o i:Expr):FE:=match uS M r L o with
 |some f=>D0 M.bc f (r.E L i)
 |none=>if XN o then bo vQ (r.E L o) (r.E L i)else match(asName o).bind λy=>(lr L.N y).map λk=>(y,k)with
 |some (y,k)=>if L.mu.contains y&&lR L y then jm k (r.E L i)else bo gS (r.E L o) (r.E L i)
 |none=>bo gS (r.E L o) (r.E L i)
def N7(M:Gm)(r:Rc)(L:Lc)(o:Expr):Expr->FE
 |.Slice lo hi st _=>(match st with
  |none=>oW (r.E L o) (N5 r L lo) (N5 r L hi)
  |some _=>bG)
 |i=>VA M r L o i
def XO(M:Gm)(r:Rc)(L:Lc)(o:Expr)(f:Str):FE:=if bK o then(match lr M.P.an f with
  |some j=>if M.bf.contains f then gX M.bc M.P.tab j (r.E L o)else aC M.P.tab j (r.E L o)
  |none=>bG)else bG
def N8(M:Gm)(r:Rc)(L:Lc)(o:Expr)(m:Str):Bz->Option FE
 |[b,d]=>if m=("get" : Str)then(uS M r L o).map λf=>AZ M.bc f (r.E L b) (r.E L d)else none
 |_=>none
def N9(M:Gm)(ai:Nat->Fn)(r:Rc)(L:Lc)(o:Expr)(m:Str)(ap:Pos)(args:Bz)(cp:Pos):FE:=if bK o&&args.all noStar&&decide (args.length<29)&&ap.endLine == cp.line then(match N8 M r L o m args with
   |some f=>f
   |none=>match M.ms.lookup m with
   |some l=>av (ak l ai) (r.E L o) (eG (args.map (r.E L)))
   |none=>(match wL.lookup m,args with
    |some g,_::_=>kL g (r.E L o) (eG (args.map (r.E L)))
    |_,_=>bG))else bG
def XQ(M:Gm)(ai:Nat->Fn)(r:Rc)(L:Lc)(args:Bz)(cp:Pos):Expr->FE
 |.Name f _=>w_ M ai r L f args
 |.Attribute o m ap=>N9 M ai r L o m ap args cp
 |_=>bG
def K4(M:Gm)(ai:Nat->Fn)(r:Rc)(L:Lc):Expr->FE
 |.Constant c _ _=>D_ c
 |.Name x _=>Ea M L x
 |.BinOp a op b _=>bo (dC op) (r.E L a) (r.E L b)
 |.UnaryOp op a _=>unE (r.E L a) op
 |.BoolOp op es _=>boE (es.map (r.E L)) op
 |.Compare a ops bs _=>XM M r L a ops bs
 |.IfExp c a b _=>AN (r.T L c) (r.E L a) (r.E L b)
 |.Tuple es _ _=>if es.all noStar then bg eV (eG (es.map (r.E L)))else bG
 |.List es _=>if es.all noStar then bg jQ (eG (es.map (r.E L)))else bG
 |.Subscript o i _=>N7 M r L o i
 |.Attribute o f _=>XO M r L o f
 |.Dict ks vs _=>N6 ks vs
 |.ListComp elt gs sc p=>cY (qC r L (.ListComp elt gs sc p))
 |.Call f args ks cp=>(match ks with
  |[]=>XQ M ai r L args cp f
  |_::_=>bG)
 |_=>bG
def boT(l:List FT):BoolOp->FT
 |.And=>D7 l
 |.Or=>N3 l
def XR(M:Gm)(r:Rc)(L:Lc)(a:Expr):List CmpOp->Bz->FT
 |[op],[b]=>if behindInMarks op b then pK else bP (uT M r L a op b)
 |_,_=>pK
def stepT(M:Gm)(r:Rc)(L:Lc)(e:Expr):FT:=match e with
 |.BoolOp op es _=>boT (es.map (r.T L)) op
 |.UnaryOp op a _=>(match op with
  |.Not=>cW (r.T L a)
  |_=>tB (r.E L e))
 |.Compare a ops bs _=>XR M r L a ops bs
 |.IfExp _ _ _ _=>pK
 |_=>tB (r.E L e)
def zh(e:Expr):Option Bz:=(kM e).bind λq=>if q.1=("range" : Str)/\q.2.2.isEmpty=true then some q.2.1 else none
noncomputable def uU(e:Expr):Option (Expr×Int):=(kM e).bind λq=>if q.1=("enumerate" : Str)then(match q.2.1 with
 |[a]=>(match q.2.2 with
  |[]=>some (a,0)
  |[w]=>(match j6 w.value with
   |some (.int n)=>if w.arg=some ("start" : Str)/\n=1 then some (a,n)else none
   |_=>none)
  |_=>none)
 |_=>none)else none
def N_:Expr->Bool
 |.Tuple _ _ _=>true
 |_=>false
def HU:Expr->Bool
 |.Name _ _=>true
 |_=>false
def Eb(e:Expr):Option Expr:=(kM e).bind λq=>(match q.2.1,q.2.2 with
 |[a],[]=>if q.1=("reversed" : Str)/\noStar a=true then some a else none
 |_,_=>none)
def stepI(M:Gm)(r:Rc)(L:Lc)(tg e:Expr):FL:=match zh e with
 |some args=>if blt M L ("range" : Str)&&args.all noStar then(match args with
   |[a]=>ql iz (eG [r.E L a])
   |[a,b]=>ql iz (eG [r.E L a,r.E L b])
   |[a,b,c]=>ql A3 (eG [r.E L a,r.E L b,r.E L c])
   |_=>fB)else fB
 |none=>(match uU e with
  |some (a,n)=>if blt M L ("enumerate" : Str)&&N_ tg&&noStar a then ig n (r.E L a)else fB
  |none=>match Eb e with
  |some a=>if blt M L ("reversed" : Str)then o1 NX (r.E L a)else fB
  |none=>if HU tg then nz (r.E L e)else Hy (r.E L e))
def Oa(M:Gm)(r:Rc)(L:Lc)(f:Str)(args:Bz):FL:=if blt M L f then match wZ M L f args with
 |some a=>o1 A2 (r.E L a)
 |none=>(match args with
  |[a]=>if f=("list" : Str)/\noStar a=true then o1 XH (r.E L a)else fB
  |_=>fB)else fB
def K5(M:Gm)(r:Rc)(L:Lc):Expr->FL
 |.IfExp c a b _=>Vz (r.T L c) (r.O L a) (r.O L b)
 |.BinOp a op b _=>(match op with
  |.Mult=>o2 A1 (r.E L a) (r.E L b)
  |_=>fB)
 |.Call f args ks _=>(match ks with
  |[]=>(match asName f with
   |some y=>Oa M r L y args
   |none=>fB)
  |_::_=>fB)
 |.List es _=>if es.all noStar then lM (eG (es.map (r.E L)))else fB
 |.ListComp elt gs sc p=>qC r L (.ListComp elt gs sc p)
 |_=>fB
def comp(M:Gm)(ai:Nat->Fn):Nat->Rc
 |0=>⟨λ_ _=>bG,λ_ _=>pK,λ_ _ _=>fB,λ_ _=>fB⟩
 |n+1=>⟨K4 M ai (comp M ai n),stepT M (comp M ai n),stepI M (comp M ai n),K5 M (comp M ai n)⟩
def Ec(L:Lc)(t:Str)(tp:Pos):Expr->Bool
 |.ListComp _ _ sc p=>(if L.sc.kind.isAnnotationScope then ScopeKind.function else L.sc.kind) == .function&&L.sc.names.lookup t == some .local&&tp.line == p.line&&!(sc.names.any λ(n,k)=>n == t&&(k == .local ||k == .cell))
 |_=>false
def A4:Expr->Bool
 |.ListComp _ _ _ _=>true
 |.SetComp _ _ _ _=>true
 |.DictComp _ _ _ _ _=>true
 |_=>false
noncomputable def zj(mu:Bi)(e:Expr):Option (Str×Expr):=(rN e).bind λq=>(ju q.1).bind λw=>(asName w.1).bind λy=>(match q.2.1,q.2.2.1 with
 |[a],[]=>if w.2.1=("append" : Str)/\mu.contains y=true/\noStar a=true/\(w.2.2.endLine == q.2.2.2.line)=true then some (y,a)else none
 |_,_=>none)
def zk:Expr->Bool
 |.Dict [] [] _=>true
 |_=>false
def Ef(M:Gm)(ai:Nat->Fn)(n:Nat)(L:Lc)(x:Str)(e:Expr):FS:=match lr L.N x with
 |some i=>if lR L x then(if L.mu.contains x then(if zk e then y9 i else iQ i ((comp M ai n).O L e))else aH i ((comp M ai n).E L e))else c_
 |none=>c_
abbrev many:Nat:=1000000
def Oc(M:Gm)(ai:Nat->Fn)(n:Nat)(L:Lc)(f:Str)(e:Expr):FE:=if M.bf.contains f then(if zk e then lP M.bc else uq M.bc ((comp M ai n).O L e))else(comp M ai n).E L e
def Od(M:Gm)(ai:Nat->Fn)(n:Nat)(L:Lc)(o:Expr)(f:Str)(e:Expr):FS:=match lr M.P.an f with
  |some j=>aM M.P.tab j ((comp M ai n).E L o) (Oc M ai n L f e)
  |none=>c_
def Oe(M:Gm)(ai:Nat->Fn)(n:Nat)(L:Lc)(o b e:Expr):FS:=if A4 e then c_ else match uS M (comp M ai n) L o with
 |some f=>pR M.bc f ((comp M ai n).E L b) ((comp M ai n).E L e)
 |none=>match(asName o).bind λy=>if lR L y then lr L.N y else none with
  |some i=>if isSlice b then c_ else pS i ((comp M ai n).E L b) ((comp M ai n).E L e)
  |none=>c_
def asS(M:Gm)(ai:Nat->Fn)(n:Nat)(L:Lc)(e:Expr):Expr->FS
 |.Name x _=>Ef M ai n L x e
 |.Attribute o f _=>Od M ai n L o f e
 |.Subscript o b _=>Oe M ai n L o b e
 |_=>c_
def Of(M:Gm)(ai:Nat->Fn)(n:Nat)(L:Lc)(t:Expr)(op:Operator)(e:Expr):FS:=match(ju t).bind λq=>(lr M.P.an q.2.1).map λj=>(q.1,j)with
  |some (o,j)=>if op=.Add then uO M.P.tab j ik ((comp M ai n).E L o) ((comp M ai n).E L e)else c_
  |none=>match(asName t).bind λx=>(lr L.N x).map λi=>(x,i)with
  |some (x,i)=>if op=.Add/\lR L x=true then C5 ik i ((comp M ai n).E L e)else c_
  |none=>c_
def TJ(M:Gm)(r:Rc)(L:Lc)(e:Expr):Option (FE×Expr):=(rN e).bind λq=>(ju q.1).bind λw=>(uS M r L w.1).bind λf=>(match q.2.1,q.2.2.1 with
 |[a],[]=>if w.2.1=("append" : Str)/\noStar a=true/\(w.2.2.endLine == q.2.2.2.line)=true then some (f,a)else none
 |_,_=>none)
def XS(M:Gm)(ai:Nat->Fn)(n:Nat)(L:Lc)(e:Expr):FS:=match TJ M (comp M ai n) L e with
  |some (f,a)=>il M.bc f ((comp M ai n).E L a)
  |none=>match zj L.mu e with
  |some (y,a)=>(match lr L.N y with
   |some i=>if lR L y then gQ i ((comp M ai n).E L a)else c_
   |none=>c_)
  |none=>if A4 e then c_ else aL ((comp M ai n).E L e)
def retS(M:Gm)(ai:Nat->Fn)(n:Nat)(L:Lc):Option Expr->FS
 |some e=>aA ((comp M ai n).E L e)
 |none=>aA (cF .non)
def Og(M:Gm)(ai:Nat->Fn)(n:Nat)(L:Lc)(b:FS)(tg it:Expr):FS:=if isSet it then c_ else(match TF L.N (lR L) tg with
  |some (g,_)=>gR ((comp M ai n).I L tg it) g b
  |none=>c_)
def XT(M:Gm)(ai:Nat->Fn)(n:Nat)(rS:Lc->Ee->FS)(L:Lc):Stmt->FS
 |.Assign ts e _=>(match ts with
  |[t]=>asS M ai n L e t
  |_=>c_)
 |.AugAssign t op e _=>Of M ai n L t op e
 |.Expr e _=>XS M ai n L e
 |.Return o _=>retS M ai n L o
 |.If c a b _=>aU ((comp M ai n).T L c) (rS L a) (rS L b)
 |.For tg it body oe _=>(match oe with
  |[]=>Og M ai n L (rS L body) tg it
  |_::_=>c_)
 |.While c body oe _=>(match oe with
  |[]=>eW many ((comp M ai n).T L c) (rS L body)
  |_::_=>c_)
 |.Try body hs oe fb _=>(match hs,oe,fb with
  |_::_,[],[]=>rS L body
  |_,_,_=>c_)
 |.Pass _=>aE
 |.Break _=>RH
 |.Continue _=>RI
 |_=>c_
def kO(M:Gm)(ai:Nat->Fn)(n:Nat):Nat->Lc->Ee->FS
 |0,_,_=>c_
 |_+1,_,[]=>aE
 |k+1,L,[st]=>XT M ai n (kO M ai n k) L st
 |k+1,L,st::rest=>af (XT M ai n (kO M ai n k) L st) (kO M ai n k L rest)
end D
namespace D
open PySem L2
structure Eh(M:Gm)(Pr:Program)(w:World)(K:bu)(mg:Str->D1)(base:Heap)(ai:Nat->Fn)(k:Nat):Prop where
 pg:lO K mg M.P
 cst:∀x t,M.cs.lookup x=some t->yZ K mg x t
 fns:∀x ds i,M.fs.lookup x=some (ds,i)->Xp M.P Pr w K mg base k x ds (ai i)
 fz:∀x c n,M.cl.lookup x=some (.fz c n)->ZQ M.P Pr w K mg base k c n x
 z0:∀x c,M.cl.lookup x=some (.z0 c)->Ss M.P Pr w K mg c x
 cp:∀x c,M.cl.lookup x=some (.cp c)->ZZ M.P Pr w K mg base k c x
 nw:∀x c i,M.cl.lookup x=some (.nw c i)->ZX M.P Pr w K mg base k c x (ai i)
 mts:∀m l c i,M.ms.lookup m=some l->l.lookup c=some i->Vu M.P Pr w K mg base k c m (ai i)
 bl:∀x,x∈M.bl->mg x=none
structure CxOk(M:Gm)(ai:Nat->Fn)(k:Nat)(L:Lc)(X:Cx):Prop where
 gm:Eh M X.prog X.w X.K X.mg X.base ai k
 N:X.N=L.N
 sc:X.env.scope=L.sc
 calm:X.calm=true
 room:∃j,k+1<=j/\bC j X.A
variable{X:Cx}{a b c e o:Expr}{M:Gm}{L:Lc}{es:Bz}{i k:Nat}{ai:Nat->Fn}{b_ c9 p pos b9:Pos}{K:bu}{r:Rc}{x y:Str}{mg:Str->D1}
theorem iB{N:Bi}{x:Str}{i:Nat}(h:lr N x=some i):N[i]?=some x:=by
 unfold lr at h;rw[JG,JH]at h;obtain⟨hj,h1,_⟩:=h;rw[b8 hj,eq_of_beq h1]
theorem VB(h:qA x=false):bW x/\iE x:=by
 unfold qA at h;exact Bool.or_eq_false_iff.mp h
theorem gY(C:CxOk M ai k L X)(h:lR L x=true):Loc X.env.scope x/\sN X.env.scope x/\bW x/\iE x:=by
 rw[C.sc];unfold lR at h;split at h
 ·rename_i e
  obtain⟨h1,h2⟩:=VB (by simpa using h)
  exact⟨.inl e,.inl e,h1,h2⟩
 ·rename_i e
  obtain⟨h1,h2⟩:=VB (by simpa using h)
  exact⟨.inr e,.inr (.inl e),h1,h2⟩
 ·cases h
theorem j7(C:CxOk M ai k L X)(h:D5 L x=true):Gl X x/\bW x:=by
 unfold D5 at h;rw[cO]at h;obtain⟨h1,h2⟩:=h;refine⟨?_,(VB (by simpa using h2)).1⟩
 show X.env.scope.names.lookup x=_;rw[C.sc];exact of_decide_eq_true h1
def Bs(M:Gm)(X:Cx)(r:Rc)(L:Lc):Prop:=∀e,PE X e (tE (M.P.kt X) (r.E L e))
def XU(M:Gm)(X:Cx)(r:Rc)(L:Lc):Prop:=∀e,PT X e (tT (M.P.kt X) (r.T L e))
def OkI(M:Gm)(X:Cx)(r:Rc)(L:Lc):Prop:=∀tg e,PI X tg e (tI (M.P.kt X) (r.I L tg e))
def OkO(M:Gm)(X:Cx)(r:Rc)(L:Lc):Prop:=∀e,PE X e (tO (M.P.kt X) (r.O L e))
def xf(M:Gm)(ai:Nat->Fn)(k:Nat)(r:Rc):Prop:=∀L X,CxOk M ai k L X->Bs M X r L/\XU M X r L/\OkI M X r L/\OkO M X r L
theorem iX(hE:Bs M X r L):∀es:Bz,es.all noStar=true->PA X es (tA (M.P.kt X) (eG (es.map (r.E L))))
 |[],_=>wH
 |e::es,h=>by
  rw[e9,cO]at h;exact rG (hE e) (iX hE es h.2) (au h.1)
theorem uV(hE:Bs M X r L):∀es:Bz,PE X (.BoolOp .And es pos) (tE (M.P.kt X) (D6 (es.map (r.E L))))
 |[]=>aT
 |[a]=>MX (hE a)
 |a::b::es=>MY (hE a) (uV hE (b::es))
theorem TL:PW X e (tT (M.P.kt X) pK):=λ_ _ _ _ _ _ _ ⟨_,_,_,_,_,h,_⟩=>by cases h
theorem uW(hT:XU M X r L):∀es:Bz,PW X (.BoolOp .And es pos) (tT (M.P.kt X) (D7 (es.map (r.T L))))
 |[]=>TL
 |[a]=>MW (hT a)
 |a::b::es=>RO (hT a) (uW hT (b::es))
theorem zl(hT:XU M X r L):∀es:Bz,PW X (.BoolOp .Or es pos) (tT (M.P.kt X) (N3 (es.map (r.T L))))
 |[]=>TL
 |[a]=>RN (hT a)
 |a::b::es=>W6 (hT a) (zl hT (b::es))
theorem dj{α:Type}{l:List (Str×α)}{x:Str}{a:α}(h:l.lookup x=some a):(x,a)∈l:=by
 induction l with
 |nil=>simp at h
 |cons p l ih=>
  obtain⟨q,b⟩:=p;rw[jf]at h;split at h
  ·rename_i e
   cases h;rw[eq_of_beq e];exact eg ..
  ·exact ez _ (ih h)
theorem xg(C:CxOk M ai k L X):∀{ys:Bi}{ds:B1},uR M L ys=some ds->ys.length=ds.length/\∀(i d:Nat)(y:Str),ds[i]?=some d->ys[i]?=some y->M.P.cn[d]?=some y/\(M.P.fn[d]?).isSome=true/\Gl X y/\bW y
 |[],ds,h=>by
  cases h;exact⟨rfl,λi d y h=>by simp at h⟩
 |y::ys,ds,h=>by
  unfold uR at h;split at h
  ·rename_i q
   rw[cO]at q;obtain⟨d,h1,h2⟩:=ba.mp h;obtain⟨ds',h3,rfl⟩:=cz.mp h2;obtain⟨h4,h5⟩:=xg C h3;obtain⟨g1,g2⟩:=j7 C q.1;refine⟨by simp[h4],λi d' y' e1 e2=>?_⟩
   cases i with
   |zero=>
    simp at e1 e2;subst e1 e2;refine⟨iB h1,?_,g1,g2⟩;have q2:=q.2;rw[h1]at q2;exact q2
   |succ i=>exact h5 i d' y' (by simpa using e1) (by simpa using e2)
  ·cases h
theorem f9(C:CxOk M ai k L X)(h:blt M L x=true):Gl X x/\X.mg x=none/\bW x:=by
 unfold blt at h;rw[cO]at h;obtain⟨g1,g2⟩:=j7 C h.2;exact⟨g1,C.gm.bl x (BW.mp h.1),g2⟩
theorem TM(C:CxOk M ai k L X)(hE:Bs M X r L){q:Expr}(hb:blt M L ("isinstance" : Str)=true)(hs:noStar a=true):PE X (.Call (.Name "isinstance" p) [a,q] [] pos) (tE (M.P.kt X) (Z7 M r L a q)):=by
 obtain⟨hg,hm,_⟩:=f9 C hb;cases q with
 |Name y py=>
  show PE X _ (tE (M.P.kt X) (match uA.lookup y with|some ty=>_|none=>_))
  split
  ·rename_i ty Wn
   split
   ·rename_i q
    rw[cO]at q;obtain⟨g1,g2⟩:=j7 C q.2;exact Nh rfl (dj Wn) hm (C.gm.bl _ (BW.mp q.1)) (hE a) hg g1 hs
   ·exact aT
  ·split
   ·rename_i ds uC
    obtain⟨h1,h2⟩:=xg C uC
    match ds,h1,h2 with
    |[d],_,h2=>
     obtain⟨f1,f2,f3,f4⟩:=h2 0 d y rfl rfl;exact So C.gm.pg f1 hm (hE a) hg f3 hs f4 f2
   ·exact aT
 |Tuple es x1 tp=>
  show PE X _ (tE (M.P.kt X) (if es.length<=100 then _ else bG))
  split
  ·rename_i hl
   split
   ·rename_i ds uC
    obtain⟨ys,h0,uC⟩:=ba.mp uC;obtain⟨h1,h2⟩:=xg C uC;exact SX C.gm.pg h0 h1 h2 hl hm (hE a) hg hs
   ·exact aT
  ·exact aT
 |_=>exact aT
theorem uX{f:Str}{args:Bz}(h:wZ M L f args=some a):f=("list" : Str)/\blt M L ("range" : Str)=true/\noStar a=true/\∃p1 wX,args=[.Call (.Name "range" p1) [a] [] wX]:=by
 match args,h with
 |[e],h=>
  obtain⟨⟨g,as,ks⟩,h1,hh⟩:=ba.mp h;obtain⟨p1,wX,rfl⟩:=fG h1
  match as,ks,hh with
  |[a'],[],hq=>
   dsimp only at hq;split at hq
   ·rename_i q
    obtain⟨rfl,rfl,q3,q4⟩:=q;cases hq;exact⟨rfl,q3,q4,_,_,rfl⟩
   ·cases hq
theorem Ei(C:CxOk M ai k L X){i:Nat}(h:TH L b=some i):∃y py,b=.Name y py/\X.N[i]?=some y/\sN X.env.scope y/\bW y/\iE y:=by
 cases b<;>first|(cases h;done)|skip
 replace h:(if _ then _ else none)=some i:=h
 split at h
 ·rename_i q
  rw[cO]at q;obtain⟨l1,l2,l3,l4⟩:=gY C q.2;exact⟨_,_,rfl,by rw[C.N];exact iB h,l2,l3,l4⟩
 ·cases h
theorem kP(C:CxOk M ai k L X)(hE:Bs M X r L){f:FE}(h:uS M r L o=some f):PE X o (tE (M.P.kt X) f)/\bK o=true/\∀op,behindInMarks op o=false:=by
 obtain⟨q,h1,h⟩:=ba.mp h;rw[j3 h1];split at h
 ·rename_i z
  rw[cO]at z;obtain⟨j,h2,rfl⟩:=cz.mp h;exact⟨KL C.gm.pg (iB h2) (hE _) z.2,rfl,λop=>by cases op<;>rfl⟩
 ·cases h
theorem HV(C:CxOk M ai k L X)(hE:Bs M X r L){op:CmpOp}(h:behindInMarks op b=false):PE X (.Compare a [op] [b] pos) (tE (M.P.kt X) (uT M r L a op b)):=by
 obtain⟨j,hj,hr⟩:=C.room;unfold uT;split
 ·rename_i neg f h1 h2
  exact NT M.rY hr h1 (hE a) (kP C hE h2).1 h
 split
 ·rename_i neg i h1 h2
  obtain⟨y,py,rfl,q1,q2,q3,q4⟩:=Ei C h2;exact Te rfl hr h1 (hE a) q1 q2 q3 q4
 ·exact NK rfl hr (hE a) (hE b) h
theorem Ej(C:CxOk M ai k L X)(hE:Bs M X r L){op:CmpOp}(h:behindInMarks op b=false):PT X (.Compare a [op] [b] pos) (tT (M.P.kt X) (bP (uT M r L a op b))):=by
 obtain⟨j,hj,hr⟩:=C.room;unfold uT;split
 ·rename_i neg f h1 h2
  exact NU M.rY hr h1 (hE a) (kP C hE h2).1 h
 split
 ·rename_i neg i h1 h2
  obtain⟨y,py,rfl,q1,q2,q3,q4⟩:=Ei C h2;exact NN rfl hr h1 (hE a) q1 q2 q3 q4
 ·exact HJ rfl hr (hE a) (hE b) h
theorem Ek(C:CxOk M ai k L X)(hE:Bs M X r L)(f:Str)(args:Bz):PE X (.Call (.Name f p) args [] pos) (tE (M.P.kt X) (w_ M ai r L f args)):=by
 obtain⟨j,hj,hr⟩:=C.room;unfold w_;split
 case isFalse=>exact aT
 rename_i hs;have hA:=iX hE args hs;split
 ·rename_i ds i hf
  split
  case isFalse=>exact aT
  rename_i q;obtain⟨g1,g2⟩:=j7 C q;cases args with
  |nil=>exact Hw (C.gm.fns f ds i hf) hr (by omega) g1 g2
  |cons a args=>exact s_call (C.gm.fns f ds i hf) hr (by omega) hA g1 g2 hs
 ·split
  ·rename_i c n hc
   split
   case isFalse=>exact aT
   rename_i q;rw[cO]at q;obtain⟨g1,g2⟩:=j7 C q.1;cases args with
   |nil=>cases q.2
   |cons a args=>exact Sq (C.gm.fz f c n hc) hr hj hA g1 g2 hs
  ·rename_i c hc
   split
   case isFalse=>exact aT
   rename_i q;rw[cO]at q;obtain⟨g1,g2⟩:=j7 C q.1;cases args with
   |nil=>exact Nk (C.gm.z0 f c hc) g1 g2
   |cons a args=>cases q.2
  ·rename_i c hc
   split
   ·rename_i a
    split
    case isFalse=>exact aT
    rename_i q;obtain⟨g1,g2⟩:=j7 C q;exact NH (C.gm.cp f c hc) hr hj (hE a) g1 g2 (by simpa using hs)
   ·exact aT
  ·rename_i c i hc
   split
   case isFalse=>exact aT
   rename_i q;rw[cO]at q;obtain⟨g1,g2⟩:=j7 C q.1;cases args with
   |nil=>cases q.2
   |cons a args=>exact NG (C.gm.nw f c i hc) hr hj hA g1 g2 hs
  ·split
   case isFalse=>exact aT
   rename_i hb;obtain⟨g1,g2,g3⟩:=f9 C hb;split
   ·rename_i a q e
    have e:=eq_of_beq e;subst e;rw[e9,cO]at hs;exact TM C hE hb hs.1
   ·split
    ·rename_i y py e _
     have e:=eq_of_beq e;subst e;have main:PE X (.Call (.Name "len" p) [.Name y py] [] pos) (tE (M.P.kt X) (bg bD (eG [r.E L (.Name y py)]))):=KJ (DI C.calm ("len",bD) (eg ..)) rfl g1 g2 hA hs;split
     ·rename_i i hi
      split
      ·rename_i q
       rw[cO]at q;obtain⟨l1,l2,l3,l4⟩:=gY C q.2;exact N1 rfl (by rw[C.N];exact iB hi) l2 l3 l4 g1 g2
      ·exact main
     ·exact main
    ·split
     ·rename_i a ha
      obtain⟨rfl,h2,h3,p1,wX,rfl⟩:=uX ha;obtain⟨k1,k2,k3⟩:=f9 C h2;exact wJ (K2 C.calm g2 k2 g1 k1 (hE a) h3)
     ·split
      ·rename_i g a TN hg _ _ _
       exact KJ (DI C.calm (f,g) (dj hg)) rfl g1 g2 hA hs
      ·exact aT
theorem nS{sc:Scope}(C:CxOk M ai k L X)(hf:∀x∈frees sc,sc.names.lookup x=some .free/\L.sc.names.lookup x=some .cell):∀{xs:Bi}{js:B1},idxs L.N xs=some js->(∀x∈xs,x∈frees sc)->fm X sc js xs
 |[],js,h,_=>by cases h;exact .nil
 |x::xs,js,h,hx=>by
  obtain⟨i,h1,h2⟩:=ba.mp (show(lr L.N x).bind _=some js from h);obtain⟨js',h3,rfl⟩:=cz.mp h2;obtain⟨f1,f2⟩:=hf x (hx x (eg ..));refine .cons (by rw[C.N];exact iB h1) f1 ?_ (nS C hf h3 λy hy=>hx y (ez _ hy))
  show X.env.scope.names.lookup x=_;rw[C.sc];exact f2
theorem A5{sc:Scope}{x:Str}(h:x∈frees sc):(x,NameKind.free)∈sc.names:=by
 unfold frees at h;obtain⟨q,h1,h2⟩:=BJ.mp h;obtain⟨n,kk⟩:=q;split at h2
 ·rename_i e;cases h2;have e:kk=.free:=e;subst e;exact h1
 ·cases h2
theorem El(C:CxOk M ai k L X)(sc:Scope):relabel sc X.env=D8 sc L.sc:=by
 unfold relabel D8 Env.kindOf;rw[C.sc]
theorem xh{N:Bi}{ok:Str->Bool}(hN:X.N.Nodup)(h:∀x i,ok x=true->lr N x=some i->X.N[i]?=some x/\Loc X.env.scope x/\(X.fn x=true\/X.env.scope.names.lookup x=some .local)):∀{es:Bz}{xs:Bi}{is:B1},namesOf es=some xs->xs.all ok=true->idxs N xs=some is ->
  Qm X es (nJ is)/\(assignEach es X.env).length=is.length/\(assignEach es X.env).findIdx? (·.1)=none
 |[],xs,is,h1,_,h3=>by
  cases h1;cases h3;exact⟨Gx,rfl,rfl⟩
 |e::es,xs,is,h1,h2,h3=>by
  cases e<;>first|(cases h1;done)|skip
  rename_i x px;obtain⟨zs,h4,rfl⟩:=cz.mp (show(namesOf es).map (x::·)=some xs from h1)
  rw[e9,cO]at h2;obtain⟨i,h5,h6⟩:=ba.mp (show(lr N x).bind _=some is from h3);obtain⟨XW,h7,rfl⟩:=cz.mp h6;obtain⟨g1,g2,g3⟩:=h x i h2.1 h5;obtain⟨r1,r2,r3⟩:=xh hN h h4 h2.2 h7;refine⟨Cn (q_ hN g1 g2 g3) r1 rfl,?_,?_⟩
  ·show((false,_)::assignEach es X.env).length=_
   rw[bz,r2];rfl
  ·show List.findIdx? (·.1) ((false,_)::assignEach es X.env)=none
   rw[List.findIdx?_cons];simp only[r3];rfl
theorem TQ{B:KT}(hB:B.K=X.K){N:Bi}{ok:Str->Bool}{tg:Expr}{g:FG}{is:B1}(hc:X.calm=true)(hN:X.N.Nodup)(h:∀x i,ok x=true->lr N x=some i->X.N[i]?=some x/\Loc X.env.scope x/\(X.fn x=true\/X.env.scope.names.lookup x=some .local))
  (ht:TF N ok tg=some (g,is)):∃gt,PG X tg gt/\uF B gt g is:=by
 cases tg<;>first|(cases ht;done)|skip
 ·rename_i x px
  replace ht:(if ok x=true then _ else none)=some (g,is):=ht
  split at ht
  ·rename_i q
   obtain⟨i,h1,h2⟩:=cz.mp ht;cases h2;obtain⟨g1,g2,g3⟩:=h x i q h1;exact⟨_,q_ hN g1 g2 g3,yP i⟩
  ·cases ht
 ·rename_i es x1 tp
  replace ht:(namesOf es).bind _=some (g,is):=ht
  obtain⟨xs,h1,h2⟩:=ba.mp ht;split at h2
  ·rename_i q
   obtain⟨XW,h3,h4⟩:=cz.mp h2;cases h4;obtain⟨r1,r2,r3⟩:=xh hN h h1 q h3;refine⟨_,Co hc r1 r2 r3,?_⟩;rw[<- hB];exact DP _ rfl
  ·cases h2
theorem Oh{N:Bi}{ok:Str->Bool}{tg:Expr}{g:FG}{is:B1}(ht:TF N ok tg=some (g,is)):∀i∈is,i<N.length:=by
 have lt:∀{x i},lr N x=some i->i<N.length:=λh=>(dc.mp (iB h)).1;cases tg<;>first|(cases ht;done)|skip
 ·rename_i x px
  replace ht:(if ok x=true then _ else none)=some (g,is):=ht
  split at ht
  ·obtain⟨i,h1,h2⟩:=cz.mp ht
   cases h2;intro j hj;rw[dG.mp hj];exact lt h1
  ·cases ht
 ·rename_i es x1 tp
  replace ht:(namesOf es).bind _=some (g,is):=ht
  obtain⟨xs,h1,h2⟩:=ba.mp ht;split at h2
  ·obtain⟨XW,h3,h4⟩:=cz.mp h2
   cases h4
   have:∀(xs:Bi)(is:B1),idxs N xs=some is->∀i∈is,i<N.length:=by
    intro xs
    induction xs with
    |nil=>intro is h;cases h;intro i hi;cases hi
    |cons x xs ih=>
     intro is h;obtain⟨i,h5,h6⟩:=ba.mp (show(lr N x).bind _=some is from h);obtain⟨is2,h7,rfl⟩:=cz.mp h6;intro j hj;rcases cu.mp hj with z|z
     ·rw[z];exact lt h5
     ·exact ih is2 h7 j z
   exact this xs _ h3
  ·cases h2
theorem zm{it:Expr}(h:isSet it=false):∀x,foldedSetIterable it X.env x=pure x:=λx=>by
 unfold foldedSetIterable;cases it<;>first|rfl|(cases h)
structure Oi(M:Gm)(X:Cx)(r:Rc)(L:Lc)(elt tg iter:Expr)(ifs:Bz)(sc:Scope)(js:B1)(g:FG)(is:B1):Prop where
 sco:fX X sc
 fr:fm X sc js (frees sc)
 nd:(locals sc++frees sc).Nodup
 it:PI X tg iter (tI (M.P.kt X) (r.I L tg iter))
 ex:∃gt,(∀cl C fp s H,PG (X.block (locals sc++frees sc) sc cl C fp s H) tg gt)/\uF (M.P.kt X) gt g is
 ts:∀cl C fp s H,FU (X.block (locals sc++frees sc) sc cl C fp s H) ifs (tT (M.P.kt X) (K3 r (D9 L sc) ifs))
 el:∀cl C fp s H,PE (X.block (locals sc++frees sc) sc cl C fp s H) elt (tE (M.P.kt X) (r.E (D9 L sc) elt))
 lt:∀i∈is,i<(locals sc).length
 st:∀x,foldedSetIterable iter X.env x=pure x
theorem zo(R:xf M ai k r)(C:CxOk M ai k L X){elt tg iter:Expr}{ifs:Bz}{sc:Scope}{js:B1}{g:FG}{is:B1}(h:(N4 L sc&&decide ((locals sc++frees sc).Nodup)&&!isSet iter&&decide (ifs.length<=1))=true)(hj:idxs L.N (frees sc)=some js)
  (ht:TF (locals sc) (λx=>decide (sc.names.lookup x=some .local)) tg=some (g,is)):Oi M X r L elt tg iter ifs sc js g is:=by
 obtain⟨hE,hT,hI,hO⟩:=R L X C;simp only[cO,decide_eq_true_eq,Bool.not_eq_true']at h;obtain⟨⟨⟨h1,XX⟩,h3⟩,h4⟩:=h;unfold N4 at h1;simp only[cO,decide_eq_true_eq,gz]at h1;obtain⟨⟨k1,k2⟩,k3⟩:=h1;have p9:∀x∈frees sc,sc.names.lookup x=some .free/\L.sc.names.lookup x=some .cell:=λx hx=>by
  have:=(k2 _ (A5 hx)).2 rfl
  exact this
 have bs:fX X sc:=⟨k1,λq hq=>(k2 q hq).1.1,λq hq e=>(k2 q hq).1.2 e,λq hq e=>by
  show X.env.scope.names.lookup q.1=_;rw[C.sc];exact((k2 q hq).2 e).2⟩
 have Vq:∀cl CC fp s H,CxOk M ai k (D9 L sc) (X.block (locals sc++frees sc) sc cl CC fp s H):=λcl CC fp s H=>⟨C.gm,rfl,El C sc,C.calm,C.room⟩;refine⟨bs,nS C p9 hj λ_ h=>h,XX,hI tg iter,?_,λcl CC fp s H=>?_,λcl CC fp s H=>(R _ _ (Vq cl CC fp s H)).1 elt,Oh ht,zm h3⟩
 ·-- the target's names are the block's own
  have key:∀cl CC fp s H,∀x i,decide (sc.names.lookup x=some .local)=true->lr (locals sc) x=some i->(X.block (locals sc++frees sc) sc cl CC fp s H).N[i]?=some x/\Loc (X.block (locals sc++frees sc) sc cl CC fp s H).env.scope x/\((X.block (locals sc++frees sc) sc cl CC fp s H).fn x=true\/(X.block (locals sc++frees sc) sc cl CC fp s H).env.scope.names.lookup x=some .local):=λcl CC fp s H x i hx hi=>by
   have hl:(relabel sc X.env).names.lookup x=some .local:=lookup_relabel_local (of_decide_eq_true hx);have h1:=iB hi;refine⟨?_,.inl hl,.inr hl⟩;show(locals sc++frees sc)[i]?=some x;rw[gp (dc.mp h1).1];exact h1
  cases tg<;>first|(cases ht;done)|skip
  ·rename_i x px
   replace ht:(if _ then _ else none)=some (g,is):=ht
   split at ht
   ·rename_i q
    obtain⟨i,h5,h6⟩:=cz.mp ht;cases h6;exact⟨_,λcl CC fp s H=>by
     obtain⟨g1,g2,g3⟩:=key cl CC fp s H x i q h5;exact q_ XX g1 g2 g3,yP i⟩
   ·cases ht
  ·rename_i es x1 tp
   replace ht:(namesOf es).bind _=some (g,is):=ht
   obtain⟨xs,h5,h6⟩:=ba.mp ht;split at h6
   ·rename_i q
    obtain⟨XW,h7,h8⟩:=cz.mp h6;cases h8;refine⟨L0 X.K is.length (nJ is),λcl CC fp s H=>?_,DP (B:=M.P.kt X) is rfl⟩;obtain⟨r1,r2,r3⟩:=xh (X:=X.block (locals sc++frees sc) sc cl CC fp s H) XX (key cl CC fp s H) h5 q h7;exact Co (X:=X.block (locals sc++frees sc) sc cl CC fp s H) C.calm r1 r2 r3
   ·cases h6
 ·match ifs,h4 with
  |[],_=>exact Sv
  |[c],_=>exact Sw ((R _ _ (Vq cl CC fp s H)).2.1 c)
theorem j8(R:xf M ai k r)(C:CxOk M ai k L X)(e:Expr):PE X e (tO (M.P.kt X) (qC r L e)):=by
 cases e<;>first|exact dO|skip
 rename_i elt gs sc p
 match gs with
 |[]=>exact dO
 |_::_::_=>exact dO
 |[⟨tg,iter,ifs,ay⟩]=>
  show PE X _ (tO (M.P.kt X) (nR r L elt ⟨tg,iter,ifs,ay⟩ sc));unfold nR;split
  case isFalse=>exact dO
  rename_i h;obtain⟨rfl,h⟩:=h;split
  ·rename_i js g is hj ht
   have K:=zo R C (elt:=elt) h hj ht;obtain⟨gt,h1,h2⟩:=K.ex;exact Nu (locals sc) C.calm K.sco K.fr K.it h1 h2 K.ts K.el K.lt K.st
  ·exact dO
theorem Em(hE:Bs M X r L):∀e:Option Expr,PO X e (tP (M.P.kt X) (N5 r L e))
 |none=>R_
 |some e=>Sa (hE e)
theorem HW(h:isSlice e=false):iV e:=λo i=>by
 unfold subscripted;cases e<;>first|rfl|(cases h)
theorem HX{m:Str}{f:FE}:∀{args:Bz},N8 M r L o m args=some f->m=("get" : Str)/\∃b d fb,args=[b,d]/\uS M r L o=some fb/\f=AZ M.bc fb (r.E L b) (r.E L d)
 |[],h=>by cases h
 |[_],h=>by cases h
 |_::_::_::_,h=>by cases h
 |[b,d],h=>by
  dsimp only[N8]at h;split at h
  ·rename_i e
   obtain⟨fb,h5,rfl⟩:=cz.mp h;exact⟨e,b,d,fb,rfl,h5,rfl⟩
  ·cases h
theorem TU(hb:bK o=true)(hs:[a,b].all noStar=true)(hl:(b_.endLine == c9.line)=true):M2 X o "get" b_ a b c9:=by
 refine⟨gT hb,nq hs (by simp),hl,?_⟩
 simp only[e9,JK,tG,cO]at hs;rw[au hs.1,au hs.2];rfl
theorem zp{l:List (Nat×Nat)}{m:Str}(C:CxOk M ai k L X)(h:M.ms.lookup m=some l):∀c f,ak l ai c=some f->Vu M.P X.prog X.w X.K X.mg X.base k c m f:=λc f hf=>by
 obtain⟨i,h1,rfl⟩:=cz.mp hf;exact C.gm.mts m l c i h h1
theorem En{kk:Nat}(c:Const):PE X (.Constant c kk pos) (tE (M.P.kt X) (D_ c)):=by
 cases c with
 |int i=>exact jT LO λ_ _=>rfl
 |bool b=>exact jT Qd λ_ _=>rfl
 |none=>exact jT LP λ_ _=>rfl
 |str s=>
  show PE X _ (tE _ (if s.length<=1000000 then cF (.str s.cps.toList)else bG))
  split
  ·rename_i h
   obtain⟨⟨l⟩⟩:=s;exact jT v5 λ_ _=>⟨rfl,by rw[<- dP l];exact h⟩
  ·exact aT
 |_=>exact aT
theorem HZ(C:CxOk M ai k L X)(x:Str):PE X (.Name x pos) (tE (M.P.kt X) (Ea M L x)):=by
 unfold Ea;split
 ·rename_i i hi
  split
  ·rename_i q
   obtain⟨l1,l2,l3,l4⟩:=gY C q;exact C9 (by rw[C.N];exact iB hi) l2 l3 l4
  ·exact aT
 ·split
  ·rename_i t ht
   split
   ·rename_i q
    obtain⟨g1,g2⟩:=j7 C q;exact S_ (C.gm.cst _ _ ht) rfl g1 g2
   ·exact aT
  ·exact aT
theorem TV(C:CxOk M ai k L X)(hE:Bs M X r L){i:Expr}(h:iV i):PE X (.Subscript o i pos) (tE (M.P.kt X) (VA M r L o i)):=by
 unfold VA;split
 ·rename_i f hf
  obtain⟨j,hj,hr⟩:=C.room;exact Th M.rY hr (kP C hE hf).1 (hE _) h
 split
 ·obtain⟨j,hj,hr⟩:=C.room
  exact Tt rfl hr (hE _) (hE _) h
 split
 ·rename_i y kk hk
  obtain⟨y',h1,h2⟩:=ba.mp hk;obtain⟨k',h2,h3⟩:=cz.mp h2;cases h3;obtain⟨py,rfl⟩:=eF h1;split
  ·rename_i q
   rw[cO]at q;obtain⟨l1,l2,l3,l4⟩:=gY C q.2;exact NI (by rw[C.N];exact iB h2) l2 l3 l4 (hE _) h
  ·exact M7 rfl (hE _) (hE _) h
 ·exact M7 rfl (hE _) (hE _) h
theorem Oj(C:CxOk M ai k L X)(hE:Bs M X r L)(o:Expr)(m:Str)(ap:Pos)(args:Bz)(cp:Pos):PE X (.Call (.Attribute o m ap) args [] cp) (tE (M.P.kt X) (N9 M ai r L o m ap args cp)):=by
 obtain⟨j,hj,hr⟩:=C.room;unfold N9;split
 case isFalse=>exact aT
 rename_i h;simp only[cO,decide_eq_true_eq]at h;obtain⟨⟨⟨h1,h2⟩,h3⟩,h4⟩:=h;have hA:=iX hE args h2;split
 ·rename_i f hf
  obtain⟨rfl,b,d,fb,rfl,h5,rfl⟩:=HX hf;obtain⟨b1,b2,_⟩:=kP C hE h5;exact Ti M.rY hr b1 (hE b) (hE d) (TU b2 h2 h4)
 split
 ·rename_i l hl
  cases args with
  |nil=>exact Hx (zp C hl) hr (by omega) (hE o) (KU h1 h2 (by omega) h4)
  |cons a args=>exact Ni (zp C hl) hr (by omega) (hE o) hA h2 (KU h1 h2 (by omega) h4)
 ·split
  ·rename_i g a TN hg _
   exact Sd (Nc (m,g) (dj hg)) rfl (hE o) hA h1 h2 (by rw[bz]at h3;omega) h4
  ·exact aT
theorem Ol(ks:List (Option Expr))(vs:Bz):PE X (.Dict ks vs pos) (tE (M.P.kt X) (N6 ks vs)):=by
 unfold N6;split
 ·exact Tu
 ·split
  ·rename_i l hl
   split
   ·rename_i q
    exact N2 hl (λz=>by rw[z]at q;cases q.2.2) q.1 q.2.1
   ·exact aT
  ·exact aT
theorem Eo(R:xf M ai k r)(C:CxOk M ai k L X)(e:Expr):PE X e (tE (M.P.kt X) (K4 M ai r L e)):=by
 obtain⟨hE,hT,hI,hO⟩:=R L X C;cases e with
 |Constant c _ _=>exact En c
 |Name x _=>exact HZ C x
 |BinOp a op b _=>exact R4 rfl _ (hE _) (hE _)
 |UnaryOp op a _=>cases op with
  |USub=>exact R5 rfl (hE _)
  |Not=>exact MZ (hE _)
  |_=>exact aT
 |BoolOp op es _=>cases op with
  |And=>exact uV hE _
  |Or=>exact aT
 |Compare a ops bs _=>
  match ops,bs with
  |[op],[b]=>
   show PE X _ (tE (M.P.kt X) (if behindInMarks op b then bG else uT M r L a op b))
   split
   ·exact aT
   ·rename_i h
    exact HV C hE (by simpa using h)
  |[],_=>exact aT
  |_::_::_,_=>exact aT
  |[_],[]=>exact aT
  |[_],_::_::_=>exact aT
 |IfExp c a b _=>exact RS (hT _) (hE _) (hE _)
 |Tuple es _ _=>
  show PE X _ (tE (M.P.kt X) (if es.all noStar then _ else bG))
  split
  ·rename_i h;exact RL (iX hE _ h)
  ·exact aT
 |List es _=>
  show PE X _ (tE (M.P.kt X) (if es.all noStar then _ else bG))
  split
  ·rename_i h;exact RM (iX hE _ h)
  ·exact aT
 |Subscript o i _=>
  show PE X _ (tE (M.P.kt X) (N7 M r L o i));cases hs:isSlice i with
  |false=>
   rw[show N7 M r L o i=VA M r L o i by cases i<;>first|rfl|cases hs]
   exact TV C hE (HW hs)
  |true=>
   cases i<;>first|(cases hs;done)|skip
   rename_i lo hi st _;cases st with
   |none=>exact Xj rfl (hE _) (Em hE _) (Em hE _)
   |some _=>exact aT
 |Attribute o f _=>
  show PE X _ (tE (M.P.kt X) (if bK o then _ else bG))
  split
  ·rename_i h
   split
   ·rename_i j hj
    split
    ·exact NW C.gm.pg M.rY (iB hj) (hE _) h
    ·exact KL C.gm.pg (iB hj) (hE _) h
   ·exact aT
  ·exact aT
 |Dict ks vs _=>exact Ol ks vs
 |ListComp elt gs sc p=>exact wJ (j8 R C _)
 |Call f args ks cp=>
  cases ks with
  |cons _ _=>exact aT
  |nil=>cases f with
   |Name f _=>exact Ek C hE _ _
   |Attribute o m ap=>exact Oj C hE o m ap args cp
   |_=>exact aT
 |_=>exact aT
theorem Ep(R:xf M ai k r)(C:CxOk M ai k L X)(e:Expr):PT X e (tT (M.P.kt X) (stepT M r L e)):=by
 obtain⟨hE,hT,hI,hO⟩:=R L X C;cases e with
 |BoolOp op es _=>cases op with
  |And=>exact(uW hT _).pt
  |Or=>exact(zl hT _).pt
 |UnaryOp op a _=>cases op with
  |Not=>exact RQ (hT _)
  |_=>exact KC (hE _) rfl λfW=>rfl
 |Compare a ops bs _=>
  match ops,bs with
  |[op],[b]=>
   show PT X _ (tT (M.P.kt X) (if behindInMarks op b then pK else bP (uT M r L a op b)))
   split
   ·exact jq
   ·rename_i h
    exact Ej C hE (by simpa using h)
  |[],_=>exact jq
  |_::_::_,_=>exact jq
  |[_],[]=>exact jq
  |[_],_::_::_=>exact jq
 |IfExp _ _ _ _=>exact jq
 |_=>exact KC (hE _) rfl λfW=>rfl
theorem H0{e:Expr}{args:Bz}(h:zh e=some args):∃p pos,e=.Call (.Name "range" p) args [] pos:=by
 obtain⟨⟨f,as,ks⟩,h1,hh⟩:=ba.mp h;clear h;obtain⟨p,pos,rfl⟩:=fG h1;have h:=hh;clear hh;split at h
 ·rename_i q
  obtain⟨rfl,q⟩:=q;cases h;rw[show ks=[]from BX.mp q];exact⟨_,_,rfl⟩
 ·cases h
theorem Er{e a:Expr}{n:Int}(h:uU e=some (a,n)):∃p pos,(n=0/\e=.Call (.Name "enumerate" p) [a] [] pos)\/(n=1/\∃k1 p1 kp,e=.Call (.Name "enumerate" p) [a] [⟨some (Str.ofString "start"),.Constant (.int 1) k1 p1,kp⟩] pos):=by
 obtain⟨⟨f,as,ks⟩,h1,hh⟩:=ba.mp h;clear h;obtain⟨p,pos,rfl⟩:=fG h1;have h:=hh;clear hh;split at h
 case isFalse=>cases h
 rename_i q
 replace q:f=("enumerate" : Str):=q
 subst q
 match as,ks,h with
 |[a'],[],h=>cases h;exact⟨_,_,.inl ⟨rfl,rfl⟩⟩
 |[a'],[⟨an,v,kp⟩],h=>
  dsimp only at h;cases hc:j6 v with
  |none=>rw[hc]at h;cases h
  |some c=>
   rw[hc]at h;cases c<;>first|(cases h;done)|skip
   obtain⟨k1,p1,rfl⟩:=qy hc;dsimp only at h;split at h
   ·rename_i q;obtain⟨rfl,rfl⟩:=q;cases h;exact⟨_,_,.inr ⟨rfl,_,_,_,rfl⟩⟩
   ·cases h
theorem H_(h:Eb e=some a):∃p pos,e=.Call (.Name "reversed" p) [a] [] pos/\noStar a=true:=by
 obtain⟨⟨f,as,ks⟩,h1,hh⟩:=ba.mp h;clear h;obtain⟨p,pos,rfl⟩:=fG h1
 match as,ks,hh with
 |[a'],[],h=>
  dsimp only at h;split at h
  ·rename_i q
   obtain⟨rfl,q⟩:=q;cases h;exact⟨_,_,rfl,q⟩
  ·cases h
theorem Ia(C:CxOk M ai k L X)(hE:Bs M X r L)(f:Str)(args:Bz):PE X (.Call (.Name f p) args [] pos) (tO (M.P.kt X) (Oa M r L f args)):=by
 unfold Oa;split
 case isFalse=>exact dO
 rename_i hb;obtain⟨g1,g2,g3⟩:=f9 C hb;split
 ·rename_i a ha
  obtain⟨rfl,h2,h3,p1,wX,rfl⟩:=uX ha;obtain⟨k1,k2,k3⟩:=f9 C h2;exact K2 C.calm g2 k2 g1 k1 (hE a) h3
 ·split
  ·split
   ·rename_i q
    obtain⟨rfl,q⟩:=q;exact Tp rfl g2 g1 (hE _) q
   ·exact dO
  ·exact dO
theorem Es(R:xf M ai k r)(C:CxOk M ai k L X)(tg e:Expr):PI X tg e (tI (M.P.kt X) (stepI M r L tg e)):=by
 obtain⟨hE,hT,hI,hO⟩:=R L X C;unfold stepI;split
 ·rename_i args ha
  obtain⟨p,pos,rfl⟩:=H0 ha;split
  case isFalse=>exact uG
  rename_i h;rw[cO]at h;obtain⟨g1,g2,_⟩:=f9 C h.1;have hs:=h.2;split
  ·exact DQ g1 g2 (hE _) (by simpa using hs)
  ·simp only[e9,cO]at hs
   exact DR g1 g2 (hE _) (hE _) hs.1 hs.2.1
  ·exact NZ g1 g2 (hE _) (hE _) (hE _) hs
  ·exact uG
 ·split
  ·rename_i a n hen
   split
   case isFalse=>exact uG
   rename_i h;simp only[cO]at h;obtain⟨⟨h1,h2⟩,h3⟩:=h;obtain⟨g1,g2,_⟩:=f9 C h1;cases tg<;>first|(cases h2;done)|skip
   obtain⟨p,pos,h4|h4⟩:=Er hen
   ·obtain⟨rfl,rfl⟩:=h4
    exact SN rfl g1 g2 (hE a) h3
   ·obtain⟨rfl,k1,p1,kp,rfl⟩:=h4
    exact SO rfl g1 g2 (hE a) h3
  split
  ·rename_i a hrv
   obtain⟨p,pos,rfl,h2⟩:=H_ hrv;split
   ·rename_i h1
    obtain⟨g1,g2,_⟩:=f9 C h1;exact Tq g1 g2 (hE a) h2
   ·exact uG
  ·split
   ·rename_i h
    cases tg<;>first|(cases h;done)|skip
    exact Su rfl (hE e)
   ·exact KO rfl (hE e)
theorem Et(R:xf M ai k r)(C:CxOk M ai k L X)(e:Expr):PE X e (tO (M.P.kt X) (K5 M r L e)):=by
 obtain⟨hE,hT,hI,hO⟩:=R L X C;cases e with
 |List es _=>
  show PE X _ (tO (M.P.kt X) (if es.all noStar then _ else fB))
  split
  ·rename_i h;exact MV (iX hE _ h)
  ·exact dO
 |ListComp elt gs sc p=>exact j8 R C _
 |IfExp c a b _=>exact To (hT _) (hO _) (hO _)
 |BinOp a op b _=>cases op<;>first|exact NY (hE _) (hE _)|exact dO
 |Call f args ks _=>cases ks with
  |cons _ _=>exact dO
  |nil=>cases f<;>first|exact Ia C hE _ _|exact dO
 |_=>exact dO
theorem dw:∀n,xf M ai k (comp M ai n)
 |0=>λL X C=>⟨λ_=>aT,λ_=>jq,λ_ _=>uG,λ_=>dO⟩
 |n+1=>λL X C=>⟨Eo (dw n) C,Ep (dw n) C,Es (dw n) C,Et (dw n) C⟩
structure FZ(M:Gm)(ai:Nat->Fn)(k:Nat)(L:Lc)(X:Cx):Prop extends CxOk M ai k L X where
 fn:∀x,X.fn x=true
 nd:X.N.Nodup
 xe:X.xe=λ_ _=>False
theorem nT{t:Option Expr}{l:Nat}(h:A4 e=false):swapsWith e t l X.env=pure false:=by
 cases e<;>first|rfl|(cases h)
theorem Om(C:CxOk M ai k L X){tp:Pos}{l:Nat}(h:A4 e=true->∃elt gs sc p,e=.ListComp elt gs sc p):swapsWith e (some (.Name x tp)) l X.env=pure (Ec L x tp e):=by
 cases e<;>first|rfl|skip
 ·unfold swapsWith Ec Env.blockKind Env.kindOf
  rw[C.sc];rfl
 ·obtain⟨_,_,_,_,z⟩:=h rfl;cases z
 ·obtain⟨_,_,_,_,z⟩:=h rfl;cases z
theorem passes(C:FZ M ai k L X):PassesOwn (model X.prog X.w) X.A X.env X.xe:=by rw[C.xe];exact PassesOwn.never
theorem zq(h:zk e=true):∃dp,e=.Dict [] [] dp:=by
 cases e<;>first|(cases h;done)|skip
 rename_i ks vs dp
 match ks,vs,h with
 |[],[],_=>exact⟨_,rfl⟩
theorem Oo(h:A4 e=true):zk e=false:=by
 cases e<;>first|rfl|(cases h)
theorem Ib(C:FZ M ai k L X)(n:Nat)(e:Expr):PS X (.Assign [.Name x b9] e pos) (tS (M.P.kt X) (Ef M ai n L x e)):=by
 obtain⟨hE,hT,hI,hO⟩:=dw (M:=M) (ai:=ai) (k:=k) n L X C.toCxOk;unfold Ef;split
 case h_2=>exact cT
 rename_i i hi;split
 case isFalse=>exact cT
 rename_i q;obtain⟨l1,l2,l3,l4⟩:=gY C.toCxOk q;have hN:X.N[i]?=some x:=by rw[C.N];exact iB hi
 have hf:X.fn x=true\/X.env.scope.names.lookup x=some .local:=.inl (C.fn x);by_cases hlc:A4 e=false
 ·split
  ·split
   ·rename_i hd
    obtain⟨dp,rfl⟩:=zq hd;exact NO C.nd hN l1 hf
   ·exact KR C.nd hN l1 (hO e) (nT hlc) hf
  ·exact KQ C.nd hN l1 (hE e) (nT hlc) hf
 ·rw[Oo (by simpa using hlc),if_neg bZ]
  cases n with
  |zero=>
   split
   ·exact λ_ _ _ _ _ _ ⟨_,_,_,_,_,h,_⟩=>by cases h
   ·exact λ_ _ _ _ _ _ ⟨_,_,_,_,_,h,_⟩=>by cases h
  |succ n=>
   cases e with
   |ListComp elt gs sc cp=>
    have R:=dw (M:=M) (ai:=ai) (k:=k) n;have main:PS X (.Assign [.Name x b9] (.ListComp elt gs sc cp) pos) (tS (M.P.kt X) (iQ i (qC (comp M ai n) L (.ListComp elt gs sc cp))))/\PS X (.Assign [.Name x b9] (.ListComp elt gs sc cp) pos) (tS (M.P.kt X) (aH i (cY (qC (comp M ai n) L (.ListComp elt gs sc cp))))):=by
     have sw:=Om (X:=X) (x:=x) (tp:=b9) (l:=pos.line) (e:=.ListComp elt gs sc cp) C.toCxOk (λ_=>⟨_,_,_,_,rfl⟩);cases hb:Ec L x b9 (.ListComp elt gs sc cp)with
     |false=>
      rw[hb]at sw;exact⟨KR C.nd hN l1 (j8 R C.toCxOk _) sw hf,KQ C.nd hN l1 (wJ (j8 R C.toCxOk _)) sw hf⟩
     |true=>
      rw[hb]at sw;have bad:PS X (.Assign [.Name x b9] (.ListComp elt gs sc cp) pos) (tS (M.P.kt X) (iQ i fB))/\PS X (.Assign [.Name x b9] (.ListComp elt gs sc cp) pos) (tS (M.P.kt X) (aH i (cY fB))):=
       ⟨λ_ _ _ _ _ _ ⟨_,_,_,_,_,h,_⟩=>(by cases h),λ_ _ _ _ _ _ ⟨_,_,_,_,_,h,_⟩=>(by cases h)⟩
      match gs with
      |[]=>exact bad
      |_::_::_=>exact bad
      |[⟨tg,iter,ifs,ay⟩]=>
       rw[show qC (comp M ai n) L (.ListComp elt [⟨tg,iter,ifs,ay⟩] sc cp)=nR (comp M ai n) L elt ⟨tg,iter,ifs,ay⟩ sc from rfl];unfold nR;split
       case isFalse=>exact bad
       rename_i h;obtain⟨rfl,h⟩:=h;split
       ·rename_i js g is hj ht
        have K:=zo R C.toCxOk (elt:=elt) h hj ht;obtain⟨gt,h1,h2⟩:=K.ex;exact NB (locals sc) C.calm C.nd hN l1 K.sco K.fr K.it h1 h2 K.ts K.el K.lt K.st hf sw
       ·exact bad
    split
    ·exact main.1
    ·exact main.2
   |SetComp a b c d=>
    split
    ·exact λ_ _ _ _ _ _ ⟨_,_,_,_,_,h,_⟩=>by cases h
    ·exact λ_ _ _ _ _ _ ⟨_,_,_,_,_,h,_⟩=>by cases h
   |DictComp a b c d f=>
    split
    ·exact λ_ _ _ _ _ _ ⟨_,_,_,_,_,h,_⟩=>by cases h
    ·exact λ_ _ _ _ _ _ ⟨_,_,_,_,_,h,_⟩=>by cases h
   |_=>exact absurd rfl hlc
theorem Ic{mu:Bi}{e a:Expr}{y:Str}(h:zj mu e=some (y,a)):noStar a=true/\∃py ap cp,e=.Call (.Attribute (.Name y py) "append" ap) [a] [] cp/\(ap.endLine == cp.line)=true:=by
 obtain⟨⟨f,as,ks,cp⟩,h1,h⟩:=ba.mp h;obtain⟨w,h2,h⟩:=ba.mp h;obtain⟨y',h3,h⟩:=ba.mp h
 match as,ks,h1,h with
 |[a'],[],h1,h=>
  dsimp only at h;split at h
  ·rename_i q
   obtain⟨q1,_,q3,q4⟩:=q;cases h;obtain⟨py,h3⟩:=eF h3;rw[kN h1,j3 h2,h3,q1];exact⟨q3,_,_,_,rfl,q4⟩
  ·cases h
theorem tgl(C:FZ M ai k L X):∀x i,lR L x=true->lr L.N x=some i->X.N[i]?=some x/\Loc X.env.scope x/\(X.fn x=true\/X.env.scope.names.lookup x=some .local):=λx i h1 h2=>⟨by rw[C.N];exact iB h2,(gY C.toCxOk h1).1,.inl (C.fn x)⟩
theorem Oq(C:FZ M ai k L X)(n:Nat)(f:Str)(e:Expr):PE X e (tE (M.P.kt X) (Oc M ai n L f e)):=by
 obtain⟨hE,hT,hI,hO⟩:=dw (M:=M) (ai:=ai) (k:=k) n L X C.toCxOk;unfold Oc;split
 ·split
  ·rename_i hd
   obtain⟨dp,rfl⟩:=zq hd;exact NR M.rY M.Tz
  ·exact NQ M.rY M.Tz (hO e)
 ·exact hE e
theorem Eu{f:Str}{fp:Pos}{l:Nat}:swapsWith e (some (.Attribute o f fp)) l X.env=pure false:=by
 cases e<;>rfl
theorem Ie(C:FZ M ai k L X)(n:Nat)(o:Expr)(f:Str){fp:Pos}(e:Expr):PS X (.Assign [.Attribute o f fp] e pos) (tS (M.P.kt X) (Od M ai n L o f e)):=by
 obtain⟨hE,hT,hI,hO⟩:=dw (M:=M) (ai:=ai) (k:=k) n L X C.toCxOk;unfold Od;split
 ·rename_i j hj
  exact SJ C.gm.pg (iB hj) (hE o) (Oq C n f e) Eu
 ·exact cT
theorem Ig(C:FZ M ai k L X)(n:Nat)(o b:Expr){sp:Pos}(e:Expr):PS X (.Assign [.Subscript o b sp] e pos) (tS (M.P.kt X) (Oe M ai n L o b e)):=by
 obtain⟨hE,hT,hI,hO⟩:=dw (M:=M) (ai:=ai) (k:=k) n L X C.toCxOk;obtain⟨j,hj,hr⟩:=C.room;unfold Oe;split
 ·exact cT
 rename_i h;split
 ·rename_i f hf
  exact Tg M.rY hr (hE e) (kP C.toCxOk hE hf).1 (hE b) (nT (by simpa using h))
 split
 ·rename_i i hi
  obtain⟨y,h1,h2⟩:=ba.mp hi;obtain⟨py,rfl⟩:=eF h1;split at h2
  ·rename_i q
   obtain⟨l1,l2,l3,l4⟩:=gY C.toCxOk q;split
   ·exact cT
   ·rename_i hs
    exact XI hr (hE b) (hE e) (by rw[C.N];exact iB h2) l2 l3 l4 (nT (by simpa using h)) (by simpa using hs)
  ·cases h2
 ·exact cT
theorem Ih(C:FZ M ai k L X)(n:Nat)(t:Expr)(op:Operator)(e:Expr):PS X (.AugAssign t op e pos) (tS (M.P.kt X) (Of M ai n L t op e)):=by
 obtain⟨hE,hT,hI,hO⟩:=dw (M:=M) (ai:=ai) (k:=k) n L X C.toCxOk;unfold Of;split
 ·rename_i o j hk
  obtain⟨q,h1,h2⟩:=ba.mp hk;obtain⟨j',h2,h3⟩:=cz.mp h2;cases h3;rw[j3 h1];split
  ·rename_i e;subst e
   exact Tn C.gm.pg (iB h2) (hE _) (hE _)
  ·exact cT
 split
 case h_2=>exact cT
 rename_i x i hk;obtain⟨x',h1,h2⟩:=ba.mp hk;obtain⟨i',h2,h3⟩:=cz.mp h2;cases h3;obtain⟨py,rfl⟩:=eF h1;split
 ·rename_i q
  obtain⟨rfl,q⟩:=q;obtain⟨l1,l2,l3,l4⟩:=gY C.toCxOk q;exact SY C.nd (by rw[C.N];exact iB h2) l1 (hE _) (.inl (C.fn _))
 ·exact cT
theorem Ii{f:FE}(h:TJ M r L e=some (f,a)):∃o ap cp,e=.Call (.Attribute o "append" ap) [a] [] cp/\uS M r L o=some f/\noStar a=true/\(ap.endLine == cp.line)=true:=by
 obtain⟨⟨g,as,ks,cp⟩,h1,h⟩:=ba.mp h;obtain⟨w,h2,h⟩:=ba.mp h;obtain⟨f',h3,h⟩:=ba.mp h
 match as,ks,h1,h with
 |[a'],[],h1,h=>
  dsimp only at h;split at h
  ·rename_i q
   obtain⟨q1,q3,q4⟩:=q;cases h;rw[kN h1,j3 h2,q1];exact⟨_,_,_,rfl,h3,q3,q4⟩
  ·cases h
theorem Ot(C:FZ M ai k L X)(n:Nat)(e:Expr):PS X (.Expr e pos) (tS (M.P.kt X) (XS M ai n L e)):=by
 obtain⟨hE,hT,hI,hO⟩:=dw (M:=M) (ai:=ai) (k:=k) n L X C.toCxOk;unfold XS;split
 ·rename_i f a ha
  obtain⟨o,ap,cp,rfl,ho,h1,h2⟩:=Ii ha;obtain⟨b1,b2,_⟩:=kP C.toCxOk hE ho;exact NS M.rY b1 b2 (hE a) h1 h2
 split
 ·rename_i y a ha
  obtain⟨h1,py,ap,cp,rfl,h2⟩:=Ic ha;split
  ·rename_i i hi
   split
   ·rename_i q
    obtain⟨l1,l2,l3,l4⟩:=gY C.toCxOk q;exact SG (hE a) (by rw[C.N];exact iB hi) l2 l3 l4 h1 h2
   ·exact cT
  ·exact cT
 ·split
  ·exact cT
  ·rename_i h
   exact ND (hE e) (nT (by simpa using h))
theorem Ew(C:FZ M ai k L X)(n:Nat){rS:Lc->Ee->FS}(hS:∀Nv,jH X Nv (tS (M.P.kt X) (rS L Nv)))(st:Stmt):PS X st (tS (M.P.kt X) (XT M ai n rS L st)):=by
 obtain⟨hE,hT,hI,hO⟩:=dw (M:=M) (ai:=ai) (k:=k) n L X C.toCxOk;cases st with
 |Assign ts e pos=>
  match ts with
  |[]=>exact cT
  |_::_::_=>exact cT
  |[t]=>cases t with
   |Name x _=>exact Ib C n _
   |Attribute o f _=>exact Ie C n o f e
   |Subscript o b _=>exact Ig C n o b e
   |_=>exact cT
 |AugAssign t op e pos=>exact Ih C n t op e
 |Expr e pos=>exact Ot C n e
 |Return o pos=>cases o with
  |none=>exact NC
  |some e=>exact SE (hE _)
 |If c a b pos=>exact Xv (hT _) (hS _) (hS _)
 |For tg it body oe pos=>cases oe with
  |cons _ _=>exact cT
  |nil=>
   show PS X _ (tS (M.P.kt X) (Og M ai n L (rS L body) tg it));unfold Og;split
   ·exact cT
   ·rename_i h
    split
    ·rename_i g is ht
     obtain⟨gt,q1,q2⟩:=TQ (B:=M.P.kt X) rfl C.calm C.nd (tgl C) ht;exact SH C.calm (hI tg it) q1 q2 (hS body) (passes C) (zm (by simpa using h))
    ·exact cT
 |While c body oe pos=>cases oe with
  |cons _ _=>exact cT
  |nil=>exact HA _ (hT _) (hS _) (passes C)
 |Try body hs oe fb pos=>
  match hs,oe,fb with
  |[],_,_=>exact cT
  |_::_,_::_,_=>exact cT
  |_::_,[],_::_=>exact cT
  |_::_,[],[]=>exact Tc C.xe (hS _)
 |Pass _=>exact Ny
 |Break _=>exact Hz
 |Continue _=>exact Nz
 |_=>exact cT
theorem iY(n:Nat):∀(m:Nat)(L:Lc)(X:Cx),FZ M ai k L X->∀Nv,jH X Nv (tS (M.P.kt X) (kO M ai n m L Nv))
 |0,_,_,_,_=>Sz
 |m+1,L,X,C,[]=>SA
 |m+1,L,X,C,[st]=>SD (Ew C n (iY n m L X C) st)
 |m+1,L,X,C,st::s2::rest=>Nx (Ew C n (iY n m L X C) st) (iY n m L X C (s2::rest))
structure Fe where
 cls:Option Str
 x:Str
 qual:Str
 st:Stmt
 N:Bi
 ps:Bi
 mu:Bi
 sl:Bool
 ds:FK
def noFn:Fn:=λ_ _=>.bad
def TY(b:Bool)(f:Fn):Fn:=if b then aO f else f
def Ex(M:Gm)(ai:Nat->Fn)(e:Fe):Fn:=TY e.sl (aJ e.ps.length e.N.length (kO M ai 60 200 ⟨e.N,aD e.st,e.mu⟩ (cL e.st)))
def jc(M:Gm)(Ft:List Fe):Nat->Nat->Fn
 |0,_=>noFn
 |n+1,i=>match Ft[i]? with
  |some e=>Ex M (jc M Ft n) e
  |none=>noFn
section
def Ey(K:bu)(x:Str):Option Addr:=match oZ K mainGlobals x with
 |some (some (.ref a))=>some a
 |_=>none
theorem j9{x:Str}{a:Addr}(h:Ey K x=some a):oZ K mainGlobals x=some (some (.ref a)):=by
 unfold Ey at h;split at h
 ·rename_i e;cases h;exact e
 ·cases h
def XY(K:bu)(C:Addr)(m:Str):Option Addr:=match gi K (.ref C) m with
 |some (some (.ref a))=>some a
 |_=>none
def VC(K:bu)(C:Addr)(ns:Bi):Bool:=Bv K C Str.empty&&xT K C&&BB K C&&decide (gi K (.ref C) "__setattr__" = some (some (.builtin "object.__setattr__"))) &&
 decide (gi K (.ref C) "__class__" = some (some (.builtin "object.__class__")))&&decide (xW K C (.type "object")=some true)&&ns.all (λf=>decide (gi K (.ref C) f=some none))&&decide ns.Nodup&&decide (ns.length<=100)
def subB(K:bu)(cn:Bi)(C:Addr)(l:B1):Bool:=(dZ cn.length).all λd=>match cn[d]? with
 |none=>true
 |some n=>(match Ey K n with
  |some D=>decide (qM K (.ref C) (.ref D)=some (decide (d∈l)))
  |none=>false)
def TZ(K:bu)(P:Pg):Bool:=(dZ P.cn.length).all λc=>match P.cn[c]? with
 |none=>true
 |some n=>(match Ey K n,P.fn[c]?,P.sub[c]? with
  |some C,some ns,some l=>VC K C ns&&subB K P.cn C l
  |_,_,_=>false)
def gtB(K:bu):Bool:=decide (xU K (.builtin "object.__class__") "__get__" = some (some (.builtin "getset_descriptor.__get__")))&&decide (xV K (.builtin "object.__class__")=some true)
def Ou(K:bu)(mg:Str->D1):Prop:=∀x o,oZ K mainGlobals x=some o->mg x=o
theorem Ov{h:Heap}(X:K.In h)(G:h.Ns mainGlobals mg):Ou K mg:=λx o e=>by
 cases o with
 |none=>exact PySem.W.mg_none_of X G e
 |some v=>exact PySem.W.mg_of X G e
theorem uY{P:Pg}(h:TZ K P=true){c:Nat}{n:Str}(hc:P.cn[c]?=some n):∃C ns l,Ey K n=some C/\P.fn[c]?=some ns/\P.sub[c]?=some l/\VC K C ns=true/\subB K P.cn C l=true:=by
 unfold TZ at h
 have:=gz.mp h c (gj.mpr (dc.mp hc).1)
 rw[hc]at this;dsimp only at this;split at this
 ·rename_i C ns l h1 h2 h3
  rw[cO]at this;exact⟨C,ns,l,h1,h2,h3,this.1,this.2⟩
 ·cases this
theorem rZ(g:Ou K mg){n:Str}{C:Addr}{ns:Bi}(ha:Ey K n=some C)(h:VC K C ns=true):PU K mg n ns C:=by
 unfold VC at h;simp only[cO,decide_eq_true_eq]at h;obtain⟨⟨⟨⟨⟨⟨⟨⟨h1,h2⟩,h3⟩,h4⟩,h5⟩,h6⟩,h7⟩,h8⟩,h9⟩:=h;have a:=j9 ha;exact⟨a,g _ _ a,h8,h9,⟨h1,h2,h3,h4⟩,λf hf=>show gi K (.ref C) f=some none from of_decide_eq_true (gz.mp h7 f hf),h5,h6⟩
theorem T_{P:Pg}(g:Ou K mg)(h:TZ K P=true)(ht:gtB K=true):lO K mg P:=by
 refine⟨λc n ns h1 h2=>?_,λc d n n' C D l h1 h2 h3 h4 h5=>?_,?_⟩
 ·obtain⟨C,C6,l,ha,hn,_,hb,_⟩:=uY h h1
  rw[h2]at hn;cases hn;exact⟨C,rZ g ha hb⟩
 ·obtain⟨C',C6,l',ha,_,hl,_,hs⟩:=uY h h1
  rw[h5]at hl;cases hl;have e:=(g _ _ (j9 ha)).symm.trans h3;cases e;unfold subB at hs
  have:=gz.mp hs d (gj.mpr (dc.mp h2).1)
  rw[h2]at this;dsimp only at this;split at this
  ·rename_i D' hd
   have e:=(g _ _ (j9 hd)).symm.trans h4;cases e;exact of_decide_eq_true this
  ·cases this
 ·unfold gtB at ht
  rw[cO]at ht;exact⟨of_decide_eq_true ht.1,of_decide_eq_true ht.2⟩
def Ow(K:bu)(e:Fe):Option Addr:=match e.cls with
 |none=>Ey K e.x
 |some c=>(Ey K c).bind λC=>XY K C e.x
def K6(K:bu)(e:Fe):Option FuncData:=(Ow K e).bind λf=>match K.lookup f with
 |some ⟨_,_,.func fd,_⟩=>some fd
 |_=>none
def Ez(e:Fe)(fd:FuncData):FuncData:=z7 e.x e.qual (jP e.st) (cL e.st) (aD e.st) fd.defaults fd.kwdefaults fd.doc fd.pyModule fd.annotations fd.code fd.closureTuple
def Z8(e:Fe):Bool:=decide ((aD e.st).kind=.function)&&!(aD e.st).isCoroutine&&!(aD e.st).isGenerator&&decide e.N.Nodup&&decide (e.N.take e.ps.length=e.ps)&&e.ps.all (λx=>decide ((aD e.st).names.lookup x=some .local) ||decide ((aD e.st).names.lookup x=some .cell))&&(aD e.st).names.all (λy=>decide (y.2≠.free))
def zr:T->Value->Bool
 |.int i,.int j _=>decide (i=j)
 |.str l,.str s _=>decide (s.cps.toList=l)&&decide (l.length<=1000000)
 |.bl b,.bool c=>b == c
 |.non,.none=>true
 |_,_=>false
def d_:T->V
 |.int i=>.int i
 |.str l=>SV l
 |.bl b=>.bl b
 |_=>.non
theorem zt{t:T}{u:Value}(h:zr t u=true):RelV (d_ t) u/\∀(B:KT)al H,Rep B al H t (d_ t):=by
 unfold zr at h;split at h
 ·have h:=of_decide_eq_true h
  subst h;exact⟨⟨_,rfl⟩,λ_ _ _=>rfl⟩
 ·rename_i l s tk
  rw[cO]at h;have h1:=of_decide_eq_true h.1;subst h1;exact⟨⟨tk,rfl⟩,λ_ _ _=>⟨rfl,of_decide_eq_true h.2⟩⟩
 ·have h:=eq_of_beq h
  subst h;exact⟨rfl,λ_ _ _=>rfl⟩
 ·exact⟨rfl,λ_ _ _=>rfl⟩
 ·cases h
def jv:FK->B2->Bool
 |[],[]=>true
 |t::ts,u::us=>zr t u&&jv ts us
 |_,_=>false
theorem nU:∀{ts:FK}{us:B2},jv ts us=true->Vals (ts.map d_) us/\∀(B:KT)al H,az B al H ts (ts.map d_)
 |[],[],_=>⟨.nil,λ_ _ _=>rfl⟩
 |t::ts,u::us,h=>by
  rw[jv,cO]at h;obtain⟨a,b⟩:=zt h.1;obtain⟨c,d⟩:=nU h.2;exact⟨.cons a c,λB al H=>⟨_,_,rfl,b B al H,d B al H⟩⟩
 |[],_::_,h=>by cases h
 |_::_,[],h=>by cases h
def XZ(K:bu)(ds:FK)(dV:Value):Bool:=match ds with
 |[]=>(match dV with
  |.none=>true
  |_=>false)
 |_::_=>(match dV with
  |.ref a=>(match K.lookup a with
   |some ⟨_,_,.seq its _,_⟩=>jv ds its.toList
   |_=>false)
  |_=>false)
def VD(K:bu)(e:Fe):Bool:=match Ow K e,K6 K e with
 |some f,some fd=>oY K (.ref f)&&Bw K (.ref f)&&BG K fd.code e.qual&&Z8 e&&XZ K e.ds fd.defaults
 |_,_=>false
def Bn(e:Fe):Prop:=match e.ds with
 |[]=>∀(kV doc pm:Value)(an:Option Addr)(jD ct:Value)(us:B2),us.length=e.ps.length->bindArgs (z7 e.x e.qual (jP e.st) (cL e.st) (aD e.st) .none kV doc pm an jD ct) ⟨us,[]⟩=pure (e.ps.zip us)
 |ds=>∀(kV doc pm:Value)(an:Option Addr)(jD ct:Value)(s:Shared)(a:Addr)(o:Obj)(gq:B2)(n:Nat)(us:B2),s.heap.get? a=some o->o.data=.seq gq.toArray n->gq.length=ds.length->(us++gq).length=e.ps.length ->
  BindsTo s (z7 e.x e.qual (jP e.st) (cL e.st) (aD e.st) (.ref a) kV doc pm an jD ct) ⟨us,[]⟩ (e.ps.zip (us++gq))
structure uZ(K:bu)(e:Fe)(f:Addr)(fd:FuncData):Prop where
 at_:Ow K e=some f
 fn:wU K e.x e.qual e.st f fd
 sc:gK e.N e.ps (aD e.st)
 isf:Bw K (.ref f)=true
 bs:e.ds=[]->∀us:B2,us.length=e.ps.length->bindArgs fd ⟨us,[]⟩=pure (e.ps.zip us)
 bd:∃(gq:B2)(dV:List V),Binds K fd e.ps gq/\Vals dV gq/\∀(B:KT)al H,az B al H e.ds dV
theorem uZ.bn{e:Fe}{f:Addr}{fd:FuncData}(F:uZ K e f fd)(h:e.ds=[]):Binds K fd e.ps []:=.all (F.bs h)
theorem qD:∀{ts:FK}{us:B2},jv ts us=true->us.length=ts.length
 |[],[],_=>rfl
 |t::ts,u::us,h=>by
  rw[jv,cO]at h;simp[qD h.2]
 |[],_::_,h=>by cases h
 |_::_,[],h=>by cases h
theorem Ua{e:Fe}(h:VD K e=true)(q:K6 K e=(K6 K e).map (Ez e))(b:Bn e):∃f fd,uZ K e f fd:=by
 unfold VD at h;split at h
 case h_2=>cases h
 rename_i f fd h1 h2;simp only[cO]at h;obtain⟨⟨⟨⟨h3,h4⟩,h5⟩,h6⟩,h7⟩:=h;rw[h2]at q;injection q with q
 have l:∃oc od CG,K.lookup f=some ⟨oc,od,.func fd,CG⟩:=by
  unfold K6 at h2;rw[h1]at h2;dsimp only[Option.bind]at h2;split at h2
  ·rename_i oc od fd' CG e
   cases h2;exact⟨oc,od,CG,e⟩
  ·cases h2
 obtain⟨oc,od,CG,l⟩:=l;have F:wU K e.x e.qual e.st f fd:=⟨⟨oc,od,fd.defaults,fd.kwdefaults,fd.doc,fd.pyModule,fd.annotations,fd.code,fd.closureTuple,CG,q,l,h5⟩,h3⟩;have bs:e.ds=[]->∀us:B2,us.length=e.ps.length->bindArgs fd ⟨us,[]⟩=pure (e.ps.zip us):=λh us hl=>by
  unfold Bn at b;rw[h]at b h7;unfold XZ at h7;dsimp only at b h7;split at h7
  ·rename_i hd
   rw[q];unfold Ez;rw[hd];exact b _ _ _ _ _ _ us hl
  ·cases h7
 have bd:∃(gq:B2)(dV:List V),Binds K fd e.ps gq/\Vals dV gq/\∀(B:KT)al H,az B al H e.ds dV:=by
  cases uC:e.ds with
  |nil=>exact⟨[],[],.all (bs uC),.nil,λ_ _ _=>rfl⟩
  |cons d ds=>
   unfold Bn at b;rw[uC]at b h7;unfold XZ at h7;dsimp only at b h7;split at h7
   case h_2=>cases h7
   rename_i a hd;split at h7
   case h_2=>cases h7
   rename_i oc' od' its n' Vb hlk;obtain⟨v1,v2⟩:=nU h7;refine⟨its.toList,_,λs us KX hl=>?_,v1,λB al H=>v2 B al H⟩;rw[q];unfold Ez;rw[hd];exact b _ _ _ _ _ _ s a _ its.toList n' us (KX _ _ hlk) rfl (qD h7) hl
 refine⟨f,fd,h1,F,?_,h4,bs,bd⟩;unfold Z8 at h6;simp only[cO,decide_eq_true_eq]at h6;obtain⟨⟨⟨⟨⟨⟨g1,g2⟩,g3⟩,g4⟩,g5⟩,g6⟩,g7⟩:=h6;refine⟨g1,by simpa using g2,by simpa using g3,g4,g5,λx hx=>?_,λy hy=>of_decide_eq_true (gz.mp g7 y hy)⟩
 have:=gz.mp g6 x hx
 rw[J2]at this;exact this.imp of_decide_eq_true of_decide_eq_true
end
abbrev Ij:=List (Str×Nat)
section
variable{Ft:List Fe}{It:Ij}
def X0(e:Fe):Bool:=e.N.all λx=>(decide ((aD e.st).names.lookup x=some .local) ||decide ((aD e.st).names.lookup x=some .cell))&&!qA x
theorem K7{e:Fe}(h:X0 e=true):∀(i:Nat)(x:Str),e.N[i]?=some x->sN (aD e.st) x/\bW x/\iE x:=λi x hx=>by
 have:=gz.mp h x (je hx)
 rw[cO,J2]at this;refine⟨this.1.elim (λh=>.inl (of_decide_eq_true h)) λh=>.inr (.inl (of_decide_eq_true h)),VB (by simpa using this.2)⟩
def Z9(K:bu)(C f:Addr):Bool:=Bx K C&&decide (gi K (.ref C) "__init__" = some (some (.ref f)))&&oY K (.ref C)
def EA(K:bu)(M:Gm)(Ft:List Fe)(It:Ij)(c:Nat)(x:Str)(t:Bi->Fe->Bool):Bool:=match M.P.cn[c]?,M.P.fn[c]?,(It.lookup x).bind λi=>Ft[i]? with
 |some n,some ns,some e=>decide (n=x)&&(match Ey K x,Ow K e with
  |some C,some f=>Z9 K C f&&e.ds.isEmpty&&t ns e
  |_,_=>false)
 |_,_,_=>false
def Z_(n:Nat)(ns:Bi)(e:Fe):Bool:=X0 e&&nN e.N 1 (cL e.st) ns&&decide (e.ps.length=ns.length+1)&&decide (ns.length=n)
noncomputable def cpB(K:bu)(ns:Bi)(e:Fe):Bool:=X0 e&&decide (e.ps.length=2)&&decide (oZ K mainGlobals "list" = some none)&&decide ((aD e.st).names.lookup ("list" : Str)=some .globalImplicit)&&(match cL e.st with
 |[SQ]=>(match rR SQ with
  |some (s0,n,q)=>decide (ns=[n])&&decide (e.N[0]?=some s0)&&decide (e.N[1]?=some q)
  |none=>false)
 |_=>false)
noncomputable def VE(K:bu)(M:Gm)(Ft:List Fe)(It:Ij)(x:Str):Ck->Bool
 |.fz c n=>EA K M Ft It c x (Z_ n)
 |.z0 c=>(match M.P.cn[c]?,Ey K x with
  |some n,some C=>decide (n=x)&&Bx K C&&decide (gi K (.ref C) "__init__" = some (some (.builtin "object.__init__")))&&oY K (.ref C)
  |_,_=>false)
 |.cp c=>EA K M Ft It c x (cpB K)
 |.nw c i=>decide (It.lookup x=some i)&&EA K M Ft It c x λ_ _=>true
def X3:FK->FK->Bool
 |[],[]=>true
 |[.int i],[.int j]=>decide (i=j)
 |_,_=>false
theorem Ik{a b:FK}(h:X3 a b=true):a=b:=by
 unfold X3 at h;split at h
 ·rfl
 ·rw[of_decide_eq_true h]
 ·cases h
def X4(K:bu)(Ft:List Fe)(p:Str×FK×Nat):Bool:=match Ft[p.2.2]? with
 |some e=>decide (e.cls=none)&&decide (e.x=p.1)&&X3 p.2.1 e.ds
 |none=>false
noncomputable def X5(K:bu)(M:Gm)(Ft:List Fe)(m:Str)(p:Nat×Nat):Bool:=match M.P.cn[p.1]?,M.P.fn[p.1]?,Ft[p.2]? with
 |some n,some ns,some e=>(match Ey K n,Ow K e with
  |some C,some f=>decide (gi K (.ref C) m=some (some (.ref f)))&&e.ds.isEmpty&&!ns.contains m
  |_,_=>false)
 |_,_,_=>false
def Ox(K:bu)(M:Gm)(Ft:List Fe)(It:Ij):Bool:=TZ K M.P&&gtB K&&Ft.all (VD K)&&M.fs.all (X4 K Ft)&&M.cl.all (λp=>VE K M Ft It p.1 p.2)&&M.ms.all (λp=>p.2.all (X5 K M Ft p.1))&&M.bl.all (λx=>decide (oZ K mainGlobals x=some none))
structure ModOk(K:bu)(M:Gm)(Ft:List Fe)(It:Ij):Prop where
 b:Ox K M Ft It=true
 q:Ft.map (K6 K)=Ft.map λe=>(K6 K e).map (Ez e)
 bn:∀e∈Ft,Bn e
theorem EB{α β:Type}{f g:α->β}:∀{l:List α},l.map f=l.map g->∀a∈l,f a=g a
 |[],_,a,h=>by simp at h
 |b::l,e,a,h=>by
  rw[cU,cU]at e;injection e with e1 e2
  rcases cu.mp h with rfl|h
  ·exact e1
  ·exact EB e2 a h
theorem ModOk.split(O:ModOk K M Ft It):TZ K M.P=true/\gtB K=true/\(∀e∈Ft,VD K e=true)/\(∀p∈M.fs,X4 K Ft p=true)/\(∀p∈M.cl,VE K M Ft It p.1 p.2=true)/\(∀p∈M.ms,∀q∈p.2,X5 K M Ft p.1 q=true)/\∀x∈M.bl,oZ K mainGlobals x=some none:=by
 have h:=O.b;unfold Ox at h;simp only[cO]at h;obtain⟨⟨⟨⟨⟨⟨h1,h2⟩,h3⟩,h4⟩,h5⟩,h6⟩,h7⟩:=h;exact⟨h1,h2,gz.mp h3,gz.mp h4,gz.mp h5,λp hp=>gz.mp (gz.mp h6 p hp),λx hx=>of_decide_eq_true (gz.mp h7 x hx)⟩
theorem ModOk.fe(O:ModOk K M Ft It){e:Fe}(h:e∈Ft):∃f fd,uZ K e f fd:=Ua (O.split.2.2.1 e h) (EB O.q e h) (O.bn e h)
theorem Il{B:KT}{P:Program}{w:World}{base:Heap}{k:Nat}{f:Addr}{fd:FuncData}{ps:Bi}:dH P w K mg base lJ k f fd ps (qr B noFn):=
 ⟨λvs H Q E ⟨_,_,_,_,_,_,_,h,_⟩=>(by cases h),λ_ _ _ _ _ _ _ _ _ _ _ _ _ ⟨_,_,_,_,_,_,_,h,_⟩=>(by cases h)⟩
theorem xj(g:Ou K mg)(O:ModOk K M Ft It){c:Nat}{x:Str}{t:Bi->Fe->Bool}(h:EA K M Ft It c x t=true):∃C ns e i f fd,M.P.cn[c]?=some x/\M.P.fn[c]?=some ns/\It.lookup x=some i/\Ft[i]?=some e/\uZ K e f fd/\Mk K C f/\PU K mg x ns C/\t ns e=true/\e.ds=[]:=by
 unfold EA at h;split at h
 case h_2=>cases h
 rename_i n ns e h1 h2 h3;obtain⟨i,h4,h5⟩:=ba.mp h3;rw[cO]at h;obtain⟨hn,h⟩:=h;have hn:=of_decide_eq_true hn;subst hn;split at h
 case h_2=>cases h
 rename_i C f h6 h7;rw[cO]at h;obtain⟨f',fd,F⟩:=O.fe (je h5)
 have:=F.at_.symm.trans h7
 cases this;obtain⟨C',C6,l,g1,g2,_,g3,_⟩:=uY O.split.1 h1;rw[h6]at g1;cases g1;rw[h2]at g2;cases g2;unfold Z9 at h;simp only[cO,decide_eq_true_eq]at h;exact⟨C,ns,e,i,_,fd,h1,h2,h4,h5,F,⟨h.1.1.1.1,h.1.1.1.2,F.isf,h.1.1.2⟩,rZ g h6 g3,h.2,BX.mp h.1.2⟩
theorem A6{α:Type}{l:List (Nat×α)}{x:Nat}{a:α}(h:l.lookup x=some a):(x,a)∈l:=by
 induction l with
 |nil=>simp at h
 |cons p l ih=>
  obtain⟨q,b⟩:=p;rw[jf]at h;split at h
  ·rename_i e
   cases h;rw[eq_of_beq e];exact eg ..
  ·exact ez _ (ih h)
variable{Pr:Program}{w:World}{base:Heap}
theorem PU.EC{P:Pg}{c:Nat}{x:Str}{ns:Bi}{C:Addr}(F:PU K mg x ns C)(h1:P.cn[c]?=some x)(h2:P.fn[c]?=some ns):iA (jt P K Pr w) c C ns:=⟨x,h1,h2,F.nd,F.at_⟩
theorem Im{e:Fe}{f:Addr}{fd:FuncData}{ai:Nat->Fn}{k:Nat}(F:uZ K e f fd)(G:Eh M Pr w K mg base ai k):dH Pr w K mg base lJ (k+2) f fd e.ps (qr (jt M.P K Pr w) (Ex M ai e)):=by
 have main:dH Pr w K mg base lJ (k+2) f fd e.ps (qr (jt M.P K Pr w) (aJ e.ps.length e.N.length (kO M ai 60 200 ⟨e.N,aD e.st,e.mu⟩ (cL e.st)))):=by
  refine NF F.fn F.sc λjD A outer s H E hr=>?_;exact iY 60 200 ⟨e.N,aD e.st,e.mu⟩ (pD lJ Pr w K mg base e.N e.qual (aD e.st) f jD A outer s H E).Kf ⟨⟨G,rfl,rfl,rfl,k+1,cC _,hr⟩,λ_=>rfl,F.sc.nd,rfl⟩ (cL e.st)
 unfold Ex TY;split
 ·exact HB main
 ·exact main
theorem zu{n:Nat}{i:Nat}{e:Fe}{f:Addr}{fd:FuncData}(F:uZ K e f fd)(he:Ft[i]?=some e)(h:∀m,n=m+1->Eh M Pr w K mg base (jc M Ft m) (2*m+1)):dH Pr w K mg base lJ (2*n+1) f fd e.ps (qr (jt M.P K Pr w) (jc M Ft n i)):=by
 cases n with
 |zero=>exact Il
 |succ m=>
  have:=Im F (h m rfl)
  unfold jc;rw[he];exact this
theorem Oz(g:Ou K mg)(O:ModOk K M Ft It)(hc:∀x t,M.cs.lookup x=some t->yZ K mg x t):∀n,Eh M Pr w K mg base (jc M Ft n) (2*n+1):=by
 intro n
 induction n using Nat.strongRecOn with
 |ind n ih=>
 have call:∀{i:Nat}{e:Fe}{f:Addr}{fd:FuncData},uZ K e f fd->Ft[i]?=some e->dH Pr w K mg base lJ (2*n+1) f fd e.ps (qr (jt M.P K Pr w) (jc M Ft n i)):=λF he=>zu F he λm hm=>ih m (by omega)
 obtain⟨o1,o2,o3,o4,o5,o6,o7⟩:=O.split;have pg:=T_ g o1 o2;refine⟨pg,hc,λx ds i h=>?_,λx c k h=>?_,λx c h=>?_,λx c h=>?_,λx c i h=>?_,λm l c i h1 h2=>?_,λx h=>g x none (o7 x h)⟩
 ·have q:=o4 _ (dj h)
  unfold X4 at q;dsimp only at q;split at q
  case h_2=>cases q
  rename_i e he;rw[cO,cO]at q;obtain⟨⟨q2,q3⟩,q1⟩:=q;have q2:=of_decide_eq_true q2;have q3:=of_decide_eq_true q3;subst q3;obtain⟨f,fd,F⟩:=O.fe (je he);have ha:=F.at_;unfold Ow at ha;rw[q2]at ha;obtain⟨gq,dV,b1,b2,b3⟩:=F.bd;exact⟨f,fd,e.ps,gq,dV,call F he,g _ _ (j9 ha),F.fn.kp,b1,b2,λal H=>Ik q1▸b3 _ al H⟩
 ·obtain⟨C,ns,e,i,f,fd,c1,c2,c3,c4,F,m,cl,q,q9⟩:=xj g O (o5 _ (dj h))
  unfold Z_ at q;simp only[cO,decide_eq_true_eq]at q;obtain⟨⟨⟨q1,q2⟩,q3⟩,q4⟩:=q;exact⟨C,f,fd,e.ps,ns,cl.EC c1 c2,q4,cl.gl,m,HE F.fn F.sc (K7 q1) q2 q3 cl.cl cl.na cl.nd cl.nq,F.bn q9⟩
 ·have q:=o5 _ (dj h)
  unfold VE at q;dsimp only at q;split at q
  case h_2=>cases q
  rename_i n' C h1 h2;simp only[cO,decide_eq_true_eq]at q;obtain⟨⟨⟨q1,q2⟩,q3⟩,q4⟩:=q;subst q1;obtain⟨C',ns,l,g1,g2,_,g3,_⟩:=uY o1 h1;rw[h2]at g1;cases g1;have cl:=rZ g h2 g3;exact⟨C,ns,cl.EC h1 g2,cl.gl,q2,q3,q4⟩
 ·obtain⟨C,ns,e,i,f,fd,c1,c2,c3,c4,F,m,cl,q,q9⟩:=xj g O (o5 _ (dj h))
  unfold cpB at q;simp only[cO,decide_eq_true_eq]at q;obtain⟨⟨⟨⟨q1,q2⟩,q3⟩,q4⟩,q5⟩:=q;split at q5
  case h_2=>cases q5
  rename_i SQ hb;split at q5
  case h_2=>cases q5
  rename_i s0 n' q' hi;simp only[cO,decide_eq_true_eq]at q5;obtain⟨⟨r1,r2⟩,r3⟩:=q5;subst r1;exact⟨C,f,fd,e.ps,n',cl.EC c1 c2,cl.gl,m,DW F.fn F.sc hb hi r2 r3 (K7 q1) (g _ _ q3) q4 q2 cl.cl (cl.na _ (eg ..)),F.bn q9⟩
 ·have q:=o5 _ (dj h)
  unfold VE at q;dsimp only at q;rw[cO]at q;obtain⟨q0,q⟩:=q;have q0:=of_decide_eq_true q0;obtain⟨C,ns,e,i',f,fd,c1,c2,c3,c4,F,m,cl,_,q9⟩:=xj g O q;rw[q0]at c3;cases c3;exact⟨C,f,fd,e.ps,ns,cl.EC c1 c2,cl.gl,m,call F c4,F.bn q9⟩
 ·have q:=o6 _ (dj h1) (c,i) (A6 h2)
  unfold X5 at q;dsimp only at q;split at q
  case h_2=>cases q
  rename_i n' ns e d1 d2 d3;split at q
  case h_2=>cases q
  rename_i C f d4 d5;rw[cO,cO]at q;obtain⟨⟨q1,q9⟩,q2⟩:=q;obtain⟨C',C6,l',g1,g2,_,g3,_⟩:=uY o1 d1;rw[d4]at g1;cases g1;rw[d2]at g2;cases g2;have cl:=rZ g d4 g3;obtain⟨f',fd,F⟩:=O.fe (je d3)
  have:=F.at_.symm.trans d5
  cases this;exact⟨C,_,fd,e.ps,ns,cl.EC d1 d2,cl.cl,⟨of_decide_eq_true q1,F.isf,F.fn.kp⟩,call F d3,F.bn (BX.mp q9),λz=>by rw[BW.mpr z]at q2;cases q2⟩
end
section
variable{Ft:List Fe}{It:Ij}
def Io(K:bu)(p:Str×T):Bool:=match oZ K mainGlobals p.1 with
 |some (some u)=>(match p.2,u with
  |.tup ts,.ref a=>(match K.lookup a with
   |some ⟨.type c,_,.seq its _,_⟩=>decide (c = "tuple")&&decide (its.size<=sizeLine)&&jv ts its.toList
   |_=>false)
  |t,u=>zr t u)
 |_=>false
theorem OA(g:Ou K mg){x:Str}{t:T}(h:Io K (x,t)=true):yZ K mg x t:=by
 unfold Io at h;dsimp only at h;split at h
 case h_2=>cases h
 rename_i u hu;have hm:=g _ _ hu;split at h
 ·rename_i ts a
  split at h
  ·rename_i c od its n sl hl
   simp only[cO,decide_eq_true_eq]at h;obtain⟨⟨h1,h2⟩,h3⟩:=h;subst h1;obtain⟨v1,v2⟩:=nU h3;exact⟨_,.ref a,hm,rfl,λB al H hB=>⟨a,ts.map d_,rfl,.inr ⟨_,its,n,hB▸hl,rfl,rfl,h2,v1⟩,v2 B al H⟩⟩
  ·cases h
 ·obtain⟨v1,v2⟩:=zt h
  exact⟨u,d_ t,hm,v1,λB al H _=>v2 B al H⟩
structure ED(K:bu)(M:Gm)(Ft:List Fe)(It:Ij):Prop extends ModOk K M Ft It where
 cs:M.cs.all (Io K)=true
variable{Pr:Program}{w:World}{base:Heap}
theorem Ip(g:Ou K mg)(O:ED K M Ft It)(n:Nat):Eh M Pr w K mg base (jc M Ft n) (2*n+1):=Oz g O.toModOk (λx t h=>OA g (gz.mp O.cs _ (dj h))) n
theorem Iq{B:KT}{f:Fn}{k:Nat}(ns:Dx)(h:∃m',f [.scr ns] []=.ok (.bl true,m')){H:Hp}{a:Addr}(hO:My H)(hS:dh B.K H a (ns.map V.int)):qr B f [.ref a] H (λv _=>v=.bl true) λ_ _ _=>False:=by
 obtain⟨m',h⟩:=h;refine⟨⟨H,λ_=>none,[]⟩,[.scr ns],[],_,m',⟨λ_ _ e=>e,λb p e=>(by cases e),rfl,λk ob e=>(by simp at e)⟩,⟨_,_,rfl,⟨a,rfl,hS⟩,rfl⟩,h,λv g' H' _ _ r=>r⟩
end
theorem Ub{l:PySem.W.OpenLaw}{m n:Nat}{q:Program}{loose:Bi}{XP:(Str->D1)->Heap->Prop}{YP:World->Heap->Prop}{d:DefRec}{K:Params->bu}{M:Gm}{Ft:List Fe}{It:Ij}{i:Nat}{e:Fe}
  (hn:l.most=some m) (hm:m<=sizeLine) (hdf:d.params.defaults=[]) (hr:bC (2*n+1) callerA) (hY:∀(w:World)(h:Heap),YP w h->(K w.params).In h)
  (he:Ft[i]?=some e) (hp:e.ps=[("_law_script" : Str)]) (hx:e.x=d.name) (wD:e.cls=none) (uC:e.ds=[]) (O:∀P,ED (K P) M Ft It) (hT:∀ns:Dx,ns.length<=m->(∀i∈ns,i.natAbs.log2<1048577)->∃m',jc M Ft n i [.scr ns] []=.ok (.bl true,m')) :
  PySem.W.WalkO q loose XP YP l.row.toRowW d [] (λf vs=>PySem.call f vs):=by
 intro w s₀ s₁ mg mb G Y fa o pm cd doc dV kV ho hd jI hD hmg hg args vals as GW X6 hrd Wt hlo
 obtain rfl:dV=.none:=JA.none hD hdf
 obtain rfl:kV=.none:=JA.noKw hD
 obtain⟨a,vs,ns,rfl,rfl,X7,hints,bO⟩:=Att.AA hn GW Wt;have bits:∀i∈ns,i.natAbs.log2<1048577:=λi hi=>by
  have h1:=PySem.W.layableW_item (PySem.W.layableW_arg X6 _ (dG.mpr rfl)) (.int i) (eU.mpr ⟨i,hi,rfl⟩);have h2:=PyData.bits_of_layable (PyProof.Rows.Da.lay0_int (PySem.W.layable_int h1));unfold Builtin.Int.intBits at h2;split at h2
  ·rename_i z
   rw[show i=0 from of_decide_eq_true z];decide
  ·omega
 refine PySem.W.enter_call (codeAny_mono (?_:codeAny (model l.prog w) callerA (.call (.ref fa) ⟨[.ref a],[]⟩) (λr s'=>r=.ok (.ret (.bool true))/\OldK s₁.heap s'.heap/\s'.os=s₁.os/\PyProof.Rows.AllBare s'.gens) s₁) λr s' hq=>?_)
 ·have KX:=hY w _ Y
  have g:=Ov KX G.T.g;obtain⟨f,fd,F⟩:=(O w.params).fe (je he);have ha:=F.at_;unfold Ow at ha;rw[wD]at ha;have ea:=(g _ _ (j9 ha)).symm.trans (hx▸hmg);cases ea;refine CP (k:=2*n+1) (fd:=fd) (x:=("_law_script" : Str)) (CX:=lJ) (sp:=qr (jt M.P (K w.params) l.prog w) (jc M Ft n i)) KX G.T.g G.T.b G.T.builtins G.T.nolimit hg X7 hints (gA bO hm) hr (λbase KB GB=>?_) (λs u=>?_) (λH hO hS=>Iq (k:=0) ns (hT ns bO bits) hO hS) λ_ _ _ z=>z
  ·have:=zu (Pr:=l.prog) (w:=w) (base:=base) (mg:=mg) F he (n:=n) λm hm=>Ip g (O w.params) m
   rw[hp]at this;exact this
  ·have:=F.bs uC [u] (by rw[hp];rfl)
   rw[hp]at this;exact .of_eq this
 ·obtain⟨rfl,h2,h3,h4⟩:=hq
  exact⟨.inl ⟨.bool true,.bool true,[],rfl,λ_=>rfl,.bool true,Att.AB l _,λ_=>⟨JL.nil,λ_ hm=>(nomatch hm)⟩⟩,h2,h3,h4⟩
end D
namespace D
theorem bj{α β:Type}(a:α)(f:α->Res β):Res.bind (.ok a) f=f a:=rfl
theorem pU{α:Type}(a:α):aS (some a)=.ok a:=rfl
section
variable{a b:FS}{s s':S}{r:Res (Out×S)}{t:T}{c:FT}{np n:Nat}{ts:FK}{m m':FV}{e:FE}
theorem seq1(h:a s=.ok (.nx,s'))(k:b s'=r):af a b s=r:=by unfold af;rw[h];exact k
theorem OB(h:a s=.ok (.rt t,s')):af a b s=.ok (.rt t,s'):=by unfold af;rw[h];rfl
theorem Uc(h:c s=.ok (true,s'))(k:a s'=r):aU c a b s=r:=by unfold aU;rw[h];exact k
theorem A7(h:c s=.ok (false,s'))(k:b s'=r):aU c a b s=r:=by unfold aU;rw[h];exact k
theorem gE(h:e s=.ok (t,s')):aA e s=.ok (.rt t,s'):=by unfold aA;rw[h];rfl
theorem eK(h:ts.length=np)(k:b ⟨ts.map (λt=>some (.val t))++ck (n-ts.length) none,m⟩=.ok (.rt t,s'))(hm:s'.m=m'):aJ np n b ts m=.ok (t,m'):=by
 unfold aJ;rw[if_pos h,k,<- hm];rfl
theorem OC(h:ts.length=np)(k:b ⟨ts.map (λt=>some (.val t))++ck (n-ts.length) none,m⟩=.ok (.nx,s'))(hm:s'.m=m'):aJ np n b ts m=.ok (.non,m'):=by
 unfold aJ;rw[if_pos h,k,<- hm];rfl
theorem nV{g:Fn}(h:aB ts=true)(k:g ts []=.ok (t,m'))(ht:noOwn t=true):aO g ts m=.ok (t,m):=by
 unfold aO;rw[if_pos h,k];exact if_pos ht
theorem eL{g:Fn}{ds:FK}{fl:FL}(h:fl s=.ok (ts,s'))(k:g (ts++ds) s'.m=.ok (t,m')):ao g ds fl s=.ok (t,⟨s'.r,m'⟩):=by
 unfold ao;rw[h];show(match g (ts++ds) s'.m with|.ok q=>_|.bad=>_|.exc c fs s'=>_)=_;rw[k]
end
theorem u1{g:Nat->Option Fn}{o:FE}{fl:FL}{k:Nat}{ob:Ob}{f:Fn}{ts:FK}{t:T}{s s1 s2:S}{m':FV}(h:o s=.ok (.own k,s1))(hm:s1.m[k]?=some ob)(hg:g ob.c=some f)(ha:fl s1=.ok (ts,s2))(hc:f (.own k::ts) s2.m=.ok (t,m')) :
  av g o fl s=.ok (t,⟨s2.r,m'⟩):=by
 unfold av;rw[h];show Res.bind (aS ((s1.m[k]?).bind λob=>g ob.c)) _=_;rw[hm];show Res.bind (aS (g ob.c)) _=_;rw[hg];refine Eq.trans (bj f _) ?_;exact eL (ts:=.own k::ts) (s':=s2) (by rw[ha];rfl) (by rw[dz];exact hc)
theorem jd{α:Type}{p:Prop}[Decidable p]{x:α}(h:p):gd p x=some x:=if_pos h
theorem ev:(∀t s,cF t s=.ok (t,s))/\(∀g a s,du g a s=(a s).bind λp=>(aS (g p.1)).bind λt=>.ok (t,p.2))/\(∀g a b s,bo g a b s=(a s).bind λp=>(b p.2).bind λq=>(aS (g p.1 q.1)).bind λt=>.ok (t,q.2)) /\
  (∀s,bq s=.ok ([],s))/\(∀a r s,cA a r s=(a s).bind λp=>(r p.2).bind λq=>.ok (p.1::q.1,q.2))/\(∀g a s,bg g a s=(a s).bind λp=>(aS (g p.1)).bind λt=>.ok (t,p.2)) /\
  (∀a s,tB a s=(a s).bind λp=>(aS (Ha p.1)).bind λb=>.ok (b,p.2))/\(∀a s,bP a s=(a s).bind λp=>(aS (PR p.1)).bind λb=>.ok (b,p.2))/\(∀a s,cW a s=(a s).bind λp=>.ok (!p.1,p.2)) /\
  (∀s,wF s=.ok (none,s))/\(∀a s,kG a s=(a s).bind λp=>(aS (RE p.1)).bind λi=>.ok (some i,p.2))/\(∀a lo hi s,oW a lo hi s=(a s).bind λp=>(lo p.2).bind λq=>(hi q.2).bind λz=>(aS (G_ q.1 z.1 p.1)).bind λt=>.ok (t,z.2)) /\
  (∀i a s,aH i a s=(a s).bind λp=>.ok (.nx,i_ p.2 i (.val p.1)))/\(∀a s,aL a s=(a s).bind λp=>.ok (.nx,p.2))/\(∀s,aE s=.ok (.nx,s)) /\
  (∀r m i c,i_ ⟨r,m⟩ i c=⟨r.set i (some c),m⟩)/\(∀f o fl s,kL f o fl s=(o s).bind λp=>(aS (Hr p.1)).bind λl=>(fl p.2).bind λq=>(aS (f l q.1)).bind λt=>.ok (t,q.2)) /\
  (∀t,Ha (.bl t)=some t)/\(∀t,PR (.bl t)=some t)/\(∀i,RE (.int i)=some i)/\(∀l,Hr (.str l)=some l):=
 ⟨λ_ _=>rfl,λ_ _ _=>rfl,λ_ _ _ _=>rfl,λ_=>rfl,λ_ _ _=>rfl,λ_ _ _=>rfl,λ_ _=>rfl,λ_ _=>rfl,λ_ _=>rfl,λ_=>rfl,λ_ _=>rfl,λ_ _ _ _=>rfl,λ_ _ _=>rfl,λ_ _=>rfl,λ_=>rfl,λ_ _ _ _=>rfl,λ_ _ _ _=>rfl,λ_=>rfl,λ_=>rfl,λ_=>rfl,λ_=>rfl⟩
theorem r6:(∀r m t,vF 0 ⟨some (.val t)::r,m⟩=.ok (t,⟨some (.val t)::r,m⟩))/\(∀x0 r m t,vF 1 ⟨x0::some (.val t)::r,m⟩=.ok (t,⟨x0::some (.val t)::r,m⟩))/\(∀x0 x1 r m t,vF 2 ⟨x0::x1::some (.val t)::r,m⟩=.ok (t,⟨x0::x1::some (.val t)::r,m⟩))/\(∀x0 x1 x2 r m t,vF 3 ⟨x0::x1::x2::some (.val t)::r,m⟩=.ok (t,⟨x0::x1::x2::some (.val t)::r,m⟩))/\(∀x0 x1 x2 x3 r m t,vF 4 ⟨x0::x1::x2::x3::some (.val t)::r,m⟩=.ok (t,⟨x0::x1::x2::x3::some (.val t)::r,m⟩))/\(∀x0 x1 x2 x3 x4 r m t,vF 5 ⟨x0::x1::x2::x3::x4::some (.val t)::r,m⟩=.ok (t,⟨x0::x1::x2::x3::x4::some (.val t)::r,m⟩))/\(∀x0 x1 x2 x3 x4 x5 r m t,vF 6 ⟨x0::x1::x2::x3::x4::x5::some (.val t)::r,m⟩=.ok (t,⟨x0::x1::x2::x3::x4::x5::some (.val t)::r,m⟩))/\(∀x0 x1 x2 x3 x4 x5 x6 r m t,vF 7 ⟨x0::x1::x2::x3::x4::x5::x6::some (.val t)::r,m⟩=.ok (t,⟨x0::x1::x2::x3::x4::x5::x6::some (.val t)::r,m⟩))/\(∀y r c,sZ (α:=Option C) (y::r) 0 c=c::r)/\(∀x0 y r c,sZ (α:=Option C) (x0::y::r) 1 c=x0::c::r)/\(∀x0 x1 y r c,sZ (α:=Option C) (x0::x1::y::r) 2 c=x0::x1::c::r)/\(∀x0 x1 x2 y r c,sZ (α:=Option C) (x0::x1::x2::y::r) 3 c=x0::x1::x2::c::r)/\(∀x0 x1 x2 x3 y r c,sZ (α:=Option C) (x0::x1::x2::x3::y::r) 4 c=x0::x1::x2::x3::c::r)/\(∀x0 x1 x2 x3 x4 y r c,sZ (α:=Option C) (x0::x1::x2::x3::x4::y::r) 5 c=x0::x1::x2::x3::x4::c::r)/\(∀x0 x1 x2 x3 x4 x5 y r c,sZ (α:=Option C) (x0::x1::x2::x3::x4::x5::y::r) 6 c=x0::x1::x2::x3::x4::x5::c::r)/\(∀x0 x1 x2 x3 x4 x5 x6 y r c,sZ (α:=Option C) (x0::x1::x2::x3::x4::x5::x6::y::r) 7 c=x0::x1::x2::x3::x4::x5::x6::c::r):=
 ⟨λ_ _ _=>rfl,λ_ _ _ _=>rfl,λ_ _ _ _ _=>rfl,λ_ _ _ _ _ _=>rfl,λ_ _ _ _ _ _ _=>rfl,λ_ _ _ _ _ _ _ _=>rfl,λ_ _ _ _ _ _ _ _ _=>rfl,λ_ _ _ _ _ _ _ _ _ _=>rfl,λ_ _ _=>rfl,λ_ _ _ _=>rfl,λ_ _ _ _ _=>rfl,λ_ _ _ _ _ _=>rfl,λ_ _ _ _ _ _ _=>rfl,λ_ _ _ _ _ _ _ _=>rfl,λ_ _ _ _ _ _ _ _ _=>rfl,λ_ _ _ _ _ _ _ _ _ _=>rfl⟩
end D
namespace D
open PySem L2 PyProof.Rows
theorem K8(l:B1):(⟨l.toArray⟩:Str).length=l.length:=by show l.toArray.size=_;simp
open PySem.StrLaws in
theorem u3(s sub:Str)(hi:Nat):∀(l:B1)(a fr:Nat),(forIn l ((#[a]:Array Nat),fr) (occBody s sub hi 1)).run.fst=#[a]
 |[],_,_=>rfl
 |b::l,a,fr=>by
  rw[xY];unfold occBody;rw[if_neg (by simp)]
  exact u3 s sub hi l a fr
open PySem.StrLaws Builtin.Str in
theorem occ_first(s sub:Str)(hi:Nat):∀(n lo fr:Nat),fr<=lo ->
  ((forIn (kr lo n) ((#[]:Array Nat),fr) (occBody s sub hi 1)).run.fst=#[]/\∀i,lo<=i->i<lo+n->¬ (i+sub.length<=hi/\subAt s sub i=true)) \/
  ∃i,(forIn (kr lo n) ((#[]:Array Nat),fr) (occBody s sub hi 1)).run.fst=#[i]/\lo<=i/\i<lo+n/\(i+sub.length<=hi/\subAt s sub i=true)/\∀j,lo<=j->j<i->¬ (j+sub.length<=hi/\subAt s sub j=true)
 |0,lo,fr,_=>.inl ⟨rfl,λi a b=>by omega⟩
 |n+1,lo,fr,h=>by
  rw[s_,xY];by_cases hc:lo+sub.length<=hi/\subAt s sub lo=true
  ·right
   refine⟨lo,?_,cC _,by omega,hc,λj a b=>by omega⟩
   unfold occBody;rw[if_pos ⟨⟨⟨by simp,h⟩,hc.1⟩,hc.2⟩]
   exact u3 s sub hi _ lo _
  ·have e:∀k,(occBody s sub hi 1 lo ((#[]:Array Nat),fr) >>= k:Id (Array Nat×Nat))=k (ForInStep.yield ((#[]:Array Nat),fr)):=λk=>by
    unfold occBody;rw[if_neg (λz=>hc ⟨z.1.2,z.2⟩)];rfl
   rw[e];rcases occ_first s sub hi n (lo+1) fr (by omega)with⟨a,b⟩|⟨i,a,b,c,d,g⟩
   ·refine .inl ⟨a,λi h1 h2=>?_⟩
    by_cases z:i=lo
    ·subst z;exact hc
    ·exact b i (by omega) (by omega)
   ·refine .inr ⟨i,a,by omega,by omega,d,λj h1 h2=>?_⟩
    by_cases z:j=lo
    ·subst z;exact hc
    ·exact g j (by omega) h2
theorem xl(c:Nat)(r:B1)(i:Nat):(i+(⟨[c].toArray⟩:Str).length<=r.length/\Builtin.Str.subAt ⟨r.toArray⟩ ⟨[c].toArray⟩ i=true) ↔ r[i]?=some c:=by
 rw[StrLaws.subAt_eq,K8,beq_iff_eq];show(i + [c].length<=r.length/\(r.drop i).take [c].length=[c]) ↔ _;constructor
 ·rintro⟨h1,h2⟩
  have:=congrArg (λq=>q[0]?) h2
  simpa using this
 ·intro h
  have hi:=(dc.mp h).1;refine⟨hi,?_⟩;rw[ph hi]
  have:=(dc.mp h).2
  simp[this]
theorem Ir(c:Nat)(D S R:B1)(h:c∉S):Builtin.Str.occurrences ⟨(D++(S++c::R)).toArray⟩ ⟨[c].toArray⟩ D.length (D++(S++c::R)).length 1=[D.length+S.length]:=by
 have hat:(D++(S++c::R))[D.length+S.length]?=some c:=by
  rw[eS (by omega),eS (by omega)]
  simp
 have K9:∀j,D.length<=j->j<D.length+S.length->¬ (D++(S++c::R))[j]?=some c:=λj h1 h2 z=>by
  rw[eS h1,gp (by omega)]at z
  exact h (je z)
 rw[StrLaws.occ_eq];rcases occ_first ⟨(D++(S++c::R)).toArray⟩ ⟨[c].toArray⟩ (D++(S++c::R)).length ((D++(S++c::R)).length+1-D.length) D.length D.length (cC _)with⟨a,b⟩|⟨i,a,b,c',d,g⟩
 ·exact absurd ((xl c _ _).mpr hat) (b _ (by omega) (by simp;omega))
 ·rw[a]
  have hi:=(xl c _ _).mp d
  have:i=D.length+S.length:=by
   rcases Nat.lt_trichotomy i (D.length+S.length)with z|z|z
   ·exact absurd hi (K9 i b z)
   ·exact z
   ·exact absurd ((xl c _ _).mpr hat) (g _ (by omega) z)
  rw[this]
theorem A8(c:Nat)(S R:B1)(h:c∉S):uz (S++c::R) [.str [c]]=some (.int ((S.length:Nat):Int)):=by
 have:=Ir c [] S R h
 rw[o9]at this;show some (T.int (Txt.find _ _))=_;unfold Txt.find;rw[K8];have e:Builtin.Str.occurrences ⟨(S++c::R).toArray⟩ ⟨[c].toArray⟩ 0 (S++c::R).length 1=[0+S.length]:=this;rw[e,pj]
theorem e_(n d k:Nat):gx n d (some (k:Int))=min k n:=by
 unfold gx;dsimp only;rw[if_neg (by omega)];rfl
theorem EE(n d:Nat):gx n d none=d:=rfl
theorem j_{α:Type}(w r:List α):bA (w++r) (some (w.length:Int)) none=r:=by
 unfold bA;rw[e_,EE,cK,Ad (by omega),BY]
 simp
theorem EF{α:Type}(w r:List α):bA (w++r) none (some (w.length:Int))=w:=by
 unfold bA;rw[e_,EE,cK,Ad (by omega)]
 simp
theorem Iu{α:Type}(a b c:List α):bA (a++(b++c)) (some (a.length:Int)) (some ((a.length+b.length:Nat):Int))=b:=by
 unfold bA;rw[e_,e_,cK,cK,Ad (by omega),Ad (by omega),BY]
 have:a.length+b.length-a.length=b.length:=by omega
 rw[this,List.take_left]
theorem pre_app(w r:B1):pre w (w++r)=true:=by unfold pre;simp
theorem fH{c d:Nat}{w r:B1}(h:c≠d):pre (c::w) (d::r)=false:=by
 unfold pre;rw[bz,bz,BZ]
 have:(d::List.take w.length r == c::w)=false:=by
  rw[beq_eq_false_iff_ne];intro z;injection z with z _
  exact h z.symm
 rw[this,B_]
end D
namespace D
abbrev sv(t:T):Option C:=some (.val t)
abbrev cI(i:Int):FE:=cF (.int i)
abbrev cS(l:B1):FE:=cF (.str l)
abbrev oA:FE->FE->FE:=bo (dC .Add)
abbrev oM:FE->FE->FE:=bo (dC .Mod)
abbrev oD:FE->FE->FE:=bo (dC .FloorDiv)
abbrev oE:FE->FE->FE:=bo (aI .Eq)
abbrev oI:FE->FE->FE:=bo gS
abbrev k1(a:FE):FL:=cA a bq
abbrev k2(a b:FE):FL:=cA a (k1 b)
abbrev k3(a b c:FE):FL:=cA a (k2 b c)
def W{α:Type}(x:Res α)(Q:α->Prop):Prop:=∃a,x=.ok a/\Q a
section
variable{α β:Type}{x:Res α}{f:α->Res β}{P:α->Prop}{R:β->Prop}
theorem W.mono{Q:α->Prop}(h:W x Q)(k:∀a,Q a->P a):W x P:=let⟨a,e,q⟩:=h;⟨a,e,k a q⟩
theorem W.bind(h:W x λa=>W (f a) R):W (x.bind f) R:=by
 obtain⟨a,rfl,b,e,q⟩:=h;exact⟨b,e,q⟩
theorem W.of{a:α}(e:x=.ok a)(h:P a):W x P:=⟨a,e,h⟩
end
section
variable{s s1 s':S}{a b:FE}{fl:FL}{g:T->T->FR}{gN:FK->FR}{Q:T×S->Prop}{t u:T}{ts:FK}{i:Nat}{c:FT}{A B:FS}{QS:Out×S->Prop}{QB:Bool×S->Prop}{QL:FK×S->Prop}{G:T×FV->Prop}
theorem Ud{f:Fn}(h:W (fl s) λp=>W (f p.1 p.2.m) λq=>Q (q.1,⟨p.2.r,q.2⟩)):W (ao f [] fl s) Q:=W.bind (h.mono λp k=>by
 obtain⟨q,e,k⟩:=k;refine⟨_,?_,k⟩;rw[dz,e])
def WB(b:FS)(s:S)(G:T×FV->Prop):Prop:=W (b s) λp=>∃t,p.1=.rt t/\G (t,p.2.m)
theorem Ue(h:W (a s) λp=>G (p.1,p.2.m)):WB (aA a) s G:=W.bind (h.mono λp q=>⟨_,rfl,_,rfl,q⟩)
theorem A9(e:a s=.ok (t,s'))(h:G (t,s'.m)):WB (aA a) s G:=Ue ⟨_,e,h⟩
theorem dm(h:W (A s) λp=>p.1=.nx/\WB B p.2 G):WB (af A B) s G:=W.bind (h.mono λp zz=>by
 obtain⟨e,k⟩:=zz;obtain⟨o,s'⟩:=p;cases e;exact k)
theorem K_(h:WB A s G):WB (af A B) s G:=W.bind (W.mono h λp ⟨t,e,k⟩=>⟨p,by obtain⟨o,s'⟩:=p;cases e;rfl,t,e,k⟩)
theorem X8(h:W (a s) λp=>QS (.nx,i_ p.2 i (.val p.1))):W (aH i a s) QS:=W.bind (h.mono λ_ q=>⟨_,rfl,q⟩)
theorem OD(h:W (a s) λp=>WB B (i_ p.2 i (.val p.1)) G):WB (af (aH i a) B) s G:=dm (X8 (h.mono λ_ q=>⟨rfl,q⟩))
theorem X_(e:a s=.ok (t,s'))(h:WB B (i_ s' i (.val t)) G):WB (af (aH i a) B) s G:=OD ⟨_,e,h⟩
theorem Ug(h:W (c s) λp=>(p.1=true->W (A p.2) QS)/\(p.1=false->W (B p.2) QS)):W (aU c A B s) QS:=W.bind (h.mono λp zz=>by
 obtain⟨k1,k2⟩:=zz;cases e:p.1 with
 |true=>exact k1 e
 |false=>exact k2 e)
theorem nW(e:c s=.ok (true,s'))(h:W (A s') QS):W (aU c A B s) QS:=Ug ⟨_,e,⟨λ_=>h,λz=>by cases z⟩⟩
theorem fJ(e:c s=.ok (false,s'))(h:W (B s') QS):W (aU c A B s) QS:=Ug ⟨_,e,⟨λz=>(by cases z),λ_=>h⟩⟩
theorem Yb(e:c s=.ok (true,s'))(h:WB A s' G):WB (af (aU c A B) a') s G:=K_ (nW e h)
theorem Uh(e:c s=.ok (false,s'))(h:WB B s' G):WB (af (aU c A aE) B) s G:=dm (fJ e ⟨_,rfl,rfl,h⟩)
theorem kQ{np n:Nat}{m:FV}(h:ts.length=np)(k:WB B ⟨ts.map (λt=>some (.val t))++ck (n-ts.length) none,m⟩ G):W (aJ np n B ts m) G:=by
 unfold aJ;rw[if_pos h];exact W.bind (W.mono k λp ⟨t,e,k⟩=>⟨_,by rw[e],k⟩)
theorem nX{f:Fn}{m:FV}(h:aB ts=true)(k:W (f ts []) λp=>noOwn p.1=true/\G (p.1,m)):W (aO f ts m) G:=by
 obtain⟨p,e,h1,h2⟩:=k;refine⟨_,?_,h2⟩;unfold aO;rw[if_pos h,e];exact if_pos h1
theorem fU(h:W (A s) λp=>p.1=.nx/\W (B p.2) QS):W (af A B s) QS:=W.bind (h.mono λp zz=>by
 obtain⟨e,k⟩:=zz;obtain⟨o,s'⟩:=p;cases e;exact k)
theorem Ui(h:W (fl s) λp=>Q (.lst p.1,p.2)):W (cY fl s) Q:=W.bind (h.mono λ_ q=>⟨_,rfl,q⟩)
theorem La{n:Nat}{js:B1}{gg:FG}{e:FE}(h:W (fl s) λp=>p.1.length<=1000000/\W (aN gg c e (iP n js (jn js p.2.r)) p.1 p.2.m) λq=>QL (q.1,⟨jn js p.2.r,q.2⟩)):W (bB fl n js gg c e s) QL:=W.bind (h.mono λp zz=>by
 obtain⟨z,k⟩:=zz;rw[if_pos z];exact W.bind (k.mono λ_ q=>⟨_,rfl,q⟩))
theorem Yc{gg:FG}{e:FE}{r:Fs}{I:FV->Prop}{R:T->Prop}:∀{ts:FK},(∀t∈ts,∀m,I m->∃b1,gg t r=some b1/\W (e ⟨b1,m⟩) λp=>R p.1/\I p.2.m)->∀m,I m->W (aN gg cX e r ts m) λp=>p.1.length=ts.length/\(∀t∈p.1,R t)/\I p.2
 |[],_,m,h=>⟨_,rfl,rfl,λ_ z=>(nomatch z),h⟩
 |t::ts,k,m,h=>by
  obtain⟨b1,e1,p,e2,r1,h1⟩:=k t (eg ..) m h;obtain⟨q,e3,l,r2,h2⟩:=Yc (λt ht=>k t (ez _ ht)) p.2.m h1;refine⟨(p.1::q.1,q.2),?_,by show q.1.length+1=ts.length+1;rw[l],λu hu=>?_,h2⟩
  ·rw[aN,e1]
   refine Eq.trans (bj _ _) ?_;show Res.bind (e ⟨b1,m⟩) _=_;rw[e2];show Res.bind (aN gg cX e r ts p.2.m) _=_;rw[e3];rfl
  ·rcases cu.mp hu with z|z
   ·rw[z];exact r1
   ·exact r2 u z
theorem EG{α:Type}{f:α->T}{P:α->Prop}:∀{us:FK},(∀t∈us,∃x,P x/\t=f x)->∃xs:List α,us=xs.map f/\∀x∈xs,P x
 |[],_=>⟨[],rfl,λ_ z=>nomatch z⟩
 |u::us,h=>by
  obtain⟨x,h1,rfl⟩:=h u (eg ..);obtain⟨xs,rfl,h2⟩:=EG λt ht=>h t (ez _ ht);exact⟨x::xs,rfl,λy hy=>by
   rcases cu.mp hy with z|z
   ·rw[z];exact h1
   ·exact h2 y z⟩
theorem Iv{gg:FG}{I:S->Prop}:∀{ts:FK}{s:S},(∀t∈ts,∀s,I s->∃r,gg t s.r=some r/\W (B ⟨r,s.m⟩) λp=>p.1=.nx/\I p.2)->I s->W (bU gg B ts s) λp=>p.1=.nx/\I p.2
 |[],s,_,h=>⟨_,rfl,rfl,h⟩
 |t::ts,s,k,h=>by
  obtain⟨r,e1,⟨o,s1⟩,e2,e3,h1⟩:=k t (eg ..) s h;cases e3;obtain⟨p,e4,h2⟩:=Iv (ts:=ts) (λt ht=>k t (ez _ ht)) h1;refine⟨p,?_,h2⟩;rw[bU,e1];refine Eq.trans (bj _ _) ?_;show Res.bind (B ⟨r,s.m⟩) _=_;rw[e2];exact e4
end
end D
namespace K33
open PySem D L2
variable(n:Nat){m:List _root_.D.Ob}
abbrev EH:B1:=[97,98,99,100,101,102,103,104,105,106,107,108,109,110,111,112,113,114,115,116,117,118,119,120,121,122,65,66,67,68,69,70,71,72,73,74,75,76,77,78,79,80,81,82,83,84,85,86,87,88,89,90,48,49,50,51,52,53,54,55,56,57,32,33,34,35,36,38,39,40,41,42,43,44,45,46,47,58,59,60,61,62,63,64,91,92,93,94,95,96,123,124,125,126]
abbrev Uj:B1:=[97,98,99,100,101,102,103,104,105,106,107,108,109,32,65,66,67,68,69,70,71,72,73,74]
abbrev Uk:B1:=[110,111,112,113,114,115,116,117,118,119,120,121,122,75,76,77,78,79,80,81,82,83,84,48,49,50,51]
abbrev Ul:B1:=[85,86,87,88,89,90,52,53,54,55,56,57,33,35,38,39,40,41,44,45,58,59,60,61,62,64,92,95,96,123,124,125,126]
noncomputable abbrev fx(x:Str)(i:Nat):Str×FK×Nat:=(x,[],i)
noncomputable def M:Gm:={
 P:={cn:=["Program","Line","Cond","Always","RowIs","Last","Like","Soon","FromTo","Not","End","Deed","Mark","Drop","Print","Done","Say","Swap","Join","Pile","Bring","Go","Add","Tell","TextRow","Truths","Walker","Scan"],an:=["lines","cond","deed","number","pattern","many","first","second","inner","name","words","every","most","shelf","text","known","conds","up","behind_marks","teller","truths","passed","met","taken","hand","hand_rows","shelves","sums","noted","log","wanting","rest"],tab:=[[0],[1,2],[],[],[3],[],[4],[5,4],[6,7],[8],[],[],[9],[],[],[],[10],[4,10,11],[12],[13,12],[13],[9],[6,7],[],[14,3,15],[16,17],[0,18,19,20,21,22,23,24,25,26,27,28,29,30],[31,3]],sub:=[[0],[1],[2],[2,3],[2,4],[2,5],[2,6],[2,7],[2,8],[2,9],[2,10],[11],[11,12],[11,13],[11,14],[11,15],[11,16],[11,17],[11,18],[11,19],[11,20],[11,21],[11,22],[11,23],[24],[25],[26],[27]]},
 cs:=[("SIGNS",.str EH),("SMALL_LETTERS",.str [97,98,99,100,101,102,103,104,105,106,107,108,109,110,111,112,113,114,115,116,117,118,119,120,121,122]),("FIGURES",.str [48,49,50,51,52,53,54,55,56,57]),("MOST_ITEMS",.int 8),("MOST_SIGNS",.int 12),("NEVER_PLAIN",.str [94,36,46,91,93,42,43,63,47]),("NEVER_IN_A_SET",.str [93,94,47]),("ONCE",.str [49]),("HOW_MANY",.str [42,43,63]),("NOWHERE",.int (-1)),("MOST_FIGURES_pieces",.int 60),("COND_BEGINNINGS",.tup [.str [114,111,119,32],.str [108,97,115,116],.str [47],.str [115,111,111,110,32],.str [102,114,111,109,32],.str [110,111,116,32],.str [101,110,100]]),("MOST_ROW",.int 999),("MOST_FIGURES_linereading",.int 3),("MOST_SOON",.int 3),("LEAST_JOIN",.int 2),("MOST_SMALL",.int 9),("MOST_LETTERS",.int 8),("MOST_TEXT",.int 40),("MOST_LINES",.int 24)],
 fs:=[fx "_wall" 0,fx "cut" 1,fx "made_of" 2,fx "beginning_of" 3,fx "may_stand_plain" 4,fx "pattern" 5,fx "items_of" 6,fx "place_behind_core" 7,fx "many_at" 8,fx "item_of" 9,fx "set_item" 10,fx "is_written_plain" 11,fx "written" 12,fx "written_core" 13,fx "may_be_empty" 14,fx "least_length" 15,fx "may_be_left_out" 16,fx "may_come_again" 17,("stretch",[.int 0],18),fx "found" 19,fx "greatest_ends" 20,fx "ends_behind_items" 21,fx "ends_with_item" 22,fx "text_rows" 23,fx "holds" 24,fx "is_row_up_to" 25,fx "first_swapped" 26,fx "every_swapped" 27,fx "words_of" 28,fx "word_of" 29,fx "number_of" 30,fx "given_in" 31,fx "numbers_of_marks" 32,fx "walk" 33,fx "line_of" 34,fx "line_next" 35,fx "cond_next" 36,fx "plain_cond_next" 37,fx "row_or_pattern_next" 38,fx "deed_next" 39,fx "swap_next" 40,fx "pile_next" 41,fx "add_next" 42,fx "number_next" 43,fx "name_next" 44,fx "words_next" 45,fx "pattern_next" 46,fx "may_stand" 47,fx "may_swap" 48,fx "read" 49,fx "lines_of" 50,fx "marks_of" 51,fx "refuse_go_without_mark" 52,fx "_law_cell_at" 53,fx "_law_signs" 54,fx "_law_row" 55,fx "_law_edge" 56,fx "_law_text" 57,fx "_law_part" 58,fx "_law_line" 59,fx "_law_holds" 60,fx "_law_stretches" 61,fx "law" 62],
 cl:=[("Program",.cp 0),("Line",.fz 1 2),("Cond",.z0 2),("Always",.z0 3),("RowIs",.fz 4 1),("Last",.z0 5),("Like",.fz 6 1),("Soon",.fz 7 2),("FromTo",.fz 8 2),("Not",.fz 9 1),("End",.z0 10),("Deed",.z0 11),("Mark",.fz 12 1),("Drop",.z0 13),("Print",.z0 14),("Done",.z0 15),("Say",.fz 16 1),("Swap",.fz 17 3),("Join",.fz 18 1),("Pile",.fz 19 2),("Bring",.fz 20 1),("Go",.fz 21 1),("Add",.fz 22 2),("Tell",.z0 23),("TextRow",.nw 24 78),("Truths",.nw 25 80),("Walker",.nw 26 84),("Scan",.nw 27 105)],
 ms:=[("has",[(24,79)]),("told_of",[(25,81)]),("truth",[(25,82)]),("truth_of_stretch",[(25,83)]),("want",[(26,85)]),("take",[(26,86)]),("take_with",[(26,87)]),("go_on",[(26,88)]),("meet",[(26,89)]),("hand_over",[(26,90)]),("finish",[(26,91)]),("find_none",[(26,92)]),("give",[(26,93)]),("end_turn",[(26,94)]),("give_hand_and_end",[(26,95)]),("do",[(26,96)]),("do_giving",[(26,97)]),("do_swap",[(26,98)]),("do_join",[(26,99)]),("do_pile",[(26,100)]),("do_bring",[(26,101)]),("rows_on_shelves",[(26,102)]),("do_add",[(26,103)]),("do_tell",[(26,104)]),("refuse",[(27,106)]),("passes",[(27,107)]),("must_pass",[(27,108)]),("while_made_of",[(27,109)]),("between",[(27,110)])],
 bl:=["isinstance","len","all","any","str","int","list","range","enumerate","tuple","set","sorted","reversed"],bf:=["log","met","up","known","shelves","sums","noted"]}
abbrev Fu(x:Str)(k:Nat)(N:Bi)(a:Nat)(u:Bi)(b:Bool):Fe:=⟨none,x,x,top k,N,N.take a,u,b,[]⟩
abbrev Fm(c x q:Str)(k h:Nat)(N:Bi)(a:Nat):Fe:=⟨some c,x,q,inClass (top k) h,"self" :: N,"self" :: N.take a,[],false,[]⟩
noncomputable def Ft:List Fe:=[
 Fu "_wall" 0 ["k"] 9 [] true,
 Fu "cut" 2 ["text","rows"] 1 [] true,
 Fu "made_of" 39 ["text","signs"] 9 [] true,
 Fu "beginning_of" 40 ["text","signs","many"] 2 [] true,
 Fu "may_stand_plain" 48 ["sign"] 9 [] true,
 Fu "pattern" 49 ["text","front","body","back","items"] 1 [] true,
 Fu "items_of" 50 ["body","items","place","behind","many"] 1 ["items"] true,
 Fu "place_behind_core" 51 ["body","place","bracket"] 2 [] true,
 Fu "many_at" 52 ["body","place"] 9 [] true,
 Fu "item_of" 53 ["core","many"] 9 [] true,
 Fu "set_item" 54 ["inside","many","others","signs"] 2 [] true,
 Fu "is_written_plain" 55 ["signs","others"] 9 [] true,
 Fu "written" 56 ["one","parts","signs","others","many"] 1 ["parts"] true,
 Fu "written_core" 57 ["signs","others"] 9 [] true,
 Fu "may_be_empty" 58 ["one"] 9 [] true,
 Fu "least_length" 59 ["one"] 9 [] true,
 Fu "may_be_left_out" 60 ["item"] 9 [] true,
 Fu "may_come_again" 61 ["item"] 9 [] true,
 ⟨none,"stretch","stretch",top 64,["one","row","start","ends","begin"],["one","row","start"],[],true,[.int 0]⟩,
 Fu "found" 65 ["one","row"] 9 [] true,
 Fu "greatest_ends" 66 ["one","row","ends","item"] 2 [] true,
 Fu "ends_behind_items" 67 ["row","back"] 9 [] true,
 Fu "ends_with_item" 68 ["item","row","behind","signs","others","again","ends","place","end"] 3 ["ends"] true,
 Fu "text_rows" 71 ["rows"] 9 [] false,
 Fu "holds" 73 ["cond","row"] 9 [] false,
 Fu "is_row_up_to" 74 ["cond","number"] 9 [] true,
 Fu "first_swapped" 77 ["hand","one","words","place"] 3 [] true,
 Fu "every_swapped" 78 ["hand","one","words","ends","parts","kept_to","place"] 3 ["parts"] true,
 Fu "words_of" 79 ["hand"] 9 [] true,
 Fu "word_of" 80 ["hand","number","words"] 2 [] true,
 Fu "number_of" 81 ["word","figures"] 1 [] true,
 Fu "given_in" 84 ["log"] 9 [] true,
 Fu "numbers_of_marks" 85 ["lines","numbers","number","line"] 1 ["numbers"] true,
 Fu "walk" 87 ["program","text","rows","walker","number","row"] 2 [] true,
 Fu "line_of" 98 ["row","number","scan","line"] 2 [] true,
 Fu "line_next" 99 ["scan","cond"] 1 [] false,
 Fu "cond_next" 100 ["scan"] 9 [] false,
 Fu "plain_cond_next" 101 ["scan","many","first"] 1 [] false,
 Fu "row_or_pattern_next" 102 ["scan"] 9 [] false,
 Fu "deed_next" 103 ["scan"] 9 [] false,
 Fu "swap_next" 104 ["scan","every","one"] 2 [] false,
 Fu "pile_next" 105 ["scan","shelf"] 1 [] false,
 Fu "add_next" 106 ["scan","first"] 1 [] false,
 Fu "number_next" 107 ["scan","least","most","figures","number"] 3 [] false,
 Fu "name_next" 108 ["scan","name"] 1 [] false,
 Fu "words_next" 109 ["scan","words"] 1 [] false,
 Fu "pattern_next" 110 ["scan","text"] 1 [] false,
 Fu "may_stand" 111 ["cond","deed"] 9 [] true,
 Fu "may_swap" 112 ["deed"] 9 [] true,
 Fu "read" 115 ["text","lines","marks"] 1 [] true,
 Fu "lines_of" 116 ["rows","lines","number","row"] 1 ["lines"] true,
 Fu "marks_of" 117 ["lines","marks","number","line"] 1 ["marks"] true,
 Fu "refuse_go_without_mark" 118 ["lines","marks","number","line"] 2 [] true,
 Fu "_law_cell_at" 120 ["_law_script","_law_k"] 9 [] true,
 Fu "_law_signs" 121 ["_law_cell","_law_some","_law_number"] 1 [] true,
 Fu "_law_row" 122 ["_law_cell","_law_signs_here","_law_row_here","_law_number","_law_k"] 2 [] true,
 Fu "_law_edge" 123 ["_law_cell","_law_signs_here","_law_words"] 2 [] true,
 Fu "_law_text" 124 ["_law_edge_here"] 9 [] true,
 Fu "_law_part" 125 ["_law_edge_here"] 9 [] true,
 Fu "_law_line" 126 ["_law_first","_law_second","_law_turned","_law_k","_law_cond"] 4 [] true,
 Fu "_law_holds" 127 ["_law_edge_here","_law_rows","_law_at","_law_row_here"] 3 [] true,
 Fu "_law_stretches" 128 ["_law_first","_law_second","_law_rows","_law_truths","_law_at"] 3 ["_law_truths"] true,
 Fu "law" 129 ["_law_script","_law_number","_law_signs_here","_law_rows","_law_text_here","_law_parts","_law_dropped","_law_truths","_law_cell","_law_due","_law_at","_law_told","_law_takes","_law_edge_here","_law_first","_law_second","_law_turned"] 1 ["_law_parts","_law_truths"] true,
 Fm "Program" "__init__" "Program.__init__" 4 0 ["lines"] 9,
 Fm "Line" "__init__" "Line.__init__" 5 0 ["cond","deed"] 9,
 Fm "RowIs" "__init__" "RowIs.__init__" 8 0 ["number"] 9,
 Fm "Like" "__init__" "Like.__init__" 10 0 ["pattern"] 9,
 Fm "Soon" "__init__" "Soon.__init__" 11 0 ["many","pattern"] 9,
 Fm "FromTo" "__init__" "FromTo.__init__" 12 0 ["first","second"] 9,
 Fm "Not" "__init__" "Not.__init__" 13 0 ["inner"] 9,
 Fm "Mark" "__init__" "Mark.__init__" 16 0 ["name"] 9,
 Fm "Say" "__init__" "Say.__init__" 20 0 ["words"] 9,
 Fm "Swap" "__init__" "Swap.__init__" 21 0 ["pattern","words","every"] 9,
 Fm "Join" "__init__" "Join.__init__" 22 0 ["most"] 9,
 Fm "Pile" "__init__" "Pile.__init__" 23 0 ["shelf","most"] 9,
 Fm "Bring" "__init__" "Bring.__init__" 24 0 ["shelf"] 9,
 Fm "Go" "__init__" "Go.__init__" 25 0 ["name"] 9,
 Fm "Add" "__init__" "Add.__init__" 26 0 ["first","second"] 9,
 Fm "TextRow" "__init__" "TextRow.__init__" 70 0 ["text","number"] 9,
 Fm "TextRow" "has" "TextRow.has" 70 1 ["one","name"] 1,
 Fm "Truths" "__init__" "Truths.__init__" 72 0 ["lines"] 9,
 ⟨some "Truths","told_of","Truths.told_of",inClass (top 72) 1,["self","row","behind","truths","place","cond"],["self","row","behind"],["truths"],false,[]⟩,
 Fm "Truths" "truth" "Truths.truth" 72 2 ["place","cond","row","behind"] 9,
 Fm "Truths" "truth_of_stretch" "Truths.truth_of_stretch" 72 3 ["place","cond","row"] 9,
 Fm "Walker" "__init__" "Walker.__init__" 83 0 ["program"] 9,
 Fm "Walker" "want" "Walker.want" 83 1 [] 9,
 Fm "Walker" "take" "Walker.take" 83 2 ["row","behind"] 9,
 Fm "Walker" "take_with" "Walker.take_with" 83 3 ["text","truths"] 9,
 Fm "Walker" "go_on" "Walker.go_on" 83 4 [] 9,
 Fm "Walker" "meet" "Walker.meet" 83 5 ["line","number","truth"] 2,
 Fm "Walker" "hand_over" "Walker.hand_over" 83 6 [] 9,
 Fm "Walker" "finish" "Walker.finish" 83 7 ["line"] 0,
 Fm "Walker" "find_none" "Walker.find_none" 83 8 [] 9,
 Fm "Walker" "give" "Walker.give" 83 9 ["row"] 9,
 Fm "Walker" "end_turn" "Walker.end_turn" 83 10 [] 9,
 Fm "Walker" "give_hand_and_end" "Walker.give_hand_and_end" 83 11 [] 9,
 Fm "Walker" "do" "Walker.do" 83 12 ["deed","number"] 9,
 Fm "Walker" "do_giving" "Walker.do_giving" 83 13 ["deed"] 9,
 Fm "Walker" "do_swap" "Walker.do_swap" 83 14 ["deed"] 9,
 Fm "Walker" "do_join" "Walker.do_join" 83 15 ["deed"] 9,
 Fm "Walker" "do_pile" "Walker.do_pile" 83 16 ["deed","things"] 1,
 Fm "Walker" "do_bring" "Walker.do_bring" 83 17 ["deed","thing"] 1,
 Fm "Walker" "rows_on_shelves" "Walker.rows_on_shelves" 83 18 [] 9,
 Fm "Walker" "do_add" "Walker.do_add" 83 19 ["deed","number","name","word","amount"] 2,
 Fm "Walker" "do_tell" "Walker.do_tell" 83 20 ["name"] 0,
 Fm "Scan" "__init__" "Scan.__init__" 97 0 ["row","number"] 9,
 Fm "Scan" "refuse" "Scan.refuse" 97 1 [] 9,
 Fm "Scan" "passes" "Scan.passes" 97 2 ["words"] 9,
 Fm "Scan" "must_pass" "Scan.must_pass" 97 3 ["words"] 9,
 Fm "Scan" "while_made_of" "Scan.while_made_of" 97 4 ["signs","taken"] 1,
 Fm "Scan" "between" "Scan.between" 97 5 ["sign","place","inside"] 1]
noncomputable def It:Ij:=[("Program",63),("Line",64),("RowIs",65),("Like",66),("Soon",67),("FromTo",68),("Not",69),("Mark",70),("Say",71),("Swap",72),("Join",73),("Pile",74),("Bring",75),("Go",76),("Add",77),("TextRow",78),("Truths",80),("Walker",84),("Scan",105)]
noncomputable abbrev cN:=jc M Ft
def t1(ai:Nat->Fn):Fn:=aO (aJ 1 2 (af (aH 1 (kL splitM (vF 0) (k1 (cS [10]))))
 (af (aU (bP (oE (oI (vF 1) (du lL (cI 1))) (cS [])))
  (aA (bg eV (k2 (oW (vF 1) wF (kG (du lL (cI 1)))) (cF (.bl true)))))
  aE)
 (aA (bg eV (k2 (vF 1) (cF (.bl false))))))))
theorem w1:cN (n+1) 1=t1 (cN n):=rfl
def t2(ai:Nat->Fn):Fn:=aO (aJ 2 2 (aA (bg Ht (k1 (cY (bB (nz (vF 0)) 2 [1] (setG 1) cX (bo (aI .In) (vF 1) (vF 2))))))))
theorem w2:cN (n+1) 2=t2 (cN n):=rfl
def t3(ai:Nat->Fn):Fn:=aO (aJ 2 3 (af (aH 2 (cI 0))
 (af (eW many (fD (bP (bo (aI .Lt) (vF 2) (bg bD (k1 (vF 0))))) (bP (bo (aI .In) (oI (vF 0) (vF 2)) (vF 1))))
  (C5 ik 2 (cI 1)))
 (aA (oW (vF 0) wF (kG (vF 2)))))))
theorem w3:cN (n+1) 3=t3 (cN n):=rfl
def t4(ai:Nat->Fn):Fn:=aO (aJ 1 1 (aA (pL (bo (aI .In) (vF 0) (cS EH)) (bo (aI .NotIn) (vF 0) (cS [94,36,46,91,93,42,43,63,47])))))
theorem w4:cN (n+1) 4=t4 (cN n):=rfl
def t5(ai:Nat->Fn):Fn:=aO (aJ 1 5 (af (aU (cW (tB (du (Nf "str") (vF 0))))
  c_
  aE)
 (af (aU (cW (tB (ao (ai 2) [] (k2 (vF 0) (cS EH)))))
  c_
  aE)
 (af (aH 1 (kL AR (vF 0) (k1 (cS [94]))))
 (af (aH 2 (AN (tB (vF 1)) (oW (vF 0) (kG (cI 1)) wF) (vF 0)))
 (af (aH 3 (kL Vt (vF 2) (k1 (cS [36]))))
 (af (aH 4 (ao (ai 6) [] (k1 (AN (tB (vF 3)) (oW (vF 2) wF (kG (du lL (cI 1)))) (vF 2)))))
 (af (aU (bP (bo (aI .Gt) (bg bD (k1 (vF 4))) (cI 8)))
  c_
  aE)
 (aA (bg eV (k3 (vF 1) (vF 4) (vF 3))))))))))))
theorem w5:cN (n+1) 5=t5 (cN n):=rfl
def t6(ai:Nat->Fn):Fn:=aO (aJ 1 5 (af (iQ 1 (lM bq))
 (af (aH 2 (cI 0))
 (af (eW many (bP (bo (aI .Lt) (vF 2) (bg bD (k1 (vF 0)))))
  (af (aH 3 (ao (ai 7) [] (k2 (vF 0) (vF 2))))
 (af (aH 4 (ao (ai 8) [] (k2 (vF 0) (vF 3))))
 (af (gQ 1 (ao (ai 9) [] (k2 (oW (vF 0) (kG (vF 2)) (kG (vF 3))) (vF 4))))
 (aH 2 (AN (bP (oE (vF 4) (cS [49]))) (vF 3) (oA (vF 3) (cI 1))))))))
 (aA (vF 1))))))
theorem w6:cN (n+1) 6=t6 (cN n):=rfl
def t7(ai:Nat->Fn):Fn:=aO (aJ 2 3 (af (aU (bP (bo (aI .NotEq) (oI (vF 0) (vF 1)) (cS [91])))
  (aA (oA (vF 1) (cI 1)))
  aE)
 (af (aH 2 (kL uz (vF 0) (k2 (cS [93]) (vF 1))))
 (af (aU (bP (oE (vF 2) (du lL (cI 1))))
  c_
  aE)
 (aA (oA (vF 2) (cI 1)))))))
theorem w7:cN (n+1) 7=t7 (cN n):=rfl
def t8(ai:Nat->Fn):Fn:=aO (aJ 2 2 (af (aU (fD (bP (bo (aI .Lt) (vF 1) (bg bD (k1 (vF 0))))) (bP (bo (aI .In) (oI (vF 0) (vF 1)) (cS [42,43,63]))))
  (aA (oI (vF 0) (vF 1)))
  aE)
 (aA (cS [49]))))
theorem w8:cN (n+1) 8=t8 (cN n):=rfl
def t9(ai:Nat->Fn):Fn:=aO (aJ 2 2 (af (aU (bP (oE (vF 0) (cS [46])))
  (aA (bg eV (k3 (cS []) (cF (.bl true)) (vF 1))))
  aE)
 (af (aU (tB (kL AR (vF 0) (k1 (cS [91]))))
  (aA (ao (ai 10) [] (k2 (oW (vF 0) (kG (cI 1)) (kG (du lL (cI 1)))) (vF 1))))
  aE)
 (af (aU (cW (tB (ao (ai 4) [] (k1 (vF 0)))))
  c_
  aE)
 (aA (bg eV (k3 (vF 0) (cF (.bl false)) (vF 1))))))))
theorem w9:cN (n+1) 9=t9 (cN n):=rfl
def t11(ai:Nat->Fn):Fn:=aO (aJ 2 2 (aA (pL (pM (vF 1)) (pL (oE (bg bD (k1 (vF 0))) (cI 1)) (ao (ai 4) [] (k1 (vF 0)))))))
theorem w11:cN (n+1) 11=t11 (cN n):=rfl
def t12(ai:Nat->Fn):Fn:=aO (aJ 1 5 (af (iQ 1 (lM (k1 (AN (tB (oI (vF 0) (cI 0))) (cS [94]) (cS [])))))
 (af (gR (Hy (oI (vF 0) (cI 1))) (e7 [2,3,4])
  (af (gQ 1 (ao (ai 13) [] (k2 (vF 2) (vF 3))))
 (gQ 1 (AN (bP (oE (vF 4) (cS [49]))) (cS []) (vF 4)))))
 (af (gQ 1 (AN (tB (oI (vF 0) (cI 2))) (cS [36]) (cS [])))
 (aA (kL joinM (cS []) (k1 (vF 1))))))))
theorem w12:cN (n+1) 12=t12 (cN n):=rfl
def t13(ai:Nat->Fn):Fn:=aO (aJ 2 2 (af (aU (bP (oE (vF 0) (cS [])))
  (aA (cS [46]))
  aE)
 (af (aU (tB (vF 1))
  (aA bG)
  aE)
 (af (aU (tB (ao (ai 11) [] (k2 (vF 0) (vF 1))))
  (aA (vF 0))
  aE)
 (aA bG)))))
theorem w13:cN (n+1) 13=t13 (cN n):=rfl
def t16(ai:Nat->Fn):Fn:=aO (aJ 1 1 (aA (bo (aI .In) (oI (vF 0) (cI 2)) (bg eV (k2 (cS [42]) (cS [63]))))))
theorem w16:cN (n+1) 16=t16 (cN n):=rfl
def t17(ai:Nat->Fn):Fn:=aO (aJ 1 1 (aA (bo (aI .In) (oI (vF 0) (cI 2)) (bg eV (k2 (cS [42]) (cS [43]))))))
theorem w17:cN (n+1) 17=t17 (cN n):=rfl
def t18(ai:Nat->Fn):Fn:=aO (aJ 3 5 (af (aH 3 (ao (ai 20) [] (k2 (vF 0) (vF 1))))
 (af (gR (ql iz (k2 (vF 2) (bg bD (k1 (vF 3))))) (setG 4)
  (aU (bP (bo (aI .NotEq) (oI (vF 3) (vF 4)) (cI (-1))))
  (aA (bg eV (k2 (vF 4) (oI (vF 3) (vF 4)))))
  aE))
 (aA (cF .non)))))
theorem w18:cN (n+1) 18=t18 (cN n):=rfl
def t19(ai:Nat->Fn):Fn:=aO (aJ 2 2 (aA (bo (aI .IsNot) (ao (ai 18) [(.int (0))] (k2 (vF 0) (vF 1))) (cF .non))))
theorem w19:cN (n+1) 19=t19 (cN n):=rfl
def t20(ai:Nat->Fn):Fn:=aO (aJ 2 4 (af (aH 2 (ao (ai 21) [] (k2 (vF 1) (oI (vF 0) (cI 2)))))
 (af (gR (o1 NX (oI (vF 0) (cI 1))) (setG 3)
  (aH 2 (ao (ai 22) [] (k3 (vF 3) (vF 1) (vF 2)))))
 (aA (AN (tB (oI (vF 0) (cI 0))) (oW (vF 2) wF (kG (cI 1))) (vF 2))))))
theorem w20:cN (n+1) 20=t20 (cN n):=rfl
def t21(ai:Nat->Fn):Fn:=aO (aJ 2 2 (af (aU (tB (vF 1))
  (aA (oA (bo (dC .Mult) (bg jQ (k1 (cI (-1)))) (bg bD (k1 (vF 0)))) (bg jQ (k1 (bg bD (k1 (vF 0)))))))
  aE)
 (aA (cY (o1 A2 (oA (bg bD (k1 (vF 0))) (cI 1)))))))
theorem w21:cN (n+1) 21=t21 (cN n):=rfl
def t22(ai:Nat->Fn):Fn:=aO (aJ 3 9 (af (aH 3 (oI (vF 0) (cI 0)))
 (af (aH 4 (oI (vF 0) (cI 1)))
 (af (aH 5 (ao (ai 17) [] (k1 (vF 0))))
 (af (iQ 6 (Vz (tB (ao (ai 16) [] (k1 (vF 0)))) (o1 XH (vF 2)) (o2 A1 (bg jQ (k1 (cI (-1)))) (bg bD (k1 (vF 2))))))
 (af (gR (ql A3 (k3 (bo (dC .Sub) (bg bD (k1 (vF 1))) (cI 1)) (du lL (cI 1)) (du lL (cI 1)))) (setG 7)
  (aU (bP (bo (aI .NotEq) (bo (aI .In) (oI (vF 1) (vF 7)) (vF 3)) (vF 4)))
  (af (aH 8 (oI (vF 2) (oA (vF 7) (cI 1))))
 (af (aU (fD (tB (vF 5)) (bP (bo (aI .Gt) (jm 6 (oA (vF 7) (cI 1))) (vF 8))))
  (aH 8 (jm 6 (oA (vF 7) (cI 1))))
  aE)
 (aU (bP (bo (aI .Gt) (vF 8) (jm 6 (vF 7))))
  (pS 6 (vF 7) (vF 8))
  aE)))
  aE))
 (aA (vF 6))))))))
theorem w22:cN (n+1) 22=t22 (cN n):=rfl
def t23(ai:Nat->Fn):Fn:=aJ 1 1 (aA (cY (bB (ig 1 (vF 0)) 3 [] (e7 [1,2]) cX (jR 24 (ai 78) (k2 (vF 2) (vF 1))))))
theorem w23:cN (n+1) 23=t23 (cN n):=rfl
def t24(ai:Nat->Fn):Fn:=aJ 2 2 (af (aU (tB (du (fZ M.P.sub [4]) (vF 0)))
  (aA (oE (aC M.P.tab 3 (vF 0)) (aC M.P.tab 3 (vF 1))))
  aE)
 (af (aU (tB (du (fZ M.P.sub [6]) (vF 0)))
  (aA (av (ak [(24,79)] ai) (vF 1) (k1 (aC M.P.tab 4 (vF 0)))))
  aE)
 (aA (cF (.bl true)))))
theorem w24:cN (n+1) 24=t24 (cN n):=rfl
def t25(ai:Nat->Fn):Fn:=aO (aJ 2 2 (aA (pL (du (fZ M.P.sub [4]) (vF 0)) (bo (aI .LtE) (aC M.P.tab 3 (vF 0)) (vF 1)))))
theorem w25:cN (n+1) 25=t25 (cN n):=rfl
def t31(ai:Nat->Fn):Fn:=aO (aJ 1 1 (aA (cY (bB (nz (vF 0)) 2 [] (setG 1) (bP (oE (oI (vF 1) (cI 0)) (cS [103,105,118,101]))) (oI (vF 1) (cI 1))))))
theorem w31:cN (n+1) 31=t31 (cN n):=rfl
def t32(ai:Nat->Fn):Fn:=aO (aJ 1 4 (af (y9 1)
 (af (gR (ig 1 (vF 0)) (e7 [2,3])
  (aU (tB (du (fZ M.P.sub [12]) (aC M.P.tab 2 (vF 3))))
  (pS 1 (aC M.P.tab 9 (aC M.P.tab 2 (vF 3))) (vF 2))
  aE))
 (aA (vF 1)))))
theorem w32:cN (n+1) 32=t32 (cN n):=rfl
def t33(ai:Nat->Fn):Fn:=aO (aJ 2 6 (af (aH 2 (ao (ai 23) [] (k1 (oI (ao (ai 1) [] (k1 (vF 1))) (cI 0)))))
 (af (aH 3 (jR 26 (ai 84) (k1 (vF 0))))
 (af (gR (ig 1 (vF 2)) (e7 [4,5])
  (aL (av (ak [(26,86)] ai) (vF 3) (k2 (vF 5) (oW (vF 2) (kG (vF 4)) wF)))))
 (af (aL (av (ak [(26,91)] ai) (vF 3) bq))
 (aA (bg eV (cA (ao (ai 31) [] (k1 (gX M.bc M.P.tab 29 (vF 3)))) (k3 (gX M.bc M.P.tab 27 (vF 3)) (gX M.bc M.P.tab 28 (vF 3)) (gX M.bc M.P.tab 29 (vF 3)))))))))))
theorem w33:cN (n+1) 33=t33 (cN n):=rfl
def t34(ai:Nat->Fn):Fn:=aO (aJ 2 4 (af (aH 2 (jR 27 (ai 105) (k2 (vF 0) (vF 1))))
 (af (aH 3 (ao (ai 35) [] (k1 (vF 2))))
 (af (aU (sP (bP (bo (aI .NotEq) (aC M.P.tab 31 (vF 2)) (cS []))) (cW (tB (ao (ai 47) [] (k2 (aC M.P.tab 1 (vF 3)) (aC M.P.tab 2 (vF 3)))))))
  (aL (av (ak [(27,106)] ai) (vF 2) bq))
  aE)
 (aA (vF 3))))))
theorem w34:cN (n+1) 34=t34 (cN n):=rfl
def t35(ai:Nat->Fn):Fn:=aJ 1 2 (af (aU (tB (av (ak [(27,107)] ai) (vF 0) (k1 (cS [109,97,114,107,32]))))
  (aA (cD 1 2 (k2 (cD 3 0 bq) (cD 12 1 (k1 (ao (ai 44) [] (k1 (vF 0))))))))
  aE)
 (af (aU (cW (tB (bg wM (k1 (cY (bB (nz (cF (.tup [(.str [114,111,119,32]),(.str [108,97,115,116]),(.str [47]),(.str [115,111,111,110,32]),(.str [102,114,111,109,32]),(.str [110,111,116,32]),(.str [101,110,100])]))) 2 [0] (setG 1) cX (kL AR (aC M.P.tab 31 (vF 2)) (k1 (vF 1)))))))))
  (aA (cD 1 2 (k2 (cD 3 0 bq) (ao (ai 39) [] (k1 (vF 0))))))
  aE)
 (af (aH 1 (ao (ai 36) [] (k1 (vF 0))))
 (af (aL (av (ak [(27,108)] ai) (vF 0) (k1 (cS [58,32]))))
 (aA (cD 1 2 (k2 (vF 1) (ao (ai 39) [] (k1 (vF 0))))))))))
theorem w35:cN (n+1) 35=t35 (cN n):=rfl
def t36(ai:Nat->Fn):Fn:=aJ 1 1 (af (aU (tB (av (ak [(27,107)] ai) (vF 0) (k1 (cS [101,110,100]))))
  (aA (cD 10 0 bq))
  aE)
 (af (aU (tB (av (ak [(27,107)] ai) (vF 0) (k1 (cS [110,111,116,32]))))
  (aA (cD 9 1 (k1 (ao (ai 37) [] (k1 (vF 0))))))
  aE)
 (aA (ao (ai 37) [] (k1 (vF 0))))))
theorem w36:cN (n+1) 36=t36 (cN n):=rfl
def t37(ai:Nat->Fn):Fn:=aJ 1 3 (af (aU (tB (av (ak [(27,107)] ai) (vF 0) (k1 (cS [108,97,115,116]))))
  (aA (cD 5 0 bq))
  aE)
 (af (aU (tB (av (ak [(27,107)] ai) (vF 0) (k1 (cS [115,111,111,110,32]))))
  (af (aH 1 (ao (ai 43) [] (k3 (vF 0) (cI 1) (cI 3))))
 (af (aL (av (ak [(27,108)] ai) (vF 0) (k1 (cS [32]))))
 (aA (cD 7 2 (k2 (vF 1) (ao (ai 46) [] (k1 (vF 0))))))))
  aE)
 (af (aU (tB (av (ak [(27,107)] ai) (vF 0) (k1 (cS [102,114,111,109,32]))))
  (af (aH 2 (ao (ai 38) [] (k1 (vF 0))))
 (af (aL (av (ak [(27,108)] ai) (vF 0) (k1 (cS [32,116,111,32]))))
 (aA (cD 8 2 (k2 (vF 2) (ao (ai 38) [] (k1 (vF 0))))))))
  aE)
 (aA (ao (ai 38) [] (k1 (vF 0)))))))
theorem w37:cN (n+1) 37=t37 (cN n):=rfl
def t38(ai:Nat->Fn):Fn:=aJ 1 1 (af (aU (tB (av (ak [(27,107)] ai) (vF 0) (k1 (cS [114,111,119,32]))))
  (aA (cD 4 1 (k1 (ao (ai 43) [] (k3 (vF 0) (cI 1) (cI 999))))))
  aE)
 (aA (cD 6 1 (k1 (ao (ai 46) [] (k1 (vF 0)))))))
theorem w38:cN (n+1) 38=t38 (cN n):=rfl
def t39(ai:Nat->Fn):Fn:=aJ 1 1 (af (aU (tB (av (ak [(27,107)] ai) (vF 0) (k1 (cS [100,114,111,112]))))
  (aA (cD 13 0 bq))
  aE)
 (af (aU (tB (av (ak [(27,107)] ai) (vF 0) (k1 (cS [112,114,105,110,116]))))
  (aA (cD 14 0 bq))
  aE)
 (af (aU (tB (av (ak [(27,107)] ai) (vF 0) (k1 (cS [100,111,110,101]))))
  (aA (cD 15 0 bq))
  aE)
 (af (aU (tB (av (ak [(27,107)] ai) (vF 0) (k1 (cS [116,101,108,108]))))
  (aA (cD 23 0 bq))
  aE)
 (af (aU (tB (av (ak [(27,107)] ai) (vF 0) (k1 (cS [115,97,121,32]))))
  (aA (cD 16 1 (k1 (ao (ai 45) [] (k1 (vF 0))))))
  aE)
 (af (aU (tB (av (ak [(27,107)] ai) (vF 0) (k1 (cS [115,119,97,112,32,101,118,101,114,121,32]))))
  (aA (ao (ai 40) [] (k2 (vF 0) (cF (.bl true)))))
  aE)
 (af (aU (tB (av (ak [(27,107)] ai) (vF 0) (k1 (cS [115,119,97,112,32]))))
  (aA (ao (ai 40) [] (k2 (vF 0) (cF (.bl false)))))
  aE)
 (af (aU (tB (av (ak [(27,107)] ai) (vF 0) (k1 (cS [106,111,105,110,32]))))
  (aA (cD 18 1 (k1 (ao (ai 43) [] (k3 (vF 0) (cI 2) (cI 9))))))
  aE)
 (af (aU (tB (av (ak [(27,107)] ai) (vF 0) (k1 (cS [112,105,108,101,32]))))
  (aA (ao (ai 41) [] (k1 (vF 0))))
  aE)
 (af (aU (tB (av (ak [(27,107)] ai) (vF 0) (k1 (cS [98,114,105,110,103,32]))))
  (aA (cD 20 1 (k1 (ao (ai 44) [] (k1 (vF 0))))))
  aE)
 (af (aU (tB (av (ak [(27,107)] ai) (vF 0) (k1 (cS [103,111,32]))))
  (aA (cD 21 1 (k1 (ao (ai 44) [] (k1 (vF 0))))))
  aE)
 (af (aL (av (ak [(27,108)] ai) (vF 0) (k1 (cS [97,100,100,32]))))
 (aA (ao (ai 42) [] (k1 (vF 0))))))))))))))))
theorem w39:cN (n+1) 39=t39 (cN n):=rfl
def t43(ai:Nat->Fn):Fn:=aJ 3 5 (af (aH 3 (av (ak [(27,109)] ai) (vF 0) (k1 (cS [48,49,50,51,52,53,54,55,56,57]))))
 (af (aU (sP (bP (oE (vF 3) (cS []))) (sP (tB (kL AR (vF 3) (k1 (cS [48])))) (bP (bo (aI .Gt) (bg bD (k1 (vF 3))) (cI 3)))))
  (aL (av (ak [(27,106)] ai) (vF 0) bq))
  aE)
 (af (aH 4 (bg lN (k1 (vF 3))))
 (af (aU (sP (bP (bo (aI .Lt) (vF 4) (vF 1))) (bP (bo (aI .Gt) (vF 4) (vF 2))))
  (aL (av (ak [(27,106)] ai) (vF 0) bq))
  aE)
 (aA (vF 4))))))
theorem w43:cN (n+1) 43=t43 (cN n):=rfl
def t45(ai:Nat->Fn):Fn:=aJ 1 2 (af (aH 1 (av (ak [(27,110)] ai) (vF 0) (k1 (cS [34]))))
 (af (aU (sP (bP (bo (aI .Gt) (bg bD (k1 (vF 1))) (cI 40))) (cW (tB (ao (ai 2) [] (k2 (vF 1) (cS EH))))))
  (aL (av (ak [(27,106)] ai) (vF 0) bq))
  aE)
 (aA (vF 1))))
theorem w45:cN (n+1) 45=t45 (cN n):=rfl
def t46(ai:Nat->Fn):Fn:=aJ 1 2 (af (aH 1 (av (ak [(27,110)] ai) (vF 0) (k1 (cS [47]))))
 (aA (ao (ai 5) [] (k1 (vF 1)))))
theorem w46:cN (n+1) 46=t46 (cN n):=rfl
def t47(ai:Nat->Fn):Fn:=aO (aJ 2 2 (af (aU (tB (du (fZ M.P.sub [10]) (vF 0)))
  (aA (du (fZ M.P.sub [16,20,23]) (vF 1)))
  aE)
 (af (aU (tB (du (fZ M.P.sub [17]) (vF 1)))
  (aA (ao (ai 48) [] (k1 (vF 1))))
  aE)
 (aA (pM (du (fZ M.P.sub [23]) (vF 1)))))))
theorem w47:cN (n+1) 47=t47 (cN n):=rfl
def t49(ai:Nat->Fn):Fn:=aO (aJ 1 3 (af (aH 1 (ao (ai 50) [] (k1 (oI (ao (ai 1) [] (k1 (vF 0))) (cI 0)))))
 (af (aH 2 (ao (ai 51) [] (k1 (vF 1))))
 (af (aL (ao (ai 52) [] (k2 (vF 1) (vF 2))))
 (aA (du (AO 0) (vF 1)))))))
theorem w49:cN (n+1) 49=t49 (cN n):=rfl
def t50(ai:Nat->Fn):Fn:=aO (aJ 1 4 (af (iQ 1 (lM bq))
 (af (gR (ig 1 (vF 0)) (e7 [2,3])
  (af (aU (bP (bo (aI .Gt) (vF 2) (cI 24)))
  c_
  aE)
 (gQ 1 (ao (ai 34) [] (k2 (vF 3) (vF 2))))))
 (aA (vF 1)))))
theorem w50:cN (n+1) 50=t50 (cN n):=rfl
def t51(ai:Nat->Fn):Fn:=aO (aJ 1 4 (af (y9 1)
 (af (gR (ig 1 (vF 0)) (e7 [2,3])
  (aU (tB (du (fZ M.P.sub [12]) (aC M.P.tab 2 (vF 3))))
  (af (aU (bP (PX .In false 1 (aC M.P.tab 9 (aC M.P.tab 2 (vF 3)))))
  c_
  aE)
 (pS 1 (aC M.P.tab 9 (aC M.P.tab 2 (vF 3))) (cF (.bl true))))
  aE))
 (aA (vF 1)))))
theorem w51:cN (n+1) 51=t51 (cN n):=rfl
def t52(ai:Nat->Fn):Fn:=aO (aJ 2 4 (gR (ig 1 (vF 0)) (e7 [2,3])
  (aU (fD (tB (du (fZ M.P.sub [21]) (aC M.P.tab 2 (vF 3)))) (bP (bo (aI .NotIn) (aC M.P.tab 9 (aC M.P.tab 2 (vF 3))) (vF 1))))
  c_
  aE)))
theorem w52:cN (n+1) 52=t52 (cN n):=rfl
def t53(ai:Nat->Fn):Fn:=aO (aJ 2 2 (af (aU (bP (bo (aI .Lt) (vF 1) (bg bD (k1 (vF 0)))))
  (aA (oI (vF 0) (vF 1)))
  aE)
 (aA (cI 0))))
theorem w53:cN (n+1) 53=t53 (cN n):=rfl
def t54(ai:Nat->Fn):Fn:=aO (aJ 1 3 (af (aH 1 (bg jQ (k3 (cS Uj) (cS Uk) (cS Ul))))
 (af (aH 2 (oM (bo (dC .Mult) (vF 0) (cI 16807)) (cI 1000003)))
 (aA (bg jQ (k3 (oI (oI (vF 1) (cI 0)) (oM (vF 2) (cI 24))) (oI (oI (vF 1) (cI 1)) (oM (oD (vF 2) (cI 24)) (cI 27))) (oI (oI (vF 1) (cI 2)) (oM (oD (vF 2) (cI 648)) (cI 33)))))))))
theorem w54:cN (n+1) 54=t54 (cN n):=rfl
def t55(ai:Nat->Fn):Fn:=aO (aJ 2 5 (af (aH 2 (cS []))
 (af (aH 3 (oM (bo (dC .Mult) (vF 0) (cI 40693)) (cI 65537)))
 (af (gR (ql iz (k1 (oM (vF 0) (cI 5)))) (setG 4)
  (af (aH 2 (oA (vF 2) (oI (vF 1) (oM (vF 3) (cI 3)))))
 (aH 3 (oM (oA (oA (bo (dC .Mult) (vF 3) (cI 48271)) (bo (dC .Mult) (vF 4) (vF 4))) (cI 5)) (cI 65537)))))
 (aA (vF 2))))))
theorem w55:cN (n+1) 55=t55 (cN n):=rfl
def t56(ai:Nat->Fn):Fn:=aO (aJ 2 3 (af (aU (bP (oE (oM (vF 0) (cI 3)) (cI 0)))
  (aA (bg eV (k2 (cS [114,111,119]) (oA (cI 1) (oM (oD (vF 0) (cI 3)) (cI 12))))))
  aE)
 (af (aH 2 (kL joinM (cS []) (k1 (cY (bB (ql iz (k1 (oM (oD (vF 0) (cI 3)) (cI 4)))) 2 [0,1] (setG 1) cX (oI (vF 3) (oM (oD (vF 2) (oA (bo (dC .Mult) (bo (dC .Mult) (cI 9) (vF 1)) (vF 1)) (cI 9))) (cI 3))))))))
 (aA (bg eV (cA (cS [108,105,107,101]) (k3 (oE (oM (oD (vF 0) (cI 50)) (cI 4)) (cI 1)) (vF 2) (oE (oM (oD (vF 0) (cI 200)) (cI 4)) (cI 1)))))))))
theorem w56:cN (n+1) 56=t56 (cN n):=rfl
def t57(ai:Nat->Fn):Fn:=aO (aJ 1 1 (af (aU (bP (oE (oI (vF 0) (cI 0)) (cS [114,111,119])))
  (aA (oA (cS [114,111,119,32]) (bg strN (k1 (oI (vF 0) (cI 1))))))
  aE)
 (aA (oA (oA (oA (oA (cS [47]) (bo (dC .Mult) (cS [94]) (bg lN (k1 (oI (vF 0) (cI 1)))))) (oI (vF 0) (cI 2))) (bo (dC .Mult) (cS [36]) (bg lN (k1 (oI (vF 0) (cI 3)))))) (cS [47])))))
theorem w57:cN (n+1) 57=t57 (cN n):=rfl
def t58(ai:Nat->Fn):Fn:=aO (aJ 1 1 (af (aU (bP (oE (oI (vF 0) (cI 0)) (cS [114,111,119])))
  (aA (cD 4 1 (k1 (oI (vF 0) (cI 1)))))
  aE)
 (aA (cD 6 1 (k1 (ao (ai 5) [] (k1 (oA (oA (bo (dC .Mult) (cS [94]) (bg lN (k1 (oI (vF 0) (cI 1))))) (oI (vF 0) (cI 2))) (bo (dC .Mult) (cS [36]) (bg lN (k1 (oI (vF 0) (cI 3)))))))))))))
theorem w58:cN (n+1) 58=t58 (cN n):=rfl
def t59(ai:Nat->Fn):Fn:=aO (aJ 4 5 (af (aH 4 (cD 8 2 (k2 (ao (ai 58) [] (k1 (vF 0))) (ao (ai 58) [] (k1 (vF 1))))))
 (af (aU (tB (vF 2))
  (aH 4 (cD 9 1 (k1 (vF 4))))
  aE)
 (aA (cD 1 2 (k2 (vF 4) (cD 16 1 (k1 (oA (cS [108,105,110,101,32]) (bg strN (k1 (vF 3))))))))))))
theorem w59:cN (n+1) 59=t59 (cN n):=rfl
def t60(ai:Nat->Fn):Fn:=aO (aJ 3 4 (af (aU (bP (oE (oI (vF 0) (cI 0)) (cS [114,111,119])))
  (aA (oE (oA (vF 2) (cI 1)) (oI (vF 0) (cI 1))))
  aE)
 (af (aH 3 (oI (vF 1) (vF 2)))
 (af (aU (fD (tB (oI (vF 0) (cI 1))) (tB (oI (vF 0) (cI 3))))
  (aA (oE (vF 3) (oI (vF 0) (cI 2))))
  aE)
 (af (aU (tB (oI (vF 0) (cI 1)))
  (aA (kL AR (vF 3) (k1 (oI (vF 0) (cI 2)))))
  aE)
 (af (aU (tB (oI (vF 0) (cI 3)))
  (aA (kL Vt (vF 3) (k1 (oI (vF 0) (cI 2)))))
  aE)
 (aA (bo (aI .In) (oI (vF 0) (cI 2)) (vF 3)))))))))
theorem w60:cN (n+1) 60=t60 (cN n):=rfl
def t61(ai:Nat->Fn):Fn:=aO (aJ 3 5 (af (iQ 3 (o2 A1 (bg jQ (k1 (cF (.bl false)))) (bg bD (k1 (vF 2)))))
 (af (aH 4 (cI 0))
 (af (eW many (bP (bo (aI .Lt) (vF 4) (bg bD (k1 (vF 2)))))
  (af (pS 3 (vF 4) (ao (ai 60) [] (k3 (vF 0) (vF 2) (vF 4))))
 (af (aU (fD (tB (jm 3 (vF 4))) (sP (bP (bo (aI .NotEq) (oI (vF 1) (cI 0)) (cS [114,111,119]))) (bP (bo (aI .Gt) (oI (vF 1) (cI 1)) (oA (vF 4) (cI 1))))))
  (af (aH 4 (oA (vF 4) (cI 1)))
 (af (eW many (fD (bP (bo (aI .Lt) (vF 4) (bg bD (k1 (vF 2))))) (cW (tB (ao (ai 60) [] (k3 (vF 1) (vF 2) (vF 4))))))
  (af (pS 3 (vF 4) (cF (.bl true)))
 (aH 4 (oA (vF 4) (cI 1)))))
 (aU (bP (bo (aI .Lt) (vF 4) (bg bD (k1 (vF 2)))))
  (pS 3 (vF 4) (cF (.bl true)))
  aE)))
  aE)
 (aH 4 (oA (vF 4) (cI 1))))))
 (aA (vF 3))))))
theorem w61:cN (n+1) 61=t61 (cN n):=rfl
def t62(ai:Nat->Fn):Fn:=aO (aJ 1 17 (af (aH 1 (ao (ai 53) [] (k2 (vF 0) (cI 0))))
 (af (aH 2 (ao (ai 54) [] (k1 (oD (vF 1) (cI 30)))))
 (af (aH 3 (cY (bB (nz (oW (vF 0) (kG (cI 6)) (kG (cI 30)))) 2 [2] (setG 1) cX (ao (ai 55) [] (k2 (vF 1) (vF 2))))))
 (af (aH 4 (cS []))
 (af (iQ 5 (lM bq))
 (af (aH 6 (bo (dC .Mult) (bg jQ (k1 (cF (.bl false)))) (bg bD (k1 (vF 3)))))
 (af (aU (bP (oE (oM (oD (vF 1) (cI 5)) (cI 3)) (cI 1)))
  (af (aH 13 (bg eV (cA (cS [108,105,107,101]) (k3 (cF (.bl false)) (oI (vF 2) (cI 0)) (cF (.bl false))))))
 (af (aH 4 (oA (ao (ai 57) [] (k1 (vF 13))) (cS [58,32,100,114,111,112,10])))
 (af (gQ 5 (cD 1 2 (k2 (ao (ai 58) [] (k1 (vF 13))) (cD 13 0 bq))))
 (aH 6 (cY (bB (ql iz (k1 (bg bD (k1 (vF 3))))) 2 [13,3] (setG 1) cX (ao (ai 60) [] (k3 (vF 2) (vF 3) (vF 1)))))))))
  aE)
 (af (iQ 7 (lM bq))
 (af (gR (nz (oW (vF 0) (kG (cI 1)) (kG (oA (cI 1) (oM (vF 1) (cI 5)))))) (setG 8)
  (af (aH 14 (ao (ai 56) [] (k2 (oM (bo (dC .Mult) (vF 8) (cI 69623)) (cI 1000003)) (vF 2))))
 (af (aH 15 (ao (ai 56) [] (k2 (oM (bo (dC .Pow) (oM (bo (dC .Mult) (vF 8) (cI 39373)) (cI 999983)) (cI 2)) (cI 999979)) (vF 2))))
 (af (aH 16 (oE (oM (vF 8) (cI 4)) (cI 3)))
 (af (aH 4 (oA (oA (oA (oA (oA (vF 4) (oI (bg jQ (k2 (cS []) (cS [110,111,116,32]))) (bg lN (k1 (vF 16))))) (cS [102,114,111,109,32])) (ao (ai 57) [] (k1 (vF 14)))) (cS [32,116,111,32])) (ao (ai 57) [] (k1 (vF 15)))))
 (af (aH 4 (oA (oA (oA (vF 4) (cS [58,32,115,97,121,32,34,108,105,110,101,32])) (bg strN (k1 (lQ 7)))) (cS [34,10])))
 (af (gQ 5 (ao (ai 59) [] (cA (vF 14) (k3 (vF 15) (vF 16) (lQ 7)))))
 (gQ 7 (cY (bB (nz (ao (ai 61) [] (k3 (vF 14) (vF 15) (vF 3)))) 2 [16] (setG 1) cX (bo (aI .NotEq) (vF 1) (vF 2))))))))))))
 (af (aH 9 (bg jQ bq))
 (af (gR (ql iz (k1 (bg bD (k1 (vF 3))))) (setG 10)
  (aU (cW (tB (oI (vF 6) (vF 10))))
  (aH 9 (oA (oA (vF 9) (cY (bB (ql iz (k1 (lQ 7))) 2 [10,7] (setG 1) (tB (oI (oI (vF 3) (vF 1)) (vF 2))) (oA (cS [108,105,110,101,32]) (bg strN (k1 (vF 1))))))) (bg jQ (k1 (oI (vF 3) (vF 10))))))
  aE))
 (af (aH 11 (ao (ai 33) [] (k2 (ao (ai 49) [] (k1 (vF 4))) (kL joinM (cS []) (k1 (cY (bB (nz (vF 3)) 2 [] (setG 1) cX (oA (vF 1) (cS [10])))))))))
 (af (aU (bP (bo (aI .NotEq) (ao (ai 33) [] (k2 (du (AO 0) (vF 5)) (kL joinM (cS []) (k1 (cY (bB (nz (vF 3)) 2 [] (setG 1) cX (oA (vF 1) (cS [10])))))))) (vF 11)))
  (aA (cF (.bl false)))
  aE)
 (af (aU (sP (cW (tB (du (Nf "tuple") (vF 11)))) (sP (bP (bo (aI .NotEq) (bg bD (k1 (vF 11))) (cI 4))) (cW (tB (du (Nf "list") (oI (vF 11) (cI 3)))))))
  (aA (cF (.bl false)))
  aE)
 (af (aH 12 (cY (bB (nz (oI (vF 11) (cI 3))) 2 [] (setG 1) (bP (oE (oI (vF 1) (cI 0)) (cS [116,97,107,101]))) (vF 1))))
 (aA (pL (du (Nf "list") (oI (vF 11) (cI 0))) (pL (oE (oI (vF 11) (cI 0)) (vF 9)) (oE (vF 12) (cY (bB (ql iz (k1 (bg bD (k1 (vF 3))))) 2 [] (setG 1) cX (bg eV (k2 (cS [116,97,107,101]) (oA (vF 1) (cI 1))))))))))))))))))))))))))
theorem w62:cN (n+1) 62=t62 (cN n):=rfl
def t78(ai:Nat->Fn):Fn:=aJ 3 3 (af (aM M.P.tab 14 (vF 0) (vF 1))
 (af (aM M.P.tab 3 (vF 0) (vF 2))
 (aM M.P.tab 15 (vF 0) (lP M.bc))))
theorem w78:cN (n+1) 78=t78 (cN n):=rfl
def t79(ai:Nat->Fn):Fn:=aJ 2 3 (af (aH 2 (ao (ai 12) [] (k1 (vF 1))))
 (af (aU (bP (rX M.bc true (vF 2) (aC M.P.tab 15 (vF 0))))
  (pR M.bc (aC M.P.tab 15 (vF 0)) (vF 2) (ao (ai 19) [] (k2 (vF 1) (aC M.P.tab 14 (vF 0)))))
  aE)
 (aA (D0 M.bc (aC M.P.tab 15 (vF 0)) (vF 2)))))
theorem w79:cN (n+1) 79=t79 (cN n):=rfl
def t80(ai:Nat->Fn):Fn:=aJ 2 2 (af (aM M.P.tab 16 (vF 0) (cY (bB (nz (vF 1)) 2 [] (setG 1) cX (aC M.P.tab 1 (vF 1)))))
 (aM M.P.tab 17 (vF 0) (lP M.bc)))
theorem w80:cN (n+1) 80=t80 (cN n):=rfl
def t81(ai:Nat->Fn):Fn:=aJ 3 6 (af (iQ 3 (lM bq))
 (af (gR (ig 0 (aC M.P.tab 16 (vF 0))) (e7 [4,5])
  (gQ 3 (av (ak [(25,82)] ai) (vF 0) (cA (vF 4) (k3 (vF 5) (vF 1) (vF 2))))))
 (aA (vF 3))))
theorem w81:cN (n+1) 81=t81 (cN n):=rfl
def t82(ai:Nat->Fn):Fn:=aJ 5 5 (af (aU (tB (du (fZ M.P.sub [9]) (vF 2)))
  (aA (pM (av (ak [(25,82)] ai) (vF 0) (cA (vF 1) (k3 (aC M.P.tab 8 (vF 2)) (vF 3) (vF 4))))))
  aE)
 (af (aU (tB (du (fZ M.P.sub [8]) (vF 2)))
  (aA (av (ak [(25,83)] ai) (vF 0) (k3 (vF 1) (vF 2) (vF 3))))
  aE)
 (af (aU (tB (du (fZ M.P.sub [5]) (vF 2)))
  (aA (oE (bg bD (k1 (vF 4))) (cI 0)))
  aE)
 (af (aU (tB (du (fZ M.P.sub [7]) (vF 2)))
  (aA (bg wM (k1 (cY (bB (nz (oW (vF 4) wF (kG (aC M.P.tab 5 (vF 2))))) 2 [2] (setG 1) cX (av (ak [(24,79)] ai) (vF 1) (k1 (aC M.P.tab 4 (vF 2)))))))))
  aE)
 (aA (ao (ai 24) [] (k2 (vF 2) (vF 3))))))))
theorem Yd:cN (n+1) 82=t82 (cN n):=rfl
def t83(ai:Nat->Fn):Fn:=aJ 4 4 (af (aU (tB (AZ M.bc (aC M.P.tab 17 (vF 0)) (vF 1) (cF (.bl false))))
  (af (pR M.bc (aC M.P.tab 17 (vF 0)) (vF 1) (pM (ao (ai 24) [] (k2 (aC M.P.tab 7 (vF 2)) (vF 3)))))
 (aA (cF (.bl true))))
  aE)
 (af (aU (cW (tB (ao (ai 24) [] (k2 (aC M.P.tab 6 (vF 2)) (vF 3)))))
  (aA (cF (.bl false)))
  aE)
 (af (pR M.bc (aC M.P.tab 17 (vF 0)) (vF 1) (pM (ao (ai 25) [] (k2 (aC M.P.tab 7 (vF 2)) (aC M.P.tab 3 (vF 3))))))
 (aA (cF (.bl true))))))
theorem w83:cN (n+1) 83=t83 (cN n):=rfl
def t84(ai:Nat->Fn):Fn:=aJ 2 2 (af (aM M.P.tab 0 (vF 0) (bg DH (k1 (aC M.P.tab 0 (vF 1)))))
 (af (aM M.P.tab 18 (vF 0) (ao (ai 32) [] (k1 (aC M.P.tab 0 (vF 0)))))
 (af (aM M.P.tab 19 (vF 0) (jR 25 (ai 80) (k1 (aC M.P.tab 0 (vF 0)))))
 (af (aM M.P.tab 20 (vF 0) (bg jQ bq))
 (af (aM M.P.tab 21 (vF 0) (cI 0))
 (af (aM M.P.tab 22 (vF 0) (lP M.bc))
 (af (aM M.P.tab 23 (vF 0) (cI 0))
 (af (aM M.P.tab 24 (vF 0) (cF .non))
 (af (aM M.P.tab 25 (vF 0) (cI 0))
 (af (aM M.P.tab 26 (vF 0) (lP M.bc))
 (af (aM M.P.tab 27 (vF 0) (lP M.bc))
 (af (aM M.P.tab 28 (vF 0) (uq M.bc (lM bq)))
 (af (aM M.P.tab 29 (vF 0) (uq M.bc (lM bq)))
 (af (aM M.P.tab 30 (vF 0) (cF (.bl false)))
 (aL (av (ak [(26,85)] ai) (vF 0) bq))))))))))))))))
theorem w84:cN (n+1) 84=t84 (cN n):=rfl
def t85(ai:Nat->Fn):Fn:=aJ 1 1 (af (il M.bc (aC M.P.tab 29 (vF 0)) (bg eV (k2 (cS [119,97,110,116]) (oA (aC M.P.tab 23 (vF 0)) (cI 1)))))
 (aM M.P.tab 30 (vF 0) (cF (.bl true))))
theorem w85:cN (n+1) 85=t85 (cN n):=rfl
def t86(ai:Nat->Fn):Fn:=aJ 3 3 (aL (av (ak [(26,87)] ai) (vF 0) (k2 (aC M.P.tab 14 (vF 1)) (av (ak [(25,81)] ai) (aC M.P.tab 19 (vF 0)) (k2 (vF 1) (vF 2))))))
theorem w86:cN (n+1) 86=t86 (cN n):=rfl
def t87(ai:Nat->Fn):Fn:=aJ 3 3 (af (uO M.P.tab 23 ik (vF 0) (cI 1))
 (af (il M.bc (aC M.P.tab 29 (vF 0)) (bg eV (k2 (cS [116,97,107,101]) (aC M.P.tab 23 (vF 0)))))
 (af (aM M.P.tab 24 (vF 0) (AN (bP (bo (aI .Is) (aC M.P.tab 24 (vF 0)) (cF .non))) (vF 1) (oA (oA (aC M.P.tab 24 (vF 0)) (cS [32])) (vF 1))))
 (af (uO M.P.tab 25 ik (vF 0) (cI 1))
 (af (aM M.P.tab 20 (vF 0) (vF 2))
 (af (aM M.P.tab 22 (vF 0) (lP M.bc))
 (af (aM M.P.tab 30 (vF 0) (cF (.bl false)))
 (eW many (cW (tB (aC M.P.tab 30 (vF 0))))
  (aL (av (ak [(26,88)] ai) (vF 0) bq))))))))))
theorem w87:cN (n+1) 87=t87 (cN n):=rfl
def t88(ai:Nat->Fn):Fn:=aJ 1 1 (aU (bP (oE (aC M.P.tab 21 (vF 0)) (bg bD (k1 (aC M.P.tab 0 (vF 0))))))
  (aL (av (ak [(26,95)] ai) (vF 0) bq))
  (af (uO M.P.tab 21 ik (vF 0) (cI 1))
 (aL (av (ak [(26,89)] ai) (vF 0) (k2 (bo vQ (aC M.P.tab 0 (vF 0)) (bo (dC .Sub) (aC M.P.tab 21 (vF 0)) (cI 1))) (aC M.P.tab 21 (vF 0)))))))
theorem w88:cN (n+1) 88=t88 (cN n):=rfl
def t89(ai:Nat->Fn):Fn:=aJ 3 4 (af (aU (tB (du (fZ M.P.sub [10]) (aC M.P.tab 1 (vF 1))))
  (aA (cF .non))
  aE)
 (af (aU (bP (rX M.bc false (vF 2) (aC M.P.tab 22 (vF 0))))
  c_
  aE)
 (af (pR M.bc (aC M.P.tab 22 (vF 0)) (vF 2) (cF (.bl true)))
 (af (aH 3 (bo vQ (aC M.P.tab 20 (vF 0)) (bo (dC .Sub) (vF 2) (cI 1))))
 (af (il M.bc (aC M.P.tab 29 (vF 0)) (bg eV (k3 (cS [109,101,101,116]) (vF 2) (vF 3))))
 (aU (tB (vF 3))
  (aL (av (ak [(26,96)] ai) (vF 0) (k2 (aC M.P.tab 2 (vF 1)) (vF 2))))
  aE))))))
theorem w89:cN (n+1) 89=t89 (cN n):=rfl
def t91(ai:Nat->Fn):Fn:=aJ 1 2 (af (aL (av (ak [(26,92)] ai) (vF 0) bq))
 (af (aU (bP (bo (aI .IsNot) (aC M.P.tab 24 (vF 0)) (cF .non)))
  (af (aL (av (ak [(26,95)] ai) (vF 0) bq))
 (aL (av (ak [(26,92)] ai) (vF 0) bq)))
  aE)
 (af (il M.bc (aC M.P.tab 29 (vF 0)) (bg eV (k1 (cS [101,110,100]))))
 (gR (nz (aC M.P.tab 0 (vF 0))) (setG 1)
  (aU (tB (du (fZ M.P.sub [10]) (aC M.P.tab 1 (vF 1))))
  (aL (av (ak [(26,97)] ai) (vF 0) (k1 (aC M.P.tab 2 (vF 1)))))
  aE)))))
theorem w91:cN (n+1) 91=t91 (cN n):=rfl
def t92(ai:Nat->Fn):Fn:=aJ 1 1 (il M.bc (aC M.P.tab 29 (vF 0)) (bg eV (k2 (cS [110,111,110,101]) (oA (aC M.P.tab 23 (vF 0)) (cI 1)))))
theorem w92:cN (n+1) 92=t92 (cN n):=rfl
def t93(ai:Nat->Fn):Fn:=aJ 2 2 (il M.bc (aC M.P.tab 29 (vF 0)) (bg eV (k2 (cS [103,105,118,101]) (vF 1))))
theorem w93:cN (n+1) 93=t93 (cN n):=rfl
def t94(ai:Nat->Fn):Fn:=aJ 1 1 (af (il M.bc (aC M.P.tab 29 (vF 0)) (bg eV (k1 (cS [111,118,101,114]))))
 (af (aM M.P.tab 24 (vF 0) (cF .non))
 (af (aM M.P.tab 25 (vF 0) (cI 0))
 (af (aM M.P.tab 21 (vF 0) (cI 0))
 (aL (av (ak [(26,85)] ai) (vF 0) bq))))))
theorem w94:cN (n+1) 94=t94 (cN n):=rfl
def t95(ai:Nat->Fn):Fn:=aJ 1 1 (af (aL (av (ak [(26,93)] ai) (vF 0) (k1 (aC M.P.tab 24 (vF 0)))))
 (aL (av (ak [(26,94)] ai) (vF 0) bq)))
theorem w95:cN (n+1) 95=t95 (cN n):=rfl
def t96(ai:Nat->Fn):Fn:=aJ 3 3 (aU (tB (du (fZ M.P.sub [13]) (vF 1)))
  (aL (av (ak [(26,94)] ai) (vF 0) bq))
  (aU (tB (du (fZ M.P.sub [14]) (vF 1)))
  (aL (av (ak [(26,93)] ai) (vF 0) (k1 (aC M.P.tab 24 (vF 0)))))
  (aU (tB (du (fZ M.P.sub [15]) (vF 1)))
  (aL (av (ak [(26,95)] ai) (vF 0) bq))
  (aU (tB (du (fZ M.P.sub [17]) (vF 1)))
  (aL (av (ak [(26,98)] ai) (vF 0) (k1 (vF 1))))
  (aU (tB (du (fZ M.P.sub [18]) (vF 1)))
  (aL (av (ak [(26,99)] ai) (vF 0) (k1 (vF 1))))
  (aU (tB (du (fZ M.P.sub [19]) (vF 1)))
  (aL (av (ak [(26,100)] ai) (vF 0) (k1 (vF 1))))
  (aU (tB (du (fZ M.P.sub [21]) (vF 1)))
  (aM M.P.tab 21 (vF 0) (bo vQ (aC M.P.tab 18 (vF 0)) (aC M.P.tab 9 (vF 1))))
  (aU (tB (du (fZ M.P.sub [22]) (vF 1)))
  (aL (av (ak [(26,103)] ai) (vF 0) (k2 (vF 1) (vF 2))))
  (aU (cW (tB (du (fZ M.P.sub [12]) (vF 1))))
  (aL (av (ak [(26,97)] ai) (vF 0) (k1 (vF 1))))
  aE)))))))))
theorem w96:cN (n+1) 96=t96 (cN n):=rfl
def t97(ai:Nat->Fn):Fn:=aJ 2 2 (aU (tB (du (fZ M.P.sub [16]) (vF 1)))
  (aL (av (ak [(26,93)] ai) (vF 0) (k1 (aC M.P.tab 10 (vF 1)))))
  (aU (tB (du (fZ M.P.sub [20]) (vF 1)))
  (aL (av (ak [(26,101)] ai) (vF 0) (k1 (vF 1))))
  (aU (tB (du (fZ M.P.sub [23]) (vF 1)))
  (aL (av (ak [(26,104)] ai) (vF 0) bq))
  aE)))
theorem w97:cN (n+1) 97=t97 (cN n):=rfl
def Ye(ai:Nat->Fn):Fn:=aJ 3 3 (af (aM M.P.tab 31 (vF 0) (vF 1))
 (aM M.P.tab 3 (vF 0) (vF 2)))
theorem Yg:cN (n+1) 105=Ye (cN n):=rfl
def Yh(ai:Nat->Fn):Fn:=aJ 2 2 (af (aU (cW (tB (kL AR (aC M.P.tab 31 (vF 0)) (k1 (vF 1)))))
  (aA (cF (.bl false)))
  aE)
 (af (aM M.P.tab 31 (vF 0) (oW (aC M.P.tab 31 (vF 0)) (kG (bg bD (k1 (vF 1)))) wF))
 (aA (cF (.bl true)))))
theorem Um:cN (n+1) 107=Yh (cN n):=rfl
def Yi(ai:Nat->Fn):Fn:=aJ 2 2 (aU (cW (tB (av (ak [(27,107)] ai) (vF 0) (k1 (vF 1)))))
  (aL (av (ak [(27,106)] ai) (vF 0) bq))
  aE)
theorem Yj:cN (n+1) 108=Yi (cN n):=rfl
def Yk(ai:Nat->Fn):Fn:=aJ 2 3 (af (aH 2 (ao (ai 3) [] (k2 (aC M.P.tab 31 (vF 0)) (vF 1))))
 (af (aM M.P.tab 31 (vF 0) (oW (aC M.P.tab 31 (vF 0)) (kG (bg bD (k1 (vF 2)))) wF))
 (aA (vF 2))))
theorem Yl:cN (n+1) 109=Yk (cN n):=rfl
def Ym(ai:Nat->Fn):Fn:=aJ 2 4 (af (aL (av (ak [(27,108)] ai) (vF 0) (k1 (vF 1))))
 (af (aH 2 (kL uz (aC M.P.tab 31 (vF 0)) (k1 (vF 1))))
 (af (aU (bP (oE (vF 2) (du lL (cI 1))))
  (aL (av (ak [(27,106)] ai) (vF 0) bq))
  aE)
 (af (aH 3 (oW (aC M.P.tab 31 (vF 0)) wF (kG (vF 2))))
 (af (aM M.P.tab 31 (vF 0) (oW (aC M.P.tab 31 (vF 0)) (kG (oA (vF 2) (cI 1))) wF))
 (aA (vF 3)))))))
theorem Yn:cN (n+1) 110=Ym (cN n):=rfl
end K33
namespace K33
open D
variable(n:Nat){m:List _root_.D.Ob}
def SC(rest:B1)(k:Int):FV:=[⟨27,[.val (.str rest),.val (.int k)]⟩]
abbrev St(r:Fs)(rest:B1)(k:Int):S:=⟨sv (.own 0)::r,SC rest k⟩
section
variable{r:Fs}{rest u4 l w:B1}{k:Int}{a:FE}{ai:Nat->Fn}{fl:FL}{ts:FK}{t:T}{i:Nat}
theorem OE:aC M.P.tab 31 (vF 0) (St r rest k)=.ok (.str rest,St r rest k):=rfl
theorem OF(h:a (St r rest k)=.ok (.str l,St r rest k)):aM M.P.tab 31 (vF 0) a (St r rest k)=.ok (.nx,St r l k):=by
 unfold aM;rw[h];rfl
theorem sm(ha:fl (St r rest k)=.ok (ts,St r rest k))(hc:ai i (.own 0::ts) (SC rest k)=.ok (t,SC u4 k)):av (ak [(27,i)] ai) (vF 0) fl (St r rest k)=.ok (t,St r u4 k):=by
 exact u1 (ob:=⟨27,[.val (.str rest),.val (.int k)]⟩) (s1:=St r rest k) rfl rfl rfl ha hc
theorem A_(h:pre w rest=false):cN (n+1) 107 [.own 0,.str w] (SC rest k)=.ok (.bl false,SC rest k):=by
 rw[Um];refine eK rfl (OB (Uc (s':=St [sv (.str w)] rest k) ?_ rfl)) rfl;show cW _ (St [sv (.str w)] rest k)=_;simp only[ev,r6,OE,bj,pU,AR,h,Bool.not_false]
theorem nY:cN (n+1) 107 [.own 0,.str w] (SC (w++rest) k)=.ok (.bl true,SC rest k):=by
 rw[Um];refine eK rfl (seq1 (s':=St [sv (.str w)] (w++rest) k) (A7 (s':=St [sv (.str w)] (w++rest) k) ?_ rfl) (seq1 (OF (l:=rest) ?_) rfl)) rfl
 ·show cW _ (St [sv (.str w)] (w++rest) k)=_
  simp only[ev,r6,OE,bj,pU,AR,pre_app,J3]
 ·simp only[ev,r6,OE,bj,pU,bD,AM,G_,j_]
theorem zw:cN (n+2) 108 [.own 0,.str w] (SC (w++rest) k)=.ok (.non,SC rest k):=by
 rw[Yj];refine OC rfl (A7 (s':=St [sv (.str w)] rest k) ?_ rfl) rfl;show cW (D.tB (av _ _ _)) (St [sv (.str w)] (w++rest) k)=_;have e:av (ak [(27,107)] (cN (n+1))) (vF 0) (k1 (vF 1)) (St [sv (.str w)] (w++rest) k)=.ok (.bl true,St [sv (.str w)] rest k):=sm rfl (nY n);simp only[ev,e,bj,pU,J3]
end
theorem eX{α:Type}{l:List α}{j:Nat}(h:j<l.length):atT l (j:Int)=l[j]?:=by
 unfold atT;rw[if_pos (by omega),if_pos (by omega)];rfl
section
variable{a b signs:B1}{m:FV}
theorem u5(ha:∀c∈a,c∈signs)(hb:∀c,b.head?=some c->c∉signs){j:Nat}(hj:j<=a.length) :
  fD (D.bP (bo (aI .Lt) (vF 2) (bg bD (k1 (vF 0))))) (D.bP (bo (aI .In) (oI (vF 0) (vF 2)) (vF 1))) ⟨[sv (.str (a++b)),sv (.str signs),sv (.int (j:Nat))],m⟩=.ok (decide (j<a.length),⟨[sv (.str (a++b)),sv (.str signs),sv (.int (j:Nat))],m⟩):=by
 unfold fD;have lt:∀i j:Int,aI .Lt (.int i) (.int j)=some (.bl (decide (i<j))):=λ_ _=>rfl;have VF:∀(c:Nat)(l:B1),aI .In (.str [c]) (.str l)=some (.bl (decide (c∈l))):=λ_ _=>rfl;simp only[ev,r6,bj,pU,bD,AM,lt];by_cases h:j<(a++b).length
 ·rw[decide_eq_true (by omega),if_pos rfl]
  have e:gS (.str (a++b)) (.int (j:Nat))=some (.str [(a++b)[j]]):=by
   show(atT (a++b) (j:Int)).map _=_;rw[eX h,b8 h];rfl
  simp only[ev,r6,bj,pU,e,VF];by_cases hja:j<a.length
  ·rw[List.getElem_append_left hja,decide_eq_true (ha _ (tm hja)),decide_eq_true hja]
  ·have:j=a.length:=by omega
   subst this;rw[decide_eq_false hja]
   have:(a++b)[a.length]∉signs:=by
    apply hb;rw[List.head?_eq_getElem?,List.getElem_append_right (by omega)]
    simp only[i7];rw[b8]
   rw[decide_eq_false this]
 ·rw[decide_eq_false (by omega),decide_eq_false (by rw[cK]at h;omega)]
  rw[if_neg bZ]
theorem u6(ha:∀c∈a,c∈signs)(hb:∀c,b.head?=some c->c∉signs):∀(d j fuel:Nat),j+d=a.length->d<fuel ->
  aY (fD (D.bP (bo (aI .Lt) (vF 2) (bg bD (k1 (vF 0))))) (D.bP (bo (aI .In) (oI (vF 0) (vF 2)) (vF 1)))) (C5 ik 2 (cI 1)) fuel ⟨[sv (.str (a++b)),sv (.str signs),sv (.int (j:Nat))],m⟩=.ok (.nx,⟨[sv (.str (a++b)),sv (.str signs),sv (.int (a.length:Nat))],m⟩)
 |_,_,0,_,h=>absurd h (JZ _)
 |0,j,f+1,h,_=>by
  have:j=a.length:=h
  subst this;unfold aY;rw[u5 ha hb (cC _),decide_eq_false (qR _)];rfl
 |d+1,j,f+1,h,hf=>by
  unfold aY;rw[u5 ha hb (by omega),decide_eq_true (by omega)]
  show aY _ _ f ⟨[sv (.str (a++b)),sv (.str signs),sv (.int ((j:Int)+1))],m⟩=_
  have:=u6 ha hb d (j+1) f (by omega) (by omega)
  rw[Int.natCast_add]at this;exact this
theorem OG(ha:∀c∈a,c∈signs)(hb:∀c,b.head?=some c->c∉signs)(hl:a.length<1000):cN (n+1) 3 [.str (a++b),.str signs] m=.ok (.str a,m):=by
 rw[w3];refine nV (m':=[]) rfl (eK rfl (seq1 (s':=⟨[sv (.str (a++b)),sv (.str signs),sv (.int 0)],[]⟩) rfl (seq1 (u6 ha hb a.length 0 many (by omega) (by show a.length<1000000;omega)) (gE (t:=.str a) (s':=⟨[sv (.str (a++b)),sv (.str signs),sv (.int (a.length:Nat))],[]⟩) ?_))) rfl) rfl
 simp only[ev,r6,bj,pU,G_,EF]
theorem Iw{k:Int}(ha:∀c∈a,c∈signs)(hb:∀c,b.head?=some c->c∉signs)(hl:a.length<1000):cN (n+2) 109 [.own 0,.str signs] (SC (a++b) k)=.ok (.str a,SC b k):=by
 rw[Yl];refine eK (s':=St [sv (.str signs),sv (.str a)] b k) rfl (seq1 (s':=St [sv (.str signs),sv (.str a)] (a++b) k) ?_ (seq1 (OF (l:=b) ?_) rfl)) rfl
 ·show aH 2 (ao _ _ _) (St [sv (.str signs),none] (a++b) k)=_
  have e:ao (cN (n+1) 3) [] (k2 (aC M.P.tab 31 (vF 0)) (vF 1)) (St [sv (.str signs),none] (a++b) k)=.ok (.str a,St [sv (.str signs),none] (a++b) k):=eL (ts:=[.str (a++b),.str signs]) (s':=St [sv (.str signs),none] (a++b) k) rfl (OG n ha hb hl);simp only[ev,r6,e,bj]
 ·simp only[ev,r6,OE,bj,pU,bD,AM,G_,j_]
end
theorem nZ{c:Nat}{l b:B1}{k:Int}(h:c∉l):cN (n+3) 110 [.own 0,.str [c]] (SC (c::(l++c::b)) k)=.ok (.str l,SC b k):=by
 rw[Yn];refine eK (s':=St [sv (.str [c]),sv (.int (l.length:Nat)),sv (.str l)] b k) rfl ?_ rfl;refine seq1 (s':=St [sv (.str [c]),none,none] (l++c::b) k) ?_ (seq1 (s':=St [sv (.str [c]),sv (.int (l.length:Nat)),none] (l++c::b) k) ?_ (seq1 (s':=St [sv (.str [c]),sv (.int (l.length:Nat)),none] (l++c::b) k) (A7 (s':=St [sv (.str [c]),sv (.int (l.length:Nat)),none] (l++c::b) k) ?_ rfl) (seq1 (s':=St [sv (.str [c]),sv (.int (l.length:Nat)),sv (.str l)] (l++c::b) k) ?_ (seq1 (OF (l:=b) ?_) rfl))))
 ·have e:av (ak [(27,108)] (cN (n+2))) (vF 0) (k1 (vF 1)) (St [sv (.str [c]),none,none] ([c]++(l++c::b)) k)=.ok (.non,St [sv (.str [c]),none,none] (l++c::b) k):=sm rfl (zw n)
  show aL _ (St [sv (.str [c]),none,none] ([c]++(l++c::b)) k)=_;simp only[ev,e,bj]
 ·simp only[ev,r6,OE,bj,pU,A8 c l b h]
 ·have e:aI .Eq (.int (l.length:Nat)) (.int (-1))=some (.bl (decide ((l.length:Int)=-1))):=rfl
  simp only[ev,r6,bj,pU,lL,e];rw[decide_eq_false (by omega)]
 ·simp only[ev,r6,OE,bj,pU,G_,EF]
 ·have e:dC .Add (.int (l.length:Nat)) (.int 1)=some (.int ((l++[c]).length:Nat)):=by
   rw[cK];rfl
  have e2:bA (l++c::b) (some ((l++[c]).length:Int)) none=b:=by
   have:=j_ (l++[c]) b
   rw[c6]at this;exact this
  simp only[ev,r6,OE,bj,pU,e,G_,e2]
section
variable{r:Fs}{rest u4 l w:B1}{k:Int}{ai:Nat->Fn}{fl:FL}{ts:FK}{t:T}{i:Nat}{A B:FS}{R:Res (Out×S)}{s s' s1 s2:S}{a:FE}
theorem pT:D.tB (av (ak [(27,107)] (cN (n+1))) (vF 0) (k1 (cS w))) (St r (w++rest) k)=.ok (true,St r rest k):=by
 have e:av (ak [(27,107)] (cN (n+1))) (vF 0) (k1 (cS w)) (St r (w++rest) k)=.ok (.bl true,St r rest k):=sm rfl (nY n);simp only[ev,e,bj,pU]
theorem pN(h:pre w rest=false):D.tB (av (ak [(27,107)] (cN (n+1))) (vF 0) (k1 (cS w))) (St r rest k)=.ok (false,St r rest k):=by
 have e:av (ak [(27,107)] (cN (n+1))) (vF 0) (k1 (cS w)) (St r rest k)=.ok (.bl false,St r rest k):=sm rfl (A_ n h);simp only[ev,e,bj,pU]
theorem mP:aL (av (ak [(27,108)] (cN (n+2))) (vF 0) (k1 (cS w))) (St r (w++rest) k)=.ok (.nx,St r rest k):=by
 have e:av (ak [(27,108)] (cN (n+2))) (vF 0) (k1 (cS w)) (St r (w++rest) k)=.ok (.non,St r rest k):=sm rfl (zw n);simp only[ev,e,bj]
theorem skip(h:pre w rest=false)(q:B (St r rest k)=R):af (aU (D.tB (av (ak [(27,107)] (cN (n+1))) (vF 0) (k1 (cS w)))) A aE) B (St r rest k)=R:=seq1 (A7 (pN n h) rfl) q
theorem hit(q:A (St r rest k)=.ok (.rt t,s')):af (aU (D.tB (av (ak [(27,107)] (cN (n+1))) (vF 0) (k1 (cS w)))) A aE) B (St r (w++rest) k)=.ok (.rt t,s'):=OB (Uc (pT n) q)
theorem cR(ha:fl (St r rest k)=.ok (ts,St r rest k))(hc:ai i (.own 0::ts) (SC rest k)=.ok (t,SC u4 k)):ao (ai i) [] (cA (vF 0) fl) (St r rest k)=.ok (t,St r u4 k):=by
 refine eL (ts:=.own 0::ts) (s':=St r rest k) ?_ (by rw[dz];exact hc)
 show Res.bind (fl (St r rest k)) _=_;rw[ha];rfl
theorem kR{c m:Nat}(h:fl s=.ok (ts,s'))(hl:ts.length=m):cD c m fl s=.ok (.obj c ts,s'):=by
 unfold cD;rw[h];exact if_pos hl
theorem aw(h:a s=.ok (t,s1))(h2:fl s1=.ok (ts,s2)):cA a fl s=.ok (t::ts,s2):=by
 unfold cA;rw[h];show Res.bind (fl s1) _=_;rw[h2];rfl
theorem gF{i:Nat}(h:a s=.ok (t,s')):aH i a s=.ok (.nx,i_ s' i (.val t)):=by unfold aH;rw[h];rfl
end
theorem Iz(a b:B1):aI .Eq (.str a) (.str b)=some (.bl (decide (a=b))):=rfl
theorem Ba(a b:Int):aI .Gt (.int a) (.int b)=some (.bl (decide (b<a))):=rfl
theorem EI(a b:Int):aI .Lt (.int a) (.int b)=some (.bl (decide (a<b))):=rfl
def Bb:B1:=[48,49,50,51,52,53,54,55,56,57]
theorem Bc{d b:B1}{v lo hi k:Int}(hd:∀c∈d,c∈Bb)(h0:d≠[])(hz:pre [48] d=false)(hl:d.length<=3)(WI:lN [.str d]=some (.int v))(h1:lo<=v)(h2:v<=hi)(hb:∀c,b.head?=some c->c∉Bb) :
  cN (n+3) 43 [.own 0,.int lo,.int hi] (SC (d++b) k)=.ok (.int v,SC b k):=by
 rw[w43];refine eK (s':=St [sv (.int lo),sv (.int hi),sv (.str d),sv (.int v)] b k) rfl ?_ rfl;have e:av (ak [(27,109)] (cN (n+2))) (vF 0) (k1 (cS Bb)) (St [sv (.int lo),sv (.int hi),none,none] (d++b) k)=.ok (.str d,St [sv (.int lo),sv (.int hi),none,none] b k):=sm rfl (Iw n hd hb (by omega))
 refine seq1 (gF e) (seq1 (A7 (s':=St [sv (.int lo),sv (.int hi),sv (.str d),none] b k) ?_ rfl) (seq1 (s':=St [sv (.int lo),sv (.int hi),sv (.str d),sv (.int v)] b k) ?_ (seq1 (A7 (s':=St [sv (.int lo),sv (.int hi),sv (.str d),sv (.int v)] b k) ?_ rfl) rfl)))
 ·show sP _ _ (St [sv (.int lo),sv (.int hi),sv (.str d),none] b k)=_
  have g1:decide (d=[])=false:=decide_eq_false h0;have g2:decide ((3:Int)<(d.length:Nat))=false:=decide_eq_false (by omega)
  simp only[sP,ev,r6,bj,pU,Iz,g1,AR,hz,bD,AM,Ba,g2,J4,if_false]
 ·simp only[ev,r6,bj,pU,WI]
 ·have g1:decide (v<lo)=false:=decide_eq_false (by omega)
  have g2:decide (hi<v)=false:=decide_eq_false (by omega)
  simp only[sP,ev,r6,bj,pU,EI,Ba,g1,g2,J4,if_false]
theorem jw{g:FG}{e:FE}{b:Fs}{m:FV}{f:T->T}:∀{ts:FK},(∀t∈ts,∃b1 b2,g t b=some b1/\e ⟨b1,m⟩=.ok (f t,⟨b2,m⟩))->aN g cX e b ts m=.ok (ts.map f,m)
 |[],_=>rfl
 |t::ts,h=>by
  obtain⟨b1,b2,h1,h2⟩:=h t (eg ..);unfold aN;rw[h1];show Res.bind (e ⟨b1,m⟩) _=_;rw[h2];show Res.bind (aN g cX e b ts m) _=_;rw[jw λt ht=>h t (ez _ ht)];rfl
theorem lu{src:FL}{n:Nat}{js:B1}{g:FG}{c:FT}{e:FE}{s s1:S}{ts us:FK}{m':FV}(h:src s=.ok (ts,s1))(z:ts.length<=1000000)(q:aN g c e (iP n js (jn js s1.r)) ts s1.m=.ok (us,m')):bB src n js g c e s=.ok (us,⟨jn js s1.r,m'⟩):=by
 unfold bB;rw[h];show(if ts.length<=1000000 then _ else _)=_
 rw[if_pos z,q];rfl
theorem kc{fl:FL}{s s':S}{ts:FK}(h:fl s=.ok (ts,s')):cY fl s=.ok (.lst ts,s'):=by unfold cY;rw[h];rfl
theorem dY{g:FK->FR}{fl:FL}{s s':S}{ts:FK}{t:T}(h:fl s=.ok (ts,s'))(q:g ts=some t):bg g fl s=.ok (t,s'):=by unfold bg;rw[h];show Res.bind (aS (g ts)) _=_;rw[q];rfl
theorem OH(c:Nat)(l:B1):aI .In (.str [c]) (.str l)=some (.bl (decide (c∈l))):=rfl
def zx:T->T:=λ_=>.bl true
theorem all_true:∀(l:FK),boolsOf (l.map zx)=some (l.map λ_=>true)
 |[]=>rfl
 |_::l=>by
  show(boolsOf (l.map zx)).map _=_;rw[all_true l];rfl
theorem n_{l signs:B1}(h:∀c∈l,c∈signs)(hl:l.length<=1000):cN (n+1) 2 [.str l,.str signs] m=.ok (.bl true,m):=by
 rw[w2];refine nV (m':=[]) rfl (eK (s':=⟨[sv (.str l),sv (.str signs)],[]⟩) rfl (gE (dY (ts:=[.lst ((l.map λc=>T.str [c]).map zx)]) (aw (kc (lu (ts:=l.map λc=>T.str [c]) (s1:=⟨[sv (.str l),sv (.str signs)],[]⟩) rfl (by rw[bF];omega) (jw λt ht=>?_))) rfl) ?_)) rfl) rfl
 ·obtain⟨c,hc,rfl⟩:=eU.mp ht
  refine⟨[none,sv (.str [c]),sv (.str signs)],[none,sv (.str [c]),sv (.str signs)],rfl,?_⟩;simp only[ev,r6,bj,pU,OH,decide_eq_true (h c hc),zx]
 ·simp only[Ht,MS,all_true]
  simp
noncomputable def oh:B1:=EH
theorem EJ{l b:B1}{k:Int}(h:∀c∈l,c∈oh/\c≠34)(hl:l.length<=40):cN (n+4) 45 [.own 0] (SC (34::(l++34::b)) k)=.ok (.str l,SC b k):=by
 rw[w45];have hq:34∉l:=λz=>(h 34 z).2 rfl;refine eK (s':=St [sv (.str l)] b k) rfl ?_ rfl;have e:av (ak [(27,110)] (cN (n+3))) (vF 0) (k1 (cS [34])) (St [none] (34::(l++34::b)) k)=.ok (.str l,St [none] b k):=sm rfl (nZ n hq);refine seq1 (gF e) (seq1 (A7 (s':=St [sv (.str l)] b k) ?_ rfl) rfl);show sP _ _ (St [sv (.str l)] b k)=_;have e2:ao (cN (n+3) 2) [] (k2 (vF 1) (cS oh)) (St [sv (.str l)] b k)=.ok (.bl true,St [sv (.str l)] b k):=eL (ts:=[.str l,.str oh]) (s':=St [sv (.str l)] b k) rfl (n_ (n+2) (λc hc=>(h c hc).1) (by omega))
 unfold oh at e2;have g2:decide ((40:Int)<(l.length:Nat))=false:=decide_eq_false (by omega)
 unfold sP cW;rw[show D.bP (bo (aI .Gt) (bg bD (k1 (vF 1))) (cI 40)) (St [sv (.str l)] b k)=.ok (false,St [sv (.str l)] b k) by simp only[ev,r6,bj,pU,bD,AM,Ba,g2]]
 show Res.bind (D.tB (ao _ _ _) (St [sv (.str l)] b k)) _=_;unfold D.tB;rw[e2];rfl
theorem aR{g:T->T->FR}{a b:FE}{s s1 s2:S}{t u v:T}(h:a s=.ok (t,s1))(h2:b s1=.ok (u,s2))(k:g t u=some v):bo g a b s=.ok (v,s2):=by
 unfold bo;rw[h];refine Eq.trans (bj _ _) ?_;dsimp only;rw[h2];refine Eq.trans (bj _ _) ?_;dsimp only;rw[k];rfl
theorem zy{g:FG}{b:FS}{t:T}{ts:FK}{s s1:S}{r:Fs}{q:Res (Out×S)}(h:g t s.r=some r)(hb:b ⟨r,s.m⟩=.ok (.nx,s1))(k:bU g b ts s1=q):bU g b (t::ts) s=q:=by
 unfold bU;rw[h];refine Eq.trans (bj _ _) ?_;rw[hb];exact k
theorem Yo{src:FL}{g:FG}{b:FS}{s s1:S}{ts:FK}{q:Res (Out×S)}(h:src s=.ok (ts,s1))(k:bU g b ts s1=q):gR src g b s=q:=by unfold gR;rw[h];exact k
theorem xm{i:Nat}{a:FE}{s s1:S}{HQ ts:FK}{t:T}(h0:s.r[i]?=some (some (.ol HQ)))(h:a s=.ok (t,s1))(h2:s1.r[i]?=some (some (.ol ts)))(z:ts.length<1000000):gQ i a s=.ok (.nx,i_ s1 i (.ol (ts++[t]))):=by
 unfold gQ;rw[h0];refine Eq.trans (bj HQ _) ?_;rw[h];refine Eq.trans (bj _ _) ?_;dsimp only;rw[h2];refine Eq.trans (bj ts _) ?_;rw[jd z];rfl
theorem W.eq{α:Type}{x:Res α}{v:α}(h:W x λa=>a=v):x=.ok v:=by
 obtain⟨a,e,rfl⟩:=h;exact e
theorem gG{src:FL}{g:FG}{b:FS}{s:S}{QS:Out×S->Prop}(h:W (src s) λp=>W (bU g b p.1 p.2) QS):W (gR src g b s) QS:=W.bind h
theorem e8{np n:Nat}{B:FS}{ts:FK}{G:T×FV->Prop}(h:ts.length=np)(k:W (B ⟨ts.map (λt=>sv t)++ck (n-ts.length) none,m⟩) λp=>p.1=.nx/\G (.non,p.2.m)):W (aJ np n B ts m) G:=by
 unfold aJ;rw[if_pos h];exact W.bind (k.mono λp ⟨e,k⟩=>⟨_,by rw[e],k⟩)
theorem jx{g:T->FR}{a:FE}{s:S}{t:T}{b:Bool}(h:a s=.ok (t,s))(k:g t=some (.bl b)):D.tB (du g a) s=.ok (b,s):=by
 unfold D.tB du;rw[h];refine Eq.trans (congrArg (λz=>Res.bind z _) (bj _ _)) ?_;dsimp only;rw[k];rfl
theorem Uo{c:FT}{s s':S}(h:c s=.ok (false,s')):cW c s=.ok (true,s'):=by unfold cW;rw[h];rfl
theorem u7{c:FT}{s s':S}(h:c s=.ok (true,s')):cW c s=.ok (false,s'):=by unfold cW;rw[h];rfl
theorem VG{c d:FT}{s s1:S}{q:Res (Bool×S)}(h:c s=.ok (false,s1))(h2:d s1=q):sP c d s=q:=by unfold sP;rw[h];exact h2
theorem Up{c:Nat}{g:Fn}{fl:FL}{s s':S}{ts:FK}{m':FV}(h:fl s=.ok (ts,s'))(k:g (.own s'.m.length::ts) (s'.m++[⟨c,[]⟩])=.ok (.non,m')):jR c g fl s=.ok (.own s'.m.length,⟨s'.r,m'⟩):=by
 unfold jR;rw[h];refine Eq.trans (bj _ _) ?_;dsimp only;rw[k]
section
variable{s:S}{a:FE}{t:T}{i:Nat}{A B E:FS}{c:FT}{G:T×FV->Prop}{QS:Out×S->Prop}
theorem bS(e:a s=.ok (t,s))(h:WB B (i_ s i (.val t)) G):WB (af (aH i a) B) s G:=X_ e h
theorem bN(e:c s=.ok (false,s))(h:WB B s G):WB (af (aU c A aE) B) s G:=Uh e h
theorem bY(e:c s=.ok (true,s))(h:WB A s G):WB (af (aU c A B) E) s G:=Yb e h
theorem bI(e:c s=.ok (true,s))(e2:a s=.ok (t,s))(h:WB B (i_ s i (.val t)) G):WB (af (aU c (aH i a) aE) B) s G:=dm (nW e (W.of (gF e2) ⟨rfl,h⟩))
theorem bR(e:a s=.ok (t,s))(h:G (t,s.m)):WB (aA a) s G:=A9 e h
theorem sEq{np n:Nat}{b:FS}{ts:FK}(h:aB ts=true)(hl:ts.length=np)(ht:noOwn t=true)(k:WB b ⟨ts.map (λt=>sv t)++ck (n-ts.length) none,[]⟩ λp=>p.1=t):aO (aJ np n b) ts m=.ok (t,m):=W.eq (nX h ((kQ hl k).mono λp hp=>⟨by rw[hp];exact ht,by rw[hp]⟩))
theorem cE{g:Fn}{fl:FL}{ts:FK}(h:fl s=.ok (ts,s))(k:g ts s.m=.ok (t,s.m)):ao g [] fl s=.ok (t,s):=eL h (by rw[dz];exact k)
theorem mE{g:Nat->Option Fn}{o:FE}{fl:FL}{k:Nat}{ob:Ob}{f:Fn}{ts:FK}{m':FV}(h:o s=.ok (.own k,s))(hm:s.m[k]?=some ob)(hg:g ob.c=some f)(ha:fl s=.ok (ts,s))(hc:f (.own k::ts) s.m=.ok (t,m')):av g o fl s=.ok (t,⟨s.r,m'⟩):=u1 h hm hg ha hc
theorem dE{m':FV}(h:a s=.ok (t,⟨s.r,m'⟩))(k:QS (.nx,⟨s.r,m'⟩)):W (aL a s) QS:=⟨_,by unfold aL;rw[h];rfl,k⟩
theorem wS(e:a s=.ok (t,s))(h:W (B (i_ s i (.val t))) QS):W (af (aH i a) B s) QS:=fU (W.of (gF e) ⟨rfl,h⟩)
theorem wA{ts:FK}(h0:s.r[i]?=some (some (.ol ts)))(h:a s=.ok (t,s))(z:ts.length<1000000)(k:W (B (i_ s i (.ol (ts++[t])))) QS):W (af (gQ i a) B s) QS:=fU (W.of (xm h0 h h0 z) ⟨rfl,k⟩)
theorem qE{gg:FG}{ts:FK}{r:Fs}(h:gg t s.r=some r)(k:W (B ⟨r,s.m⟩) λp=>p.1=.nx/\W (bU gg B ts p.2) QS):W (bU gg B (t::ts) s) QS:=by
 obtain⟨⟨o,s1⟩,e,rfl,p,e2,q⟩:=k;exact⟨p,zy h e e2,q⟩
theorem VH{g:FG}{e:FE}{b b1 b2:Fs}{u:T}{ts us:FK}(h:g t b=some b1)(h2:e ⟨b1,m⟩=.ok (u,⟨b2,m⟩))(k:aN g cX e b ts m=.ok (us,m)):aN g cX e b (t::ts) m=.ok (u::us,m):=by
 rw[aN,h];refine Eq.trans (bj _ _) ?_;refine Eq.trans (bj _ _) ?_;show Res.bind (e ⟨b1,m⟩) _=_;rw[h2];refine Eq.trans (bj _ _) ?_;dsimp only;rw[k];rfl
theorem Bt{b:Bool}(h:a s=.ok (.bl b,s)):D.tB a s=.ok (b,s):=by unfold D.tB;rw[h];rfl
theorem mf{b:Bool}(h:a s=.ok (.bl b,s)):D.bP a s=.ok (b,s):=by unfold D.bP;rw[h];rfl
theorem o1E{g:T->FR}{u:T}(h:a s=.ok (t,s))(k:g t=some u):du g a s=.ok (u,s):=by
 unfold du;rw[h];refine Eq.trans (bj _ _) ?_;dsimp only;rw[k];rfl
theorem EK{d:FT}{x y:Bool}(h:c s=.ok (x,s))(h2:d s=.ok (y,s)):fD c d s=.ok (x&&y,s):=by
 unfold fD;rw[h];cases x with
 |true=>exact h2
 |false=>rfl
theorem xn{g:FK->FC}{fl:FL}{s s1:S}{ts us:FK}(h:fl s=.ok (ts,s1))(k:g ts=some us):ql g fl s=.ok (us,s1):=by
 unfold ql;rw[h];refine Eq.trans (bj _ _) ?_;dsimp only;rw[k];rfl
theorem OI{b:Bool}{s1:S}(h:a s=.ok (.bl b,s1)):pM a s=.ok (.bl (!b),s1):=by unfold pM;rw[h];rfl
theorem Yp{lo hi:FO}{u:T}{x y:D2}(ha:a s=.ok (t,s))(hl:lo s=.ok (x,s))(hh:hi s=.ok (y,s))(h:G_ x y t=some u):oW a lo hi s=.ok (u,s):=by
 unfold oW;rw[ha];refine Eq.trans (bj _ _) ?_;dsimp only;rw[hl];refine Eq.trans (bj _ _) ?_;dsimp only;rw[hh];refine Eq.trans (bj _ _) ?_;dsimp only;rw[h];rfl
theorem Uq{ts:FK}(h:a s=.ok (t,s))(k:Vr t=some ts):nz a s=.ok (ts,s):=by
 unfold nz;rw[h];refine Eq.trans (bj _ _) ?_;dsimp only;rw[k];rfl
theorem Ur{src:FL}{n:Nat}{js:B1}{g:FG}{e:FE}{ts us:FK}(h:src s=.ok (ts,s))(z:ts.length<=1000000)(hf:jn js s.r=s.r)(q:aN g c e (iP n js s.r) ts s.m=.ok (us,s.m)):cY (bB src n js g c e) s=.ok (.lst us,s):=by
 have:=kc (lu (n:=n) (js:=js) (g:=g) (c:=c) (e:=e) (us:=us) (m':=s.m) h z (by rw[hf];exact q))
 rw[hf]at this;exact this
theorem pE(h:a s=.ok (t,s)){b:FE}{u v:T}{g:T->T->FR}(h2:b s=.ok (u,s))(k:g t u=some v):bo g a b s=.ok (v,s):=aR h h2 k
theorem PY{f:B1->FK->FR}{o:FE}{fl:FL}{s s1 s2:S}{l:B1}{ts:FK}{t:T}(h:o s=.ok (.str l,s1))(h2:fl s1=.ok (ts,s2))(h3:f l ts=some t):kL f o fl s=.ok (t,s2):=by
 unfold kL;rw[h];refine Eq.trans (bj _ _) ?_;refine Eq.trans (bj _ _) ?_;dsimp only;rw[h2];refine Eq.trans (bj _ _) ?_;dsimp only;rw[h3];rfl
end
structure Nm(d:B1)(v:Int):Prop where
 hd:∀c∈d,c∈Bb
 h0:d≠[]
 hz:pre [48] d=false
 hl:d.length<=3
 hi:lN [.str d]=some (.int v)
structure Pt(w:B1)(t:T):Prop where
 no:47∉w
 eq:∀n m,cN (n+7) 5 [.str w] m=.ok (t,m)
theorem lT{w b:B1}{t:T}{k:Int}(P:Pt w t):cN (n+8) 46 [.own 0] (SC (47::(w++47::b)) k)=.ok (t,SC b k):=by
 rw[w46];have e:av (ak [(27,110)] (cN (n+7))) (vF 0) (k1 (cS [47])) (St [none] (47::(w++47::b)) k)=.ok (.str w,St [none] b k):=sm rfl (nZ (n+4) P.no);exact eK (s':=St [sv (.str w)] b k) rfl (seq1 (gF e) (gE (eL (ts:=[.str w]) (s':=St [sv (.str w)] b k) rfl (P.eq n _)))) rfl
def Us(b:B1):Prop:=∀c,b.head?=some c->c∉Bb
inductive RP where
 |row (d:B1) (v:Int)|like (w:B1) (t:T)
def RP.ok:RP->Prop
 |.row d v=>Nm d v/\1<=v/\v<=999
 |.like w t=>Pt w t
noncomputable def RP.txt:RP->B1->B1
 |.row d _,b=>114::111::119::32::(d++b)
 |.like w _,b=>47::(w++47::b)
noncomputable def RP.val:RP->T
 |.row _ v=>.obj 4 [.int v]
 |.like _ t=>.obj 6 [t]
theorem EL{x:RP}{b:B1}{k:Int}(h:x.ok)(hb:Us b):cN (n+9) 38 [.own 0] (SC (x.txt b) k)=.ok (x.val,SC b k):=by
 rw[w38];cases x with
 |row d v=>
  obtain⟨N,h1,h2⟩:=h;exact eK (s':=St [] b k) rfl (hit (w:=[114,111,119,32]) (rest:=d++b) (n+7) (gE (kR (ts:=[.int v]) (aw (cR (ts:=[.int 1,.int 999]) rfl (Bc (n+5) N.hd N.h0 N.hz N.hl N.hi h1 h2 hb)) rfl) rfl))) rfl
 |like w t=>
  exact eK (s':=St [] b k) rfl (skip (n+7) (fH (by decide)) (gE (kR (ts:=[t]) (aw (cR (ts:=[]) rfl (lT n h)) rfl) rfl))) rfl
inductive PC where
 |ft (x y:RP)|rp (x:RP)
def PC.ok:PC->Prop
 |.ft x y=>x.ok/\y.ok
 |.rp x=>x.ok
noncomputable def PC.txt:PC->B1->B1
 |.ft x y,b=>102::114::111::109::32::x.txt (32::116::111::32::y.txt b)
 |.rp x,b=>x.txt b
noncomputable def PC.val:PC->T
 |.ft x y=>.obj 8 [x.val,y.val]
 |.rp x=>x.val
theorem Ut(b:B1):Us (32::b):=λc h=>by cases h;decide
theorem r8{x:RP}{b w:B1}{c:Nat}(h1:c≠114)(h2:c≠47):pre (c::w) (x.txt b)=false:=by
 cases x with
 |row d v=>exact fH h1
 |like w t=>exact fH h2
theorem u9{x:PC}{b:B1}{k:Int}(h:x.ok)(hb:Us b):cN (n+10) 37 [.own 0] (SC (x.txt b) k)=.ok (x.val,SC b k):=by
 rw[w37];cases x with
 |ft x y=>
  obtain⟨h1,h2⟩:=h;refine eK (s':=St [none,sv x.val] b k) rfl (skip (n+8) (fH (by decide)) (skip (n+8) (fH (by decide)) (hit (w:=[102,114,111,109,32]) (rest:=x.txt (32::116::111::32::y.txt b)) (n+8) ?_))) rfl
  exact seq1 (s':=St [none,sv x.val] (32::116::111::32::y.txt b) k) (gF (cR (ts:=[]) rfl (EL n h1 (Ut _)))) (seq1 (mP (w:=[32,116,111,32]) (rest:=y.txt b) (n+7)) (gE (kR (ts:=[x.val,y.val]) (aw (t:=x.val) rfl (aw (cR (ts:=[]) rfl (EL n h2 hb)) rfl)) rfl)))
 |rp x=>
  exact eK (s':=St [none,none] b k) rfl (skip (n+8) (r8 (by decide) (by decide)) (skip (n+8) (r8 (by decide) (by decide)) (skip (n+8) (r8 (by decide) (by decide)) (gE (cR (ts:=[]) rfl (EL n h hb)))))) rfl
inductive CD where
 |no (x:PC)|pc (x:PC)
def CD.ok:CD->Prop
 |.no x=>x.ok
 |.pc x=>x.ok
noncomputable def CD.txt:CD->B1->B1
 |.no x,b=>110::111::116::32::x.txt b
 |.pc x,b=>x.txt b
noncomputable def CD.val:CD->T
 |.no x=>.obj 9 [x.val]
 |.pc x=>x.val
theorem xo{x:PC}{b w:B1}{c:Nat}(h:c≠114/\c≠47/\c≠102):pre (c::w) (x.txt b)=false:=by
 obtain⟨h1,h2,h3⟩:=h;cases x with
 |ft x y=>exact fH h3
 |rp x=>exact r8 h1 h2
theorem IA{x:CD}{b:B1}{k:Int}(h:x.ok)(hb:Us b):cN (n+11) 36 [.own 0] (SC (x.txt b) k)=.ok (x.val,SC b k):=by
 rw[w36];cases x with
 |no x=>exact eK (s':=St [] b k) rfl (skip (n+9) (fH (by decide)) (hit (w:=[110,111,116,32]) (rest:=x.txt b) (n+9) (gE (kR (ts:=[x.val]) (aw (cR (ts:=[]) rfl (u9 n h hb)) rfl) rfl)))) rfl
 |pc x=>exact eK (s':=St [] b k) rfl (skip (n+9) (xo (by decide)) (skip (n+9) (xo (by decide)) (gE (cR (ts:=[]) rfl (u9 n h hb))))) rfl
structure Yq(l:B1):Prop where
 h:∀c∈l,c∈oh/\c≠34
 hl:l.length<=40
inductive DD where
 |drop|say (l:B1)
def DD.ok:DD->Prop
 |.drop=>True
 |.say l=>Yq l
noncomputable def DD.txt:DD->B1->B1
 |.drop,b=>100::114::111::112::b
 |.say l,b=>115::97::121::32::34::(l++34::b)
noncomputable def DD.val:DD->T
 |.drop=>.obj 13 []
 |.say l=>.obj 16 [.str l]
section
variable{k:Int}
theorem OJ{l b:B1}(W:Yq l):cN (n+4) 45 [.own 0] (SC (34::(l++34::b)) k)=.ok (.str l,SC b k):=EJ n W.h W.hl
theorem sk{c d:Nat}{w' q':B1}(n:Nat){r:Fs}{A B:FS}{R:Res (Out×S)}(q:B (St r (d::q') k)=R)(h:c≠d:=by decide):af (aU (D.tB (av (ak [(27,107)] (cN (n+8+1))) (vF 0) (k1 (cS (c::w'))))) A aE) B (St r (d::q') k)=R:=skip (n+8) (fH h) q
theorem IB{x:DD}{b:B1}(h:x.ok):cN (n+10) 39 [.own 0] (SC (x.txt b) k)=.ok (x.val,SC b k):=by
 rw[w39];refine eK (s':=St [] b k) rfl ?_ rfl;show af _ _ (St [] (x.txt b) k)=_;cases x with
 |drop=>exact hit (w:=[100,114,111,112]) (rest:=b) (n+8) (gE (kR (ts:=[]) rfl rfl))
 |say l=>exact sk n (sk n (sk n (sk n (hit (w:=[115,97,121,32]) (rest:=34::(l++34::b)) (n+8) (gE (kR (ts:=[.str l]) (aw (cR (ts:=[]) rfl (OJ (n+5) h)) rfl) rfl))))))
end
def Bd:Ap:=[[114,111,119,32],[108,97,115,116],[47],[115,111,111,110,32],[102,114,111,109,32],[110,111,116,32],[101,110,100]]
def xq(rest:B1):Bool:=Bd.any λw=>pre w rest
theorem mh{w r:B1}(h:w∈Bd):xq (w++r)=true:=xZ.mpr ⟨w,h,pre_app w r⟩
theorem EM(x:CD)(b:B1):xq (x.txt b)=true:=by
 have rp:∀(x:RP)(b:B1),xq (x.txt b)=true:=λx b=>by
  cases x with
  |row d v=>exact mh (w:=[114,111,119,32]) (by decide)
  |like w t=>exact mh (w:=[47]) (by decide)
 have pc:∀(x:PC)(b:B1),xq (x.txt b)=true:=λx b=>by
  cases x with
  |ft x y=>exact mh (w:=[102,114,111,109,32]) (by decide)
  |rp x=>exact rp x b
 cases x with
 |no x=>exact mh (w:=[110,111,116,32]) (by decide)
 |pc x=>exact pc x b
def prT(rest:B1):T->T
 |.str w=>.bl (pre w rest)
 |_=>.non
theorem qF(f:B1->Bool):∀l:Ap,boolsOf (l.map λw=>T.bl (f w))=some (l.map f)
 |[]=>rfl
 |w::l=>by
  show(boolsOf (l.map λw=>T.bl (f w))).map _=_;rw[qF f l];rfl
theorem any_eq{rest:B1}{k:Int}:D.tB (bg wM (k1 (cY (bB (nz (cF (.tup [(.str [114,111,119,32]),(.str [108,97,115,116]),(.str [47]),(.str [115,111,111,110,32]),(.str [102,114,111,109,32]),(.str [110,111,116,32]),(.str [101,110,100])]))) 2 [0] (setG 1) cX (kL AR (aC M.P.tab 31 (vF 2)) (k1 (vF 1))))))) (St [none] rest k)=.ok (xq rest,St [none] rest k):=by
 have e:bg wM (k1 (cY (bB (nz (cF (.tup [(.str [114,111,119,32]),(.str [108,97,115,116]),(.str [47]),(.str [115,111,111,110,32]),(.str [102,114,111,109,32]),(.str [110,111,116,32]),(.str [101,110,100])]))) 2 [0] (setG 1) cX (kL AR (aC M.P.tab 31 (vF 2)) (k1 (vF 1)))))) (St [none] rest k)=.ok (.bl (xq rest),St [none] rest k):=by
  refine dY (ts:=[.lst ((Bd.map T.str).map (prT rest))]) (aw (kc (lu (ts:=Bd.map T.str) (s1:=St [none] rest k) rfl (by decide) (jw λt ht=>?_))) rfl) ?_
  ·obtain⟨w,_,rfl⟩:=eU.mp ht
   exact⟨[none,sv (.str w),sv (.own 0)],[none,sv (.str w),sv (.own 0)],rfl,rfl⟩
  ·have:(Bd.map T.str).map (prT rest)=Bd.map λw=>T.bl (pre w rest):=by rw[fQ];rfl
   rw[this];simp only[wM,MT,qF];unfold xq;rw[Option.map_some,BO];rfl
 unfold D.tB;rw[e];rfl
inductive LN where
 |full (c:CD) (x:DD)
def LN.ok:LN->Prop
 |.full c x=>c.ok/\x.ok
noncomputable def LN.txt:LN->B1->B1
 |.full c x,b=>c.txt (58::32::x.txt b)
def LN.cond:LN->T
 |.full c _=>c.val
def LN.oi:LN->T
 |.full _ x=>x.val
noncomputable def LN.val(x:LN):T:=.obj 1 [x.cond,x.oi]
theorem Yr(x:CD)(b w:B1):pre (109::w) (x.txt b)=false:=by
 cases x with
 |no x=>exact fH (by decide)
 |pc x=>exact xo (by decide)
theorem Uu(b:B1):Us (58::b):=λc h=>by cases h;decide
theorem r9{x:LN}{b:B1}{k:Int}(h:x.ok):cN (n+12) 35 [.own 0] (SC (x.txt b) k)=.ok (x.val,SC b k):=by
 rw[w35];cases x with
 |full c x=>
  refine eK (s':=St [sv c.val] b k) rfl (skip (n+10) (Yr c _ _) (seq1 (s':=St [none] (c.txt (58::32::x.txt b)) k) (A7 (s':=St [none] (c.txt (58::32::x.txt b)) k) ?_ rfl) (seq1 (s':=St [sv c.val] (58::32::x.txt b) k) (gF (cR (ts:=[]) rfl (IA n h.1 (Uu _)))) (seq1 (s':=St [sv c.val] (x.txt b) k) (mP (w:=[58,32]) (rest:=x.txt b) (n+9)) (gE (kR (ts:=[c.val,x.val]) (aw (t:=c.val) rfl (aw (cR (ts:=[]) rfl (IB (n+1) h.2)) rfl)) rfl)))))) rfl;exact u7 ((any_eq (rest:=c.txt (58::32::x.txt b))).trans (by rw[EM]))
theorem IC{row:B1}{k:Int}:cN (n+1) 105 [.own 0,.str row,.int k] [⟨27,[]⟩]=.ok (.non,SC row k):=by
 rw[Yg];rfl
def oj(x:LN):Prop:=∀n m,cN (n+7) 47 [x.cond,x.oi] m=.ok (.bl true,m)
theorem xr{x:LN}{k:Int}(h:x.ok)(hs:oj x)(hw:noOwn x.val=true):cN (n+13) 34 [.str (x.txt []),.int k] m=.ok (x.val,m):=by
 rw[w34];refine nV (m':=SC [] k) rfl ?_ hw;refine eK (s':=⟨[sv (.str (x.txt [])),sv (.int k),sv (.own 0),sv x.val],SC [] k⟩) rfl ?_ rfl;refine seq1 (s':=⟨[sv (.str (x.txt [])),sv (.int k),sv (.own 0),none],SC (x.txt []) k⟩) ?_ (seq1 (s':=⟨[sv (.str (x.txt [])),sv (.int k),sv (.own 0),sv x.val],SC [] k⟩) ?_ (seq1 (s':=⟨[sv (.str (x.txt [])),sv (.int k),sv (.own 0),sv x.val],SC [] k⟩) (A7 (s':=⟨[sv (.str (x.txt [])),sv (.int k),sv (.own 0),sv x.val],SC [] k⟩) ?_ rfl) rfl))
 ·refine gF (t:=.own 0) (s':=⟨[sv (.str (x.txt [])),sv (.int k),none,none],SC (x.txt []) k⟩) ?_
  exact Up (ts:=[.str (x.txt []),.int k]) (s':=⟨[sv (.str (x.txt [])),sv (.int k),none,none],[]⟩) rfl (IC (n+11))
 ·exact gF (eL (ts:=[.own 0]) (s':=⟨[sv (.str (x.txt [])),sv (.int k),sv (.own 0),none],SC (x.txt []) k⟩) rfl (r9 n h))
 ·have e:ao (cN (n+12) 47) [] (k2 (aC M.P.tab 1 (vF 3)) (aC M.P.tab 2 (vF 3))) ⟨[sv (.str (x.txt [])),sv (.int k),sv (.own 0),sv x.val],SC [] k⟩=.ok (.bl true,⟨[sv (.str (x.txt [])),sv (.int k),sv (.own 0),sv x.val],SC [] k⟩):=eL (ts:=[x.cond,x.oi]) (s':=⟨[sv (.str (x.txt [])),sv (.int k),sv (.own 0),sv x.val],SC [] k⟩) rfl (hs (n+5) _)
  refine VG (s1:=⟨[sv (.str (x.txt [])),sv (.int k),sv (.own 0),sv x.val],SC [] k⟩) rfl (u7 ?_);unfold D.tB;rw[e];rfl
structure Lk(x:LN):Prop where
 ok:x.ok
 ms:oj x
 no:noOwn x.val=true
abbrev gH(xs:List LN):FK:=xs.map λx=>.str (x.txt [])
abbrev bV(xs:List LN):FK:=xs.map LN.val
theorem u_(n:Nat){R:Option C}:∀(xs:List LN)(j:Nat)(done:FK)(u v:Option C),(∀x∈xs,Lk x)->j+xs.length<=25->done.length<=j->∃u' v',bU (e7 [2,3]) (af (aU (D.bP (bo (aI .Gt) (vF 2) (cI 24))) c_ aE) (gQ 1 (ao (cN (n+13) 34) [] (k2 (vF 3) (vF 2))))) (cZ (j:Nat) (gH xs)) ⟨[R,some (.ol done),u,v],[]⟩=.ok (.nx,⟨[R,some (.ol (done++bV xs)),u',v'],[]⟩)
 |[],j,done,u,v,_,_,_=>⟨u,v,by rw[show done++bV []=done from dz _];rfl⟩
 |x::xs,j,done,u,v,h,hj,hd=>by
  have hx:=h x (eg ..);rw[bz]at hj;obtain⟨u',v',e⟩:=u_ n xs (j+1) (done++[x.val]) (sv (.int (j:Nat))) (sv (.str (x.txt []))) (λy hy=>h y (ez _ hy)) (by omega) (by rw[cK];show done.length+1<=_;omega)
  refine⟨u',v',zy (r:=[R,some (.ol done),sv (.int (j:Nat)),sv (.str (x.txt []))]) rfl (seq1 (s':=⟨[R,some (.ol done),sv (.int (j:Nat)),sv (.str (x.txt []))],[]⟩) (A7 (s':=⟨[R,some (.ol done),sv (.int (j:Nat)),sv (.str (x.txt []))],[]⟩) ?_ rfl) (xm (HQ:=done) (ts:=done) rfl (eL (ts:=[.str (x.txt []),.int (j:Nat)]) (s':=⟨[R,some (.ol done),sv (.int (j:Nat)),sv (.str (x.txt []))],[]⟩) rfl (xr n hx.ok hx.ms hx.no)) rfl (by omega))) ?_⟩
  ·have g:decide ((24:Int)<(j:Nat))=false:=decide_eq_false (by omega)
   simp only[ev,r6,bj,pU,Ba,g]
  ·have e2:done++bV (x::xs)=done++[x.val]++bV xs:=by simp
   rw[e2];exact e
theorem fK:∀(a:List LN),(∀x∈a,Lk x)->aB (bV a)=true
 |[],_=>rfl
 |x::a,h=>by
  show(noOwn x.val&&aB (bV a))=true;rw[(h x (eg ..)).no,fK a λy hy=>h y (ez _ hy)];rfl
theorem ly:∀(a:List LN),aB (gH a)=true
 |[]=>rfl
 |x::a=>by
  show(true&&aB (gH a))=true;rw[ly a];rfl
theorem vc{xs:List LN}(h:∀x∈xs,Lk x)(hl:xs.length<=24):cN (n+14) 50 [.lst (gH xs)] m=.ok (.lst (bV xs),m):=by
 rw[w50];obtain⟨u,v,e⟩:=u_ n (R:=sv (.lst (gH xs))) xs 1 [] none none h (by omega) (i6 _)
 refine nV (m':=[]) ?_ (eK (s':=⟨[sv (.lst (gH xs)),sv (.lst (bV xs)),u,v],[]⟩) rfl (seq1 (s':=⟨[sv (.lst (gH xs)),some (.ol []),none,none],[]⟩) rfl (seq1 (Yo (ts:=cZ 1 (gH xs)) (s1:=⟨[sv (.lst (gH xs)),some (.ol []),none,none],[]⟩) rfl e) rfl)) rfl) ?_
 ·show(aB (gH xs)&&true)=true
  rw[ly];rfl
 ·exact fK xs h
theorem OL(x:LN):fZ M.P.sub [12] x.oi=some (.bl false):=by
 obtain⟨c,d⟩:=x;cases d<;>rfl
theorem Yt(x:LN):fZ M.P.sub [21] x.oi=some (.bl false):=by
 obtain⟨c,d⟩:=x;cases d<;>rfl
theorem om:∀{l:FK}{i:Int}{t:T},t∈cZ i l->∃j x,x∈l/\t=.tup [.int j,x]
 |[],_,_,h=>by cases h
 |x::l,i,t,h=>by
  rcases cu.mp (show t∈T.tup [.int i,x]::cZ (i+1) l from h)with z|z
  ·exact⟨i,x,eg ..,z⟩
  ·obtain⟨j,y,h1,h2⟩:=om z
   exact⟨j,y,ez _ h1,h2⟩
theorem Lb{B:FS}{R D u v:Option C}{xs:List LN}(hB:∀(x:LN)(u:Option C),W (B ⟨[R,D,u,sv x.val],[]⟩) λp=>p.1=.nx/\p.2=⟨[R,D,u,sv x.val],[]⟩):W (bU (e7 [2,3]) B (cZ 1 (bV xs)) ⟨[R,D,u,v],[]⟩) λp=>p.1=.nx/\∃u v,p.2=⟨[R,D,u,v],[]⟩:=Iv (I:=λs=>∃u v,s=⟨[R,D,u,v],[]⟩) (λt ht s hI=>by
 obtain⟨u,v,rfl⟩:=hI;obtain⟨j,x,hx,rfl⟩:=om ht;obtain⟨q,_,rfl⟩:=eU.mp hx;exact⟨_,rfl,(hB q _).mono λp hp=>⟨hp.1,_,_,hp.2⟩⟩) ⟨u,v,rfl⟩
theorem vd{xs:List LN}(hv:∀x∈xs,Lk x):cN (n+1) 51 [.lst (bV xs)] m=.ok (.dq [] [],m):=by
 rw[w51];refine W.eq (nX ?_ (kQ rfl (dm (W.of (a:=(Out.nx,(⟨[sv (.lst (bV xs)),some (.od [] []),none,none],[]⟩:S))) rfl ⟨rfl,dm (gG (W.of (a:=(cZ 1 (bV xs),(⟨[sv (.lst (bV xs)),some (.od [] []),none,none],[]⟩:S))) rfl ((Lb λx u=>fJ (jx (t:=x.oi) rfl (OL x)) ⟨_,rfl,rfl,rfl⟩).mono λp hp=>⟨hp.1,?_⟩)))⟩))))
 ·show(aB (bV xs)&&true)=true
  rw[fK xs hv];rfl
 ·obtain⟨_,u,v,e⟩:=hp
  rw[e];exact A9 (t:=.dq [] []) (s':=⟨[sv (.lst (bV xs)),sv (.dq [] []),u,v],[]⟩) rfl ⟨rfl,rfl⟩
theorem refuse_eq{xs:List LN}(hv:∀x∈xs,Lk x):cN (n+1) 52 [.lst (bV xs),.dq [] []] m=.ok (.non,m):=by
 rw[w52];refine W.eq (nX ?_ (e8 rfl (gG (W.of (a:=(cZ 1 (bV xs),(⟨[sv (.lst (bV xs)),sv (.dq [] []),none,none],[]⟩:S))) rfl ((Lb λx u=>fJ (s':=⟨[sv (.lst (bV xs)),sv (.dq [] []),u,sv x.val],[]⟩) ?_ ⟨_,rfl,rfl,rfl⟩).mono λp hp=>⟨hp.1,rfl,rfl⟩)))))
 ·show(aB (bV xs)&&(true&&true))=true
  rw[fK xs hv];rfl
 ·unfold fD
  rw[jx (s:=⟨[sv (.lst (bV xs)),sv (.dq [] []),u,sv x.val],[]⟩) (t:=x.oi) rfl (Yt x)];rfl
theorem jy{c:Nat}:∀{p q:B1},c∉p->aZ c (p++c::q)=p::aZ c q
 |[],q,_=>by show aZ c (c::q)=_;rw[aZ,if_pos rfl]
 |d::p,q,h=>by
  have hd:d≠c:=λe=>h (by rw[e];exact eg ..)
  show aZ c (d::(p++c::q))=_;rw[aZ,if_neg hd,jy (λz=>h (ez _ z))]
theorem lA{c:Nat}:∀{ls:Ap},ls≠[]->(∀l∈ls,c∉l)->aZ c (cQ [c] ls++[c])=ls++[[]]
 |[],h,_=>absurd rfl h
 |[a],_,h=>by
  show aZ c (a++c::[])=_;rw[jy (h a (eg ..))];rfl
 |a::b::r,_,h=>by
  show aZ c (a++[c]++cQ [c] (b::r)++[c])=_;rw[c6,c6];show aZ c (a++c::(cQ [c] (b::r)++[c]))=_;rw[jy (h a (eg ..)),lA (by simp) λl hl=>h l (ez _ hl)]
  rfl
theorem ID{α:Type}(xs:List α)(x:α):atT (xs++[x]) (-1)=some x:=by
 unfold atT;rw[if_neg (by decide),if_pos (by rw[cK,z_];omega)]
 have:(-1+((xs++[x]).length:Int)).toNat=xs.length:=by rw[cK,z_];omega
 rw[this];simp
theorem ve{α:Type}(xs:List α)(x:α):bA (xs++[x]) none (some (-1))=xs:=by
 unfold bA gx;dsimp only;rw[if_pos (by decide)]
 have:(-1+((xs++[x]).length:Int)).toNat=xs.length:=by rw[cK,z_];omega
 rw[this];simp
theorem aaf:lL (.int 1)=some (.int (-1)):=rfl
theorem lB:∀(l:Ap),aB (l.map T.str)=true
 |[]=>rfl
 |x::a=>by
  show(true&&aB (a.map T.str))=true;rw[lB a];rfl
theorem IE{ls:Ap}(h:∀l∈ls,10∉l)(h0:ls≠[])(hz:(cQ [10] ls++[10]).length<=100000):cN (n+1) 1 [.str (cQ [10] ls++[10])] m=.ok (.tup [.lst (ls.map T.str),.bl true],m):=by
 rw[w1];have e:splitM (cQ [10] ls++[10]) [.str [10]]=some (.lst ((ls++[[]]).map T.str)):=by
  show gd _ _=_;rw[jd hz,lA h0 h]
 have e2:gS (.lst ((ls++[[]]).map T.str)) (.int (-1))=some (.str []):=by
  show atT _ (-1)=_;rw[gy];exact ID _ _
 have e3:bA ((ls++[[]]).map T.str) none (some (-1))=ls.map T.str:=by
  rw[gy];exact ve _ _
 refine sEq rfl rfl ?_ (bS (PY rfl rfl e) (bY (mf (aR (aR (t:=.lst ((ls++[[]]).map T.str)) rfl (u:=.int (-1)) rfl e2) rfl (by rw[Iz,decide_eq_true rfl]))) (bR (dY (ts:=[.lst (ls.map T.str),.bl true]) (aw (by show Res.ok (T.lst (bA ((ls++[[]]).map T.str) none (some (-1))),_)=_;rw[e3];rfl) rfl) rfl) rfl)))
 show(aB (ls.map T.str)&&(true&&true))=true;rw[lB];rfl
theorem IF{xs:List LN}{text:B1}{b:Bool}(hv:∀x∈xs,Lk x)(hl:xs.length<=24)(hc:∀m,cN (n+14) 1 [.str text] m=.ok (.tup [.lst (gH xs),.bl b],m)):cN (n+15) 49 [.str text] m=.ok (.obj 0 [.lst (bV xs)],m):=by
 rw[w49];refine sEq rfl rfl ?_ (bS (cE (ts:=[.lst (gH xs)]) (aw (pE (cE (ts:=[.str text]) rfl (hc _)) rfl rfl) rfl) (vc n hv hl)) (bS (cE (ts:=[.lst (bV xs)]) rfl (vd (n+13) hv)) (dm (dE (cE (ts:=[.lst (bV xs),.dq [] []]) rfl (refuse_eq (n+13) hv)) ⟨rfl,bR rfl rfl⟩))));show(aB (bV xs)&&true)=true;rw[fK xs hv];rfl
def VI:B1:=[94,36,46,91,93,42,43,63,47]
def vf(c:Nat):Bool:=decide (c∈oh)&&!decide (c∈VI)
theorem Uv(c:Nat)(l:B1):aI .NotIn (.str [c]) (.str l)=some (.bl (!decide (c∈l))):=rfl
theorem vg{a b:FE}{s s1:S}{x y:Bool}(h:a s=.ok (.bl x,s1))(h2:x=true->b s1=.ok (.bl y,s1)):pL a b s=.ok (.bl (x&&y),s1):=by
 unfold pL;rw[h];refine Eq.trans (bj _ _) ?_;cases x with
 |true=>exact h2 rfl
 |false=>rfl
theorem EN{c:Nat}:cN (n+1) 4 [.str [c]] m=.ok (.bl (vf c),m):=by
 rw[w4];exact sEq rfl rfl rfl (bR (vg (aR rfl rfl (OH c oh)) λ_=>aR rfl rfl (Uv c VI)) rfl)
theorem r_(a b:Int):aI .Eq (.int a) (.int b)=some (.bl (decide (a=b))):=rfl
theorem aag(a b:Int):aI .NotEq (.int a) (.int b)=some (.bl (!decide (a=b))):=rfl
inductive IT where
 |pl (c:Nat)
structure Itm where
 k:IT
 mn:Nat
def IT.c:IT->Nat
 |.pl c=>c
def IT.sg(k:IT):B1:=[k.c]
def IT.ot(_:IT):Bool:=false
noncomputable def Itm.val(i:Itm):T:=.tup [.str i.k.sg,.bl i.k.ot,.str [i.mn]]
def Itm.ok(i:Itm):Prop:=vf i.k.c=true/\i.mn=49
abbrev fV(ws:B1):List Itm:=ws.map λc=>⟨.pl c,49⟩
theorem sd:∀{its:List Itm},(∀i∈its,Itm.ok i)->∃ws,its=fV ws/\∀c∈ws,vf c=true
 |[],_=>⟨[],rfl,λ_ z=>nomatch z⟩
 |⟨.pl c,mn⟩::r,h=>by
  obtain⟨ws,rfl,h2⟩:=sd (its:=r) λi hi=>h i (ez _ hi);obtain⟨h0,rfl⟩:=h _ (eg ..);exact⟨c::ws,rfl,λd hd=>(cu.mp hd).elim (λz=>z▸h0) (h2 d)⟩
theorem jz{c:Nat}(h:vf c=true):c∈oh/\c∉VI:=by
 unfold vf at h;rw[cO]at h;refine⟨of_decide_eq_true h.1,λz=>?_⟩;rw[decide_eq_true z]at h;cases h.2
theorem xu{c:Nat}(hk:vf c=true):cN (n+4) 9 [.str [c],.str [49]] m=.ok (Itm.val ⟨.pl c,49⟩,m):=by
 obtain⟨h1,h2⟩:=jz hk;rw[w9];exact sEq rfl rfl rfl (bN (mf (aR (t:=.str [c]) (u:=.str [46]) rfl rfl (by rw[Iz,decide_eq_false λz=>h2 (by injection z with z _;rw[z];decide)]))) (bN (Bt (by show Res.ok (T.bl (pre [91] [c]),_)=_;rw[fH λz=>h2 (by rw[<- z];decide)])) (bN (u7 (Bt (by have e:=EN (n+2) (c:=c) (m:=[]);rw[hk]at e;exact cE (ts:=[.str [c]]) rfl e))) (bR rfl rfl))))
theorem Ld{D R:B1}{c:Nat}:gS (.str (D++c::R)) (.int (D.length:Nat))=some (.str [c]):=by
 show(atT (D++c::R) (D.length:Int)).map _=_;rw[eX (by simp)]
 simp
theorem Yu(a b:B1):aI .NotEq (.str a) (.str b)=some (.bl (!decide (a=b))):=rfl
theorem xw{D R:B1}{c:Nat}(h:c≠91):cN (n+1) 7 [.str (D++c::R),.int (D.length:Nat)] m=.ok (.int ((D.length+1:Nat):Int),m):=by
 rw[w7];exact sEq rfl rfl rfl (bY (mf (aR (aR (t:=.str (D++c::R)) (u:=.int (D.length:Nat)) rfl rfl Ld) rfl (by rw[Yu,decide_eq_false λz=>h (by injection z)];rfl))) (bR rfl rfl))
theorem OM{c:FT}{b:FS}{f:Nat}{s s1 s2:S}{q:Res (Out×S)}(h:c s=.ok (true,s1))(hb:b s1=.ok (.nx,s2))(k:aY c b f s2=q):aY c b (f+1) s=q:=by
 rw[aY,h];refine Eq.trans (bj _ _) ?_;dsimp only;rw[if_pos rfl,hb];exact k
theorem Uw{c:FT}{b:FS}{f:Nat}{s s1:S}(h:c s=.ok (false,s1)):aY c b (f+1) s=.ok (.nx,s1):=by
 rw[aY,h];rfl
theorem xx{P R:B1}{s:S}{b:FE}{j:Nat}(h:vF j s=.ok (.int (P.length:Nat),s))(h2:b s=.ok (.int ((P++R).length:Nat),s)):D.bP (bo (aI .Lt) (vF j) b) s=.ok (decide (R≠[]),s):=mf (aR h h2 (by rw[EI];congr 2;apply decide_eq_decide.mpr;cases R<;>simp;omega))
theorem IG{P R:B1}(h:∀c,R.head?=some c->c∉[42,43,63]):cN (n+1) 8 [.str (P++R),.int (P.length:Nat)] m=.ok (.str [49],m):=by
 rw[w8];refine sEq rfl rfl rfl (bN ?_ (bR rfl rfl));unfold fD;rw[xx (R:=R) rfl rfl];refine Eq.trans (bj _ _) ?_;cases R with
 |nil=>rfl
 |cons c R=>exact mf (aR (aR (t:=.str (P++c::R)) (u:=.int (P.length:Nat)) rfl rfl Ld) rfl (by rw[OH,decide_eq_false (h c rfl)]))
theorem vh(n:Nat){b:B1}:∀(ws P:B1)(dD:FK)(f:Nat)(u v:Option C),b=P++ws->(∀c∈ws,vf c=true)->ws.length<f->dD.length+ws.length<=1000 ->
  W (aY (_root_.D.bP (bo (aI .Lt) (vF 2) (bg bD (k1 (vF 0))))) (af (aH 3 (ao (cN (n+4) 7) [] (k2 (vF 0) (vF 2)))) (af (aH 4 (ao (cN (n+4) 8) [] (k2 (vF 0) (vF 3)))) (af (gQ 1 (ao (cN (n+4) 9) [] (k2 (oW (vF 0) (kG (vF 2)) (kG (vF 3))) (vF 4)))) (aH 2 (AN (_root_.D.bP (oE (vF 4) (cS [49]))) (vF 3) (oA (vF 3) (cI 1))))))) f ⟨[sv (.str b),some (.ol dD),sv (.int (P.length:Nat)),u,v],[]⟩) λq=>q.1=.nx/\∃p u' v',q.2=⟨[sv (.str b),some (.ol (dD++(fV ws).map Itm.val)),p,u',v'],[]⟩
 |ws,P,dD,0,u,v,_,_,hf,_=>absurd hf (JZ _)
 |[],P,dD,f+1,u,v,e,_,_,_=>by
  subst e;exact⟨_,Uw (xx (P:=P) (R:=[]) (s:=⟨[sv (.str (P++[])),some (.ol dD),sv (.int (P.length:Nat)),u,v],[]⟩) rfl rfl),rfl,_,u,v,by rw[show dD++(fV []).map Itm.val=dD from dz dD]⟩
 |c::r,P,dD,f+1,u,v,e,h,hf,hl=>by
  have hi:=h c (eg ..);have hr:∀j∈r,vf j=true:=λj hj=>h j (ez _ hj);rw[bz]at hf hl;have hn:=(jz hi).2;have eQ:b=(P++[c])++r:=by rw[e];simp
  have bO:(P++[c]).length=P.length+1:=by rw[cK];rfl
  obtain⟨q,eq,h1,p,u',v',h2⟩:=vh n r (P++[c]) (dD++[Itm.val ⟨.pl c,49⟩]) f (sv (.int ((P.length+1:Nat):Int))) (sv (.str [49])) eQ hr (by omega) (by rw[cK,z_];omega)
  have hm:=IG (n+3) (P:=P++[c]) (R:=r) (m:=[]) λd hd z=>by
   have:=(jz (hr d (List.mem_of_mem_head? hd))).2
   refine this ?_;unfold VI;simp at z ⊢;omega
  rw[<- eQ,bO]at hm;rw[bO]at eq;have ek:bA b (some ((P.length:Nat):Int)) (some ((P.length+1:Nat):Int))=[c]:=by rw[e];exact Iu P [c] r
  refine⟨q,OM (s1:=⟨[sv (.str b),some (.ol dD),sv (.int (P.length:Nat)),u,v],[]⟩) ?_ (seq1 (gF (cE (ts:=[.str b,.int (P.length:Nat)]) rfl (by rw[e];exact xw (n+3) (λz=>hn (by rw[z];decide))))) (seq1 (gF (cE (ts:=[.str b,.int ((P.length+1:Nat):Int)]) rfl hm)) (seq1 (xm (HQ:=dD) (ts:=dD) rfl (cE (ts:=[.str [c],.str [49]]) (aw (by show Res.ok (T.str (bA b (some ((P.length:Nat):Int)) (some ((P.length+1:Nat):Int))),_)=_;rw[ek]) rfl) (xu n hi)) rfl (by omega)) rfl))) eq,h1,p,u',v',by rw[h2];simp⟩
  subst e;exact xx (P:=P) (R:=c::r) (s:=⟨[sv (.str (P++c::r)),some (.ol dD),sv (.int (P.length:Nat)),u,v],[]⟩) (j:=2) (b:=bg bD (k1 (vF 0))) rfl rfl
theorem g_:∀l:List Itm,aB (l.map Itm.val)=true
 |[]=>rfl
 |a::l=>by show((true&&(true&&(true&&true)))&&aB (l.map Itm.val))=true;rw[g_ l];rfl
theorem vj{ws:B1}(h:∀c∈ws,vf c=true)(hl:ws.length<=8):cN (n+5) 6 [.str ws] m=.ok (.lst ((fV ws).map Itm.val),m):=by
 rw[w6];refine sEq rfl rfl (g_ _) (dm (W.of rfl ⟨rfl,bS rfl (dm ((vh n ws [] [] many none none rfl h (by show ws.length<1000000;omega) (by show 0+_<=_;omega)).mono λq hq=>⟨hq.1,?_⟩))⟩))
 obtain⟨_,p,u,v,e⟩:=hq;rw[e];exact A9 rfl rfl
def fT(b:Bool):B1:=if b then[94]else[]
def bT(b:Bool):B1:=if b then[36]else[]
def ON(its:List Itm):B1:=its.map λi=>i.k.c
def kT(f:Bool)(its:List Itm)(b:Bool):B1:=fT f++(ON its++bT b)
def bH(f:Bool)(its:List Itm)(b:Bool):T:=.tup [.bl f,.lst (its.map Itm.val),.bl b]
theorem zA(ws:B1):ON (fV ws)=ws:=by
 unfold ON;rw[fQ];exact List.map_id' ws
theorem mi(f b:Bool)(ws:B1):kT f (fV ws) b=fT f++(ws++bT b):=by unfold kT;rw[zA]
theorem vm(a:B1)(c:Nat):Hb [36] (a++[c])=decide (c=36):=by
 unfold Hb;have h1:decide ([36].length<=(a++[c]).length)=true:=decide_eq_true (by simp)
 have h2:(a++[c]).drop ((a++[c]).length - [36].length)=[c]:=by
  rw[show(a++[c]).length - [36].length=a.length by simp,BY]
 rw[h1,h2,Ae,Cb];simp
section
variable{f b:Bool}{ws:B1}
theorem OO(h:∀c∈ws,vf c=true):Hb [36] ws=false:=by
 rcases List.eq_nil_or_concat ws with e|⟨a,c,e⟩
 ·rw[e];rfl
 ·rw[List.concat_eq_append]at e
  rw[e,vm,decide_eq_false λz=>(jz (h c (by rw[e];simp))).2 (by rw[z];decide)]
theorem OP(h:∀c∈ws,vf c=true)(b:Bool):pre [94] (ws++bT b)=false:=by
 cases ws with
 |nil=>cases b<;>rfl
 |cons c l=>exact fH λz=>(jz (h c (eg ..))).2 (by rw[<- z];decide)
theorem zB(h:∀c∈ws,vf c=true):∀c∈fT f++(ws++bT b),c∈oh/\c≠47:=by
 intro c hc;rcases gn.mp hc with z|z
 ·cases f with
  |true=>rw[dG.mp z];decide
  |false=>cases z
 ·rcases gn.mp z with z|z
  ·exact⟨(jz (h c z)).1,λq=>(jz (h c z)).2 (by rw[q];decide)⟩
  ·cases b with
   |true=>rw[dG.mp z];decide
   |false=>cases z
theorem zC(hl:ws.length<=8):(fT f++(ws++bT b)).length<=10:=by
 have h2:(fT f).length<=1:=by cases f<;>decide
 have h3:(bT b).length<=1:=by cases b<;>decide
 rw[cK,cK];omega
end
theorem hU{f b:Bool}{its:List Itm}(h:∀i∈its,i.ok)(hl:its.length<=8):cN (n+7) 5 [.str (kT f its b)] m=.ok (bH f its b,m):=by
 obtain⟨ws,rfl,q⟩:=sd h;rw[bF]at hl;rw[w5,mi];have hpl:=zC (f:=f) (b:=b) hl;have e1:pre [94] (fT f++(ws++bT b))=f:=by
  cases f with
  |true=>exact pre_app [94] (ws++bT b)
  |false=>exact OP q b
 have e2:Hb [36] (ws++bT b)=b:=by
  cases b with
  |true=>rw[show ws++bT true=ws++[36]from rfl,vm];rfl
  |false=>rw[show ws++bT false=ws from dz _];exact OO q
 refine sEq rfl rfl (by show(true&&(aB ((fV ws).map Itm.val)&&(true&&true)))=true;rw[g_];rfl) (bN rfl (bN (u7 (Bt (cE (ts:=[.str (fT f++(ws++bT b)),.str oh]) rfl (n_ (n+5) (λc hc=>(zB q c hc).1) (by omega))))) (bS (t:=.bl f) (PY (l:=fT f++(ws++bT b)) rfl rfl (congrArg (λz=>some (T.bl z)) e1)) (bS (t:=.str (ws++bT b)) ?_ (bS (t:=.bl b) (PY (l:=ws++bT b) rfl rfl (congrArg (λz=>some (T.bl z)) e2)) (bS (cE (ts:=[.str ws]) (aw ?_ rfl) (vj (n+1) q hl)) (bN (mf (aR (t:=.int (((fV ws).map Itm.val).length:Nat)) (u:=.int 8) rfl rfl (by rw[Ba,decide_eq_false (by rw[bF,bF];omega)]))) (bR rfl rfl))))))))
 ·cases f with
  |true=>
   show Res.ok (T.str (bA (fT true++(ws++bT b)) (some 1) none),_)=_;rw[show bA (fT true++(ws++bT b)) (some 1) none=ws++bT b from j_ [94] (ws++bT b)]
  |false=>rfl
 ·cases b with
  |true=>
   show Res.ok (T.str (bA (ws++[36]) none (some (-1))),_)=_;rw[ve]
  |false=>
   show Res.ok (T.str (ws++[]),_)=_;rw[dz]
theorem Ux{f b:Bool}{its:List Itm}(h:∀i∈its,i.ok)(hl:its.length<=8):Pt (kT f its b) (bH f its b):=⟨λz=>by
 obtain⟨ws,rfl,q⟩:=sd h;rw[mi]at z;exact(zB q 47 z).2 rfl,λn m=>hU n h hl⟩
def OQ(i:Itm):Bool:=eqT (.str [42]) (.str [i.mn]) ||(eqT (.str [63]) (.str [i.mn]) ||false)
theorem II{i:Itm}:cN (n+1) 16 [i.val] m=.ok (.bl (OQ i),m):=by
 rw[w16];exact nV (m':=[]) rfl (eK (s':=⟨[sv i.val],[]⟩) rfl (gE (aR (t:=.str [i.mn]) (u:=.tup [.str [42],.str [63]]) rfl rfl rfl)) rfl) rfl
theorem dF(f b:Bool)(its:List Itm):noOwn (bH f its b)=true:=by
 show(true&&(aB (its.map Itm.val)&&(true&&true)))=true;rw[g_];rfl
abbrev s2(a b:T):S:=⟨[sv a,sv b],[]⟩
theorem OR{cv dv:T}(h1:fZ M.P.sub [10] cv=some (.bl false))(h2:fZ M.P.sub [17] dv=some (.bl false))(h3:fZ M.P.sub [23] dv=some (.bl false))(hc:noOwn cv=true)(hd:noOwn dv=true):cN (n+7) 47 [cv,dv] m=.ok (.bl true,m):=by
 rw[w47];refine nV (m':=[]) ?_ (eK (s':=s2 cv dv) rfl (seq1 (s':=s2 cv dv) (A7 (s':=s2 cv dv) (jx (t:=cv) rfl h1) rfl) (seq1 (s':=s2 cv dv) (A7 (s':=s2 cv dv) (jx (t:=dv) rfl h2) rfl) (gE ?_))) rfl) rfl
 ·show(noOwn cv&&(noOwn dv&&true))=true
  rw[hc,hd];rfl
 ·have e:du (fZ M.P.sub [23]) (vF 1) (s2 cv dv)=.ok (.bl false,s2 cv dv):=by
   simp only[ev,r6,bj,pU,h3]
  unfold pM;exact Eq.trans (congrArg (λz=>Res.bind z _) e) rfl
theorem EO(x:PC):fZ M.P.sub [10] x.val=some (.bl false):=by
 cases x with
 |rp x=>cases x<;>rfl
 |_=>rfl
theorem se{x:LN}(hc:noOwn x.cond=true)(hd:noOwn x.oi=true):oj x:=λn m=>by
 obtain⟨c,x⟩:=x;have hE:fZ M.P.sub [10] c.val=some (.bl false):=by
  cases c with
  |no y=>rfl
  |pc y=>exact EO y
 cases x<;>exact OR n hE rfl rfl hc hd
theorem Le{x:LN}(h:x.ok)(hc:noOwn x.cond=true)(hd:noOwn x.oi=true):Lk x:=⟨h,se hc hd,by
 show(noOwn x.cond&&(noOwn x.oi&&true))=true;rw[hc,hd];rfl⟩
theorem ER{c:Nat}(h:vf c=true):cN (n+2) 11 [.str [c],.bl false] m=.ok (.bl true,m):=by
 rw[w11];have e:=EN n (c:=c) (m:=[]);rw[h]at e;exact sEq rfl rfl rfl (bR (vg (x:=true) (y:=true) rfl λ_=>vg (x:=true) (y:=true) rfl λ_=>cE (ts:=[.str [c]]) rfl e) rfl)
theorem ES{c:Nat}(hk:vf c=true):cN (n+3) 13 [.str [c],.bl false] m=.ok (.str [c],m):=by
 rw[w13];exact sEq rfl rfl rfl (bN (mf (aR (t:=.str [c]) (u:=.str []) rfl rfl (by rw[Iz,decide_eq_false (List.cons_ne_nil c [])]))) (bN rfl (bY (Bt (cE (ts:=[.str [c],.bl false]) rfl (ER n hk))) (bR rfl rfl))))
def vR:B1->Ap
 |[]=>[]
 |c::r=>[c]::[]::vR r
theorem oq:∀ws:B1,(vR ws).flatten=ws/\(vR ws).length=2*ws.length
 |[]=>⟨rfl,rfl⟩
 |c::r=>by
  have ih:=oq r;constructor
  ·show c::(vR r).flatten=_;rw[ih.1]
  ·show(vR r).length+1+1=2*(r.length+1)
   rw[ih.2];omega
theorem ou(n:Nat){o:T}:∀(ws:B1)(dD:Ap)(u v w:Option C),(∀c∈ws,vf c=true)->dD.length+2*ws.length<=1000->W (bU (e7 [2,3,4]) (af (gQ 1 (ao (cN (n+3) 13) [] (k2 (vF 2) (vF 3)))) (gQ 1 (AN (_root_.D.bP (oE (vF 4) (cS [49]))) (cS []) (vF 4)))) ((fV ws).map Itm.val) ⟨[sv o,some (.ol (dD.map T.str)),u,v,w],[]⟩) λp=>p.1=.nx/\∃u v w,p.2=⟨[sv o,some (.ol ((dD++vR ws).map T.str)),u,v,w],[]⟩
 |[],dD,u,v,w,_,_=>⟨_,rfl,rfl,u,v,w,by rw[show dD++vR []=dD from dz _]⟩
 |c::r,dD,u,v,w,h,hl=>by
  rw[bz]at hl;have ih:=ou n (o:=o) r (dD++[[c],[]]) (sv (.str [c])) (sv (.bl false)) (sv (.str [49])) (λj hj=>h j (ez _ hj)) (by rw[cK];show dD.length+2+_<=_;omega)
  rw[show dD++vR (c::r)=dD++[[c],[]]++vR r by simp[vR]]
  rw[gy]at ih;refine qE rfl (wA (ts:=dD.map T.str) rfl (cE (ts:=[.str [c],.bl false]) rfl (ES n (h c (eg ..)))) (by rw[bF];omega) (W.of (xm (HQ:=dD.map T.str++[.str [c]]) (ts:=dD.map T.str++[.str [c]]) (t:=.str []) (s1:=⟨[sv o,some (.ol (dD.map T.str++[.str [c]])),sv (.str [c]),sv (.bl false),sv (.str [49])],[]⟩) rfl rfl rfl (by rw[cK,bF];show _+1<_;omega)) ⟨rfl,?_⟩))
  show W (bU _ _ _ ⟨[sv o,some (.ol (dD.map T.str++[.str [c]]++[.str []])),_,_,_],[]⟩) _;rw[c6];exact ih
theorem strs_map:∀l:Ap,strsOf (l.map T.str)=some l
 |[]=>rfl
 |a::l=>by
  show(strsOf (l.map T.str)).map (a::·)=_
  rw[strs_map l];rfl
theorem join_nil:∀l:Ap,cQ [] l=l.flatten
 |[]=>rfl
 |[a]=>by simp[cQ]
 |a::b::r=>by
  show a++[]++cQ [] (b::r)=_;rw[join_nil (b::r)];simp
theorem join_eq{l:Ap}(h:l.flatten.length<=100000):joinM [] [.lst (l.map T.str)]=some (.str l.flatten):=by
 show yx (.str []) (.lst (l.map T.str))=_;unfold yx;dsimp only;rw[strs_map];show gd _ _=_;rw[List.length_flatten]at h;have h:(l.map (·.length)).sum<=100000:=h
 rw[jd (by rw[qO,Nat.mul_zero];omega),join_nil]
theorem xy{f b:Bool}{its:List Itm}(h:∀i∈its,i.ok)(hl:its.length<=8):cN (n+4) 12 [bH f its b] m=.ok (.str (kT f its b),m):=by
 obtain⟨ws,rfl,q⟩:=sd h;rw[bF]at hl;rw[w12,mi];have ef:([fT f]++vR ws++[bT b]).flatten=fT f++(ws++bT b):=by
  rw[B0,B0,(oq ws).1];simp
 have ej:=join_eq (l:=[fT f]++vR ws++[bT b]) (by rw[ef];have:=zC (f:=f) (b:=b) hl;omega)
 rw[ef]at ej;refine sEq (by show(noOwn (bH f (fV ws) b)&&true)=true;rw[dF];rfl) rfl rfl (dm (W.of (a:=(.nx,⟨[sv (bH f (fV ws) b),some (.ol ([fT f].map T.str)),none,none,none],[]⟩)) (by cases f<;>rfl) ⟨rfl,dm (gG (W.of (a:=((fV ws).map Itm.val,⟨[sv (bH f (fV ws) b),some (.ol ([fT f].map T.str)),none,none,none],[]⟩)) rfl ((ou n (o:=bH f (fV ws) b) ws [fT f] none none none q (by show 1+_<=_;omega)).mono λp hp=>⟨hp.1,?_⟩)))⟩))
 obtain⟨_,u,v,w,e⟩:=hp;rw[e];refine dm (W.of (xm (HQ:=([fT f]++vR ws).map T.str) (ts:=([fT f]++vR ws).map T.str) (t:=.str (bT b)) (s1:=⟨[sv (bH f (fV ws) b),some (.ol (([fT f]++vR ws).map T.str)),u,v,w],[]⟩) rfl (by cases b<;>rfl) rfl (by rw[bF,cK,(oq ws).2];show 1+_<_;omega)) ⟨rfl,?_⟩)
 show WB _ ⟨[sv (bH f (fV ws) b),some (.ol (([fT f]++vR ws).map T.str++[bT b].map T.str)),u,v,w],[]⟩ _;rw[<- gy];exact A9 (PY (l:=[]) rfl (aw rfl rfl) ej) rfl
theorem Lf{gg:FG}{B:FS}{α:Type}{J:α->S->Prop}{f:α->T->α}:∀{ts:FK}{a:α}{s:S},(∀t∈ts,∀a s,J a s->∃r,gg t s.r=some r/\W (B ⟨r,s.m⟩) λp=>p.1=.nx/\J (f a t) p.2)->J a s->W (bU gg B ts s) λp=>p.1=.nx/\J (ts.foldl f a) p.2
 |[],a,s,_,h=>⟨_,rfl,rfl,h⟩
 |t::ts,a,s,k,h=>by
  obtain⟨r,e1,⟨o,s1⟩,e2,e3,h1⟩:=k t (eg ..) a s h;cases e3;obtain⟨p,e4,h2⟩:=Lf (ts:=ts) (λt ht=>k t (ez _ ht)) h1;refine⟨p,?_,h2⟩;rw[bU,e1];refine Eq.trans (bj _ _) ?_;show Res.bind (B ⟨r,s.m⟩) _=_;rw[e2];exact e4
def zD(i:Itm):Bool:=eqT (.str [42]) (.str [i.mn]) ||(eqT (.str [43]) (.str [i.mn]) ||false)
theorem ET{i:Itm}:cN (n+1) 17 [i.val] m=.ok (.bl (zD i),m):=by
 rw[w17];exact sEq rfl rfl rfl (bR rfl rfl)
def PZ(ag:Bool)(bh es:Dx)(p:Nat):Int:=if(ag&&decide (bh.getD (p+1) 0<es.getD (p+1) 0))=true then es.getD (p+1) 0 else bh.getD (p+1) 0
def gv(ag:Bool)(sg:B1)(ot:Bool)(row:B1)(bh es:Dx)(p:Nat):Dx:=
 if(decide (row.getD p 0∈sg) != ot)=true then(if es.getD p 0<PZ ag bh es p then es.set p (PZ ag bh es p)else es)else es
theorem sf{ag:Bool}{sg:B1}{ot:Bool}{row:B1}{bh es:Dx}{p:Nat}:(gv ag sg ot row bh es p).length=es.length:=by
 unfold gv;split
 ·split
  ·exact eA
  ·rfl
 ·rfl
def Uy:T->Nat
 |.int i=>i.toNat
 |_=>0
def F8(i:Itm)(row:B1)(bh:Dx):Dx:=((dZ row.length).map λk=>T.int (((row.length:Int)-1)-(k:Nat))).foldl (λes t=>gv (zD i) i.k.sg i.k.ot row bh es (Uy t)) (if OQ i then bh else ck bh.length (-1))
theorem zE{i:Itm}{row:B1}{bh:Dx}:(F8 i row bh).length=bh.length:=by
 unfold F8
 have:∀(l:FK)(es:Dx),(l.foldl (λes t=>gv (zD i) i.k.sg i.k.ot row bh es (Uy t)) es).length=es.length:=λl=>by
  induction l with
  |nil=>intro es;rfl
  |cons t l ih=>intro es;rw[z9,ih,sf]
 rw[this];split
 ·rfl
 ·exact iC
theorem Yv{l:Dx}{p:Nat}(h:p<l.length):vQ (.lst (l.map T.int)) (.int (p:Nat))=some (.int (l.getD p 0)):=by
 show atT (l.map T.int) (p:Int)=_;rw[eX (by rw[bF];exact h),dB,b8 h,fj,b8 h];rfl
theorem Yw{l:Dx}{p:Nat}(h:p+1<l.length):vQ (.lst (l.map T.int)) (.int ((p:Nat)+1))=some (.int (l.getD (p+1) 0)):=Yv (p:=p+1) h
theorem ixC{l:B1}{p:Nat}(h:p<l.length):gS (.str l) (.int (p:Nat))=some (.str [l.getD p 0]):=by
 show(atT l (p:Int)).map _=_;rw[eX h,b8 h,fj,b8 h];rfl
def EW(i:Itm)(row:B1)(bh es:Dx)(v7 v8:Option C):S:=⟨[sv i.val,sv (.str row),sv (.lst (bh.map T.int)),sv (.str i.k.sg),sv (.bl i.k.ot),sv (.bl (zD i)),some (.ol (es.map T.int)),v7,v8],[]⟩
section
variable{i:Itm}{row:B1}{bh es:Dx}{v7 v8:Option C}{p:Nat}{x:Int}
theorem Yx{b:FE}{q:Nat}(hq:q<es.length)(h:b (EW i row bh es v7 v8)=.ok (.int (q:Nat),EW i row bh es v7 v8)):jm 6 b (EW i row bh es v7 v8)=.ok (.int (es.getD q 0),EW i row bh es v7 v8):=by
 unfold jm;show Res.bind (b (EW i row bh es v7 v8)) _=_;rw[h];show Res.bind (aS (vQ (.lst (es.map T.int)) (.int (q:Nat)))) _=_;rw[Yv hq];rfl
theorem gtI(a b:Int):aI .Gt (.int a) (.int b)=some (.bl (decide (b<a))):=rfl
theorem Yy{e:Int}(hp:p<es.length):pS 6 (vF 7) (vF 8) (EW i row bh es (sv (.int (p:Nat))) (sv (.int e)))=.ok (.nx,EW i row bh (es.set p e) (sv (.int (p:Nat))) (sv (.int e))):=by
 show c8 6 (vF 7) (vF 8) _=_;unfold c8;show Res.bind (aS (gd (0<=((p:Nat):Int)/\((p:Nat):Int)<((es.map T.int).length:Nat)) ((es.map T.int).set ((p:Nat):Int).toNat (.int e)))) _=_;rw[jd ⟨by omega,by rw[bF];omega⟩]
 show Res.ok (Out.nx,i_ _ 6 (.ol ((es.map T.int).set ((p:Nat):Int).toNat (.int e))))=_;rw[qS,<- JM];rfl
theorem zF(hp:p<es.length)(hx:x=PZ (zD i) bh es p):W (aU (bP (bo (aI .Gt) (vF 8) (jm 6 (vF 7)))) (pS 6 (vF 7) (vF 8)) aE (EW i row bh es (sv (.int (p:Nat))) (sv (.int x)))) λq=>q.1=.nx/\∃v8,q.2=EW i row bh (if es.getD p 0<PZ (zD i) bh es p then es.set p (PZ (zD i) bh es p)else es) (sv (.int (p:Nat))) v8:=by
 subst hx;refine Ug (W.of (mf (aR rfl (Yx (q:=p) hp rfl) (gtI _ _))) ⟨λh=>?_,λh=>?_⟩)
 ·rw[if_pos (of_decide_eq_true h)]
  exact W.of (Yy hp) ⟨rfl,_,rfl⟩
 ·rw[if_neg (of_decide_eq_false h)]
  exact⟨_,rfl,rfl,_,rfl⟩
end
theorem f_(l:Dx):aB (l.map T.int)=true:=by
 induction l with
 |nil=>rfl
 |cons a l ih=>exact ih
theorem rep1(t:T):∀n:Nat,(ck n [t]).flatten=ck n t
 |0=>rfl
 |n+1=>by rw[jF,jF,sX,rep1 t n];rfl
section
variable{i:Itm}{row:B1}{bh es:Dx}{p:Nat}
theorem IJ(hr:row.length<=1000):A3 [.int ((row.length:Int)-1),.int (-1),.int (-1)]=some ((dZ row.length).map λk=>T.int (((row.length:Int)-1)-(k:Nat))):=by
 have e:((row.length:Int)-1+1).toNat=row.length:=by omega
 show gd _ _=_;rw[jd ⟨rfl,rfl,by omega,by omega⟩,e]
theorem o2r{g:T->T->FC}{a b:FE}{s s1 s2:S}{t u:T}{v:FK}(h:a s=.ok (t,s1))(h2:b s1=.ok (u,s2))(k:g t u=some v):o2 g a b s=.ok (v,s2):=by
 unfold o2;rw[h];refine Eq.trans (bj _ _) ?_;show Res.bind (b s1) _=_;rw[h2];refine Eq.trans (bj _ _) ?_;show Res.bind (aS (g t u)) _=_;rw[k];rfl
theorem IK{k:Nat}(h:k<=1001):A1 (.lst [.int (-1)]) (.int (k:Nat))=some (ck k (T.int (-1))):=by
 have e:A1 (.lst [.int (-1)]) (.int (k:Nat))=some (ck ((k:Nat):Int).toNat [T.int (-1)]).flatten:=jd ⟨by omega,by omega,by show 1*_<=_;omega⟩
 rw[e,qS,rep1]
theorem sj(hb:bh.length=row.length+1)(hr:row.length<=1000):cN (n+2) 22 [i.val,.str row,.lst (bh.map T.int)] m=.ok (.lst ((F8 i row bh).map T.int),m):=by
 rw[w22];refine sEq ?_ rfl (f_ _) (bS rfl (bS rfl (bS (cE rfl (ET n)) (dm (W.of (a:=(Out.nx,EW i row bh (if OQ i then bh else ck bh.length (-1)) none none)) ?_ ⟨rfl,dm (gG (W.of (a:=((dZ row.length).map λk=>T.int (((row.length:Int)-1)-(k:Nat)),EW i row bh (if OQ i then bh else ck bh.length (-1)) none none)) ?_ ?_))⟩)))))
 ·show(true&&(true&&(aB (bh.map T.int)&&true)))=true
  rw[f_];rfl
 ·unfold iQ Vz
  rw[Bt (cE (ts:=[i.val]) rfl (II n))];show Res.bind (if OQ i then _ else _) _=_
  cases OQ i with
  |true=>rfl
  |false=>
   rw[if_neg bZ,if_neg bZ,o2r (t:=.lst [.int (-1)]) (u:=.int (((bh.map T.int).length:Nat):Int)) (v:=(ck bh.length (-1)).map T.int) rfl rfl (by rw[bF,IK (by omega),JN])]
   rfl
 ·unfold ql
  show Res.bind (aS (A3 [.int ((row.length:Int)-1),.int (-1),.int (-1)])) _=_;rw[IJ hr];rfl
 refine(Lf (J:=λes s=>es.length=row.length+1/\∃v7 v8,s=EW i row bh es v7 v8) (f:=λes t=>gv (zD i) i.k.sg i.k.ot row bh es (Uy t)) (λt ht es s hJ=>?_) ⟨?_,_,_,rfl⟩).mono λq hq=>⟨hq.1,?_⟩
 ·obtain⟨he,v7,v8,rfl⟩:=hJ
  obtain⟨k,hk,rfl⟩:=eU.mp ht;have hk:=gj.mp hk;obtain⟨p,hp⟩:∃p,p=row.length-1-k:=⟨_,rfl⟩;rw[show((row.length:Int)-1)-(k:Nat)=((p:Nat):Int) by omega]
  refine⟨_,rfl,?_⟩;show W (aU _ _ _ (EW i row bh es (sv (.int (p:Nat))) v8)) λq=>q.1=.nx/\(gv (zD i) i.k.sg i.k.ot row bh es p).length=row.length+1/\∃v7 v8,q.2=EW i row bh (gv (zD i) i.k.sg i.k.ot row bh es p) v7 v8;rw[sf];unfold gv;refine Ug (W.of (mf (b:=decide (row.getD p 0∈i.k.sg) != i.k.ot) (aR (t:=.bl (decide (row.getD p 0∈i.k.sg))) (aR (t:=.str [row.getD p 0]) (aR rfl rfl (ixC (by omega))) rfl rfl) rfl rfl)) ⟨λ(hc:(decide (row.getD p 0∈i.k.sg) != i.k.ot)=true)=>?_,λ(hc:(decide (row.getD p 0∈i.k.sg) != i.k.ot)=false)=>?_⟩)
  ·rw[if_pos hc]
   refine wS (aR (t:=.lst (bh.map T.int)) (u:=.int ((p:Nat)+1)) rfl rfl (Yw (by omega))) (fU (Ug (W.of (EK (Bt (b:=zD i) rfl) (mf (aR (Yx (q:=p+1) (v8:=sv (.int (bh.getD (p+1) 0))) (by omega) rfl) rfl (gtI _ _)))) ⟨λ(ha:(zD i&&decide (bh.getD (p+1) 0<es.getD (p+1) 0))=true)=>W.of (gF (Yx (q:=p+1) (by omega) rfl)) ⟨rfl,(zF (by omega) (if_pos ha).symm).mono λq hq=>⟨hq.1,he,_,hq.2⟩⟩,λ(ha:(zD i&&decide (bh.getD (p+1) 0<es.getD (p+1) 0))=false)=>⟨_,rfl,rfl,(zF (by omega) (if_neg (by rw[ha];exact bZ)).symm).mono λq hq=>⟨hq.1,he,_,hq.2⟩⟩⟩)))
  ·rw[if_neg (by rw[hc];exact bZ)]
   exact⟨_,rfl,rfl,he,_,_,rfl⟩
 ·split
  ·exact hb
  ·rw[iC];exact hb
 ·obtain⟨_,v7,v8,e⟩:=hq.2
  rw[e];exact A9 rfl rfl
end
def OS(row:B1)(b:Bool):Dx:=if b then ck row.length (-1)++[(row.length:Int)]else(dZ (row.length+1)).map λk=>(0+((k:Nat):Int))
theorem zG{row:B1}{b:Bool}:(OS row b).length=row.length+1:=by
 unfold OS;split
 ·simp
 ·simp
def sQ(row:B1)(its:List Itm)(b:Bool):Dx:=its.reverse.foldl (λes i=>F8 i row es) (OS row b)
theorem mj{row:B1}{its:List Itm}{b:Bool}:(sQ row its b).length=row.length+1:=by
 unfold sQ
 have:∀(l:List Itm)(es:Dx),(l.foldl (λes i=>F8 i row es) es).length=es.length:=λl=>by
  induction l with
  |nil=>intro es;rfl
  |cons t l ih=>intro es;rw[z9,ih,zE]
 rw[this,zG]
def sR(row:B1)(f:Bool)(its:List Itm)(b:Bool):Dx:=if f then bA (sQ row its b) none (some 1)else sQ row its b
theorem rL{α β:Type}(f:α->β)(l:List α)(lo hi:D2):bA (l.map f) lo hi=(bA l lo hi).map f:=by
 unfold bA;rw[bF,JF,BP]
theorem o1r{g:T->FC}{a:FE}{s s1:S}{t:T}{v:FK}(h:a s=.ok (t,s1))(k:g t=some v):o1 g a s=.ok (v,s1):=by
 unfold o1;rw[h];refine Eq.trans (bj _ _) ?_;show Res.bind (aS (g t)) _=_;rw[k];rfl
theorem Uz(a:FK)(k:Int):dC .Mult (.lst a) (.int k)=gd (k<1000000/\-1000000<k/\a.length*k.toNat<=1000000) (.lst (ck k.toNat a).flatten):=rfl
theorem add_l(a b:FK):dC .Add (.lst a) (.lst b)=gd (a.length+b.length<=1000000) (.lst (a++b)):=rfl
theorem UA(j:Int):A2 (.int j)=gd (0<=j/\j<1000000) (iT 0 j.toNat):=rfl
section
variable{row:B1}{m:FV}{f b:Bool}{its:List Itm}
theorem EU{gg:FG}{B:FS}{α:Type}{I:α->S->Prop}{f:α->Itm->α}:∀{l:List Itm}{a:α}{s:S},(∀i∈l,∀a s,I a s->∃r,gg i.val s.r=some r/\W (B ⟨r,s.m⟩) λp=>p.1=.nx/\I (f a i) p.2)->I a s->W (bU gg B (l.map Itm.val) s) λp=>p.1=.nx/\I (l.foldl f a) p.2
 |[],_,_,_,h=>⟨_,rfl,rfl,h⟩
 |i::l,a,s,k,h=>by
  obtain⟨r,e,k1⟩:=k i (eg ..) a s h;exact qE e (k1.mono λp hp=>⟨hp.1,EU (λi hi=>k i (ez _ hi)) hp.2⟩)
theorem EV(hr:row.length<=1000):cN (n+1) 21 [.str row,.bl b] m=.ok (.lst ((OS row b).map T.int),m):=by
 rw[w21];refine sEq rfl rfl (f_ _) ?_;unfold OS;cases b with
 |true=>
  refine bY rfl (bR (aR (t:=.lst ((ck row.length (-1:Int)).map T.int)) (u:=.lst [.int row.length]) (aR (t:=.lst [.int (-1)]) (u:=.int row.length) rfl rfl ?_) rfl ?_) rfl)
  ·rw[Uz,jd ⟨by omega,by omega,by show 1*_<=_;omega⟩,qS,rep1,JN]
  ·rw[add_l,jd (by rw[bF,iC];show _+1<=_;omega),if_pos rfl,gy];rfl
 |false=>
  refine bN rfl (bR (kc (o1r (t:=.int ((row.length:Int)+1)) rfl ?_)) rfl);rw[UA,jd ⟨by omega,by omega⟩,show((row.length:Int)+1).toNat=row.length+1 by omega,if_neg bZ]
  unfold iT;rw[fQ];rfl
theorem vn(hr:row.length<=1000)(hl:its.length<=8):cN (n+3) 20 [bH f its b,.str row] m=.ok (.lst ((sR row f its b).map T.int),m):=by
 rw[w20];refine sEq (by show(noOwn (bH f its b)&&true)=true;rw[dF];rfl) rfl (f_ _) (bS (cE (ts:=[.str row,.bl b]) rfl (EV (n+1) hr)) (dm (gG (W.of (o1r (v:=its.reverse.map Itm.val) (t:=.lst (its.map Itm.val)) rfl (by rw[List.map_reverse];rfl)) ((EU (I:=λes s=>es.length=row.length+1/\∃v,s=⟨[sv (bH f its b),sv (.str row),sv (.lst (es.map T.int)),v],[]⟩) (f:=λes i=>F8 i row es) (λi _ es s hI=>?_) ⟨zG,none,rfl⟩).mono λq hq=>⟨hq.1,?_⟩)))))
 ·obtain⟨he,v,rfl⟩:=hI
  exact⟨_,rfl,W.of (gF (cE (ts:=[i.val,.str row,.lst (es.map T.int)]) rfl (sj n he hr))) ⟨rfl,by rw[zE];exact he,_,rfl⟩⟩
 obtain⟨_,_,v,e⟩:=hq;rw[e];unfold sR;cases f with
 |false=>exact bR rfl rfl
 |true=>
  refine bR rfl ?_;rw[if_pos rfl,<- rL];rfl
end
theorem Yz{A B:FS}{s:S}{G:T×FV->Prop}(h:W (A s) λp=>(∃t,p.1=.rt t/\G (t,p.2.m))\/(p.1=.nx/\WB B p.2 G)):WB (af A B) s G:=by
 obtain⟨⟨o,s'⟩,e,h⟩:=h;rcases h with⟨t,h1,h2⟩|⟨h1,h2⟩
 ·cases h1;exact K_ ⟨_,e,t,rfl,h2⟩
 ·cases h1;exact dm ⟨_,e,rfl,h2⟩
def lU(l:Dx):B1->T
 |[]=>.non
 |q::qs=>if l.getD q 0≠-1 then .tup [.int (q:Nat),.int (l.getD q 0)]else lU l qs
def OT(l:Dx):T:=lU l (dZ l.length)
def YA:T->Bool
 |.non=>true
 |_=>false
theorem vo(l:Dx):∀qs,noOwn (lU l qs)=true
 |[]=>rfl
 |q::qs=>by
  unfold lU;split
  ·rfl
  ·exact vo l qs
theorem zH(l:Dx):∀qs,aI .IsNot (lU l qs) .non=some (.bl (!YA (lU l qs)))
 |[]=>rfl
 |q::qs=>by
  unfold lU;split
  ·rfl
  ·exact zH l qs
theorem IL(k:Nat)(h:k<=1001):iz [.int 0,.int (k:Nat)]=some ((dZ k).map λq=>T.int ((q:Nat):Int)):=by
 have e2:(((k:Nat):Int)-0).toNat=k:=by omega
 show gd _ _=_;rw[jd ⟨by omega,by omega,by omega,by omega⟩,e2]
 unfold iT;exact congrArg some (Ac λq _=>by rw[yi])
section
variable{row:B1}{m:FV}{f b:Bool}{its:List Itm}{t u:T}
theorem neI(a c:Int):aI .NotEq (.int a) (.int c)=some (.bl (!decide (a=c))):=rfl
theorem EX{l:Dx}:∀(qs:B1)(v:Option C),(∀q∈qs,q<l.length)->W (bU (setG 4) (aU (bP (bo (aI .NotEq) (oI (vF 3) (vF 4)) (cI (-1)))) (aA (bg eV (k2 (vF 4) (oI (vF 3) (vF 4))))) aE) (qs.map λq=>T.int ((q:Nat):Int)) ⟨[sv t,sv u,sv (.int 0),sv (.lst (l.map T.int)),v],m⟩) λp=>p.2.m=m/\((p.1=.rt (lU l qs))\/(p.1=.nx/\lU l qs=.non))
 |[],v,_=>⟨_,rfl,rfl,.inr ⟨rfl,rfl⟩⟩
 |q::qs,v,h=>by
  have e0:gS (.lst (l.map T.int)) (.int (q:Nat))=some (.int (l.getD q 0)):=Yv (h q (eg ..));unfold lU;by_cases hd:l.getD q 0=-1
  ·rw[if_neg (λz=>z hd)]
   exact qE rfl (fJ (mf (aR (aR (t:=.lst (l.map T.int)) (u:=.int (q:Nat)) rfl rfl e0) rfl (by rw[neI,decide_eq_true hd];rfl))) ⟨_,rfl,rfl,EX qs _ λq hq=>h q (ez _ hq)⟩)
  ·rw[if_pos hd,cU,bU]
   refine⟨_,Eq.trans (bj _ _) (Eq.trans (congrArg (λx=>Res.bind x _) (Uc (mf (aR (aR (t:=.lst (l.map T.int)) (u:=.int (q:Nat)) rfl rfl e0) rfl (by rw[neI,decide_eq_false hd];rfl))) (gE (dY (ts:=[.int (q:Nat),.int (l.getD q 0)]) (aw rfl (aw (aR (t:=.lst (l.map T.int)) (u:=.int (q:Nat)) rfl rfl e0) rfl)) rfl)))) rfl),rfl,.inl rfl⟩
theorem IM:(sR row f its b).length<=row.length+1:=by
 unfold sR;split
 ·unfold bA
  rw[vU,o8,mj];omega
 ·rw[mj];exact cC _
theorem xA(hr:row.length<=1000)(hl:its.length<=8):cN (n+4) 18 [bH f its b,.str row,.int 0] m=.ok (OT (sR row f its b),m):=by
 rw[w18];have hg:=IM (row:=row) (f:=f) (its:=its) (b:=b);refine sEq (by show(noOwn (bH f its b)&&(true&&(true&&true)))=true;rw[dF];rfl) rfl (vo _ _) (bS (cE (ts:=[bH f its b,.str row]) rfl (vn n hr hl)) (Yz (gG (W.of (xn (ts:=[.int 0,.int ((sR row f its b).length:Nat)]) (aw rfl (aw (dY (ts:=[.lst ((sR row f its b).map T.int)]) rfl (by show some (T.int (((sR row f its b).map T.int).length:Nat))=_;rw[bF])) rfl)) (IL _ (by omega))) ((EX (dZ (sR row f its b).length) none λq hq=>gj.mp hq).mono λp hp=>?_)))))
 obtain⟨hm,h|⟨h1,h2⟩⟩:=hp
 ·exact .inl ⟨_,h,rfl⟩
 ·exact .inr ⟨h1,bR (t:=.non) rfl h2.symm⟩
def sy(row:B1)(f:Bool)(its:List Itm)(b:Bool):Bool:=!YA (OT (sR row f its b))
theorem ow(hr:row.length<=1000)(hl:its.length<=8):cN (n+5) 19 [bH f its b,.str row] m=.ok (.bl (sy row f its b),m):=by
 rw[w19];exact sEq (by show(noOwn (bH f its b)&&(true&&true))=true;rw[dF];rfl) rfl rfl (bR (aR (eL (ts:=[bH f its b,.str row]) (s':=⟨[sv (bH f its b),sv (.str row)],[]⟩) rfl (xA n hr hl)) rfl (zH _ _)) rfl)
end
section
variable{a:FE}{s s1:S}{k kb nb f j:Nat}{ob:Ob}{t:T}{m:FV}{ks:List Ky}{ts:FK}
theorem ja(h:a s=.ok (.own k,s1))(hm:s1.m[k]?=some ob)(hj:gP M.P.tab ob.c f=some j)(hf:ob.fs[j]?=sv t):aC M.P.tab f a s=.ok (t,s1):=by
 unfold aC;rw[h];refine Eq.trans (bj _ _) ?_;show Res.bind (aS ((s1.m[k]?).bind _)) _=_;rw[hm];show Res.bind (aS ((gP M.P.tab ob.c f).bind _)) _=_;rw[hj];show Res.bind (aS (ob.fs[j]?)) _=_;rw[hf];rfl
theorem qG(h:m[kb]?=some ⟨nb,[.od ks ts]⟩):j5 nb m (.own kb)=some (kb,ks,ts):=by
 have e:rW nb m (.own kb)=some (kb,.od ks ts):=by
  show(m[kb]?).bind _=_;rw[h];exact if_pos rfl
 unfold j5;rw[e];rfl
theorem Lg(h:m[kb]?=some ⟨nb,[.ol ts]⟩):wY nb m (.own kb)=some (kb,ts):=by
 have e:rW nb m (.own kb)=some (kb,.ol ts):=by
  show(m[kb]?).bind _=_;rw[h];exact if_pos rfl
 unfold wY;rw[e];rfl
theorem get_mem:∀{ks:List Ky}{ts:FK}{x:Ky},ks.length=ts.length->x∈ks->∃t,dX ks ts x=some t
 |[],_,_,_,h=>by cases h
 |q::ks,[],_,h,_=>by cases h
 |q::ks,t::ts,x,h,hx=>by
  rw[dX];by_cases e:q=x
  ·rw[if_pos e];exact⟨t,rfl⟩
  ·rw[if_neg e]
   rcases cu.mp hx with z|z
   ·exact absurd z.symm e
   ·exact get_mem (lE.inj h) z
theorem mq:∀{ks:List Ky}{ts:FK}{x y:Ky}{u:T},ks.length=ts.length->x∉ks->dX (ks++[x]) (ts++[u]) y=if x=y then some u else dX ks ts y
 |[],[],x,y,u,_,_=>by
  rw[o9,o9,dX]
 |[],_::_,_,_,_,h,_=>by cases h
 |q::ks,[],_,_,_,h,_=>by cases h
 |q::ks,t::ts,x,y,u,h,hx=>by
  rw[BS,BS,dX,dX];by_cases e:q=y
  ·rw[if_pos e,if_pos e,if_neg λz=>hx (by rw[z,e];exact eg ..)]
  ·rw[if_neg e,if_neg e,mq (lE.inj h) λz=>hx (ez _ z)]
end
section
variable{a o b:FE}{t u:T}{s:S}{nb kb:Nat}{ks:List Ky}{ts:FK}{ky:Ky}
theorem UB(hv:a s=.ok (u,s))(ho:o s=.ok (.own kb,s))(hb:b s=.ok (t,s))(hk:gO t=some ky)(hm:s.m[kb]?=some ⟨nb,[.od ks ts]⟩)(hn:ky∉ks)(hs:ks.length<1000000):pR nb o b a s=.ok (.nx,⟨s.r,s.m.set kb ⟨nb,[.od (ks++[ky]) (ts++[u])]⟩⟩):=by
 unfold pR;rw[hv];refine Eq.trans (bj _ _) ?_;show Res.bind (o s) _=_;rw[ho];refine Eq.trans (bj _ _) ?_;show Res.bind (b s) _=_;rw[hb];refine Eq.trans (bj _ _) ?_;show Res.bind (aS (j5 nb s.m (.own kb))) _=_;rw[qG hm];refine Eq.trans (bj _ _) ?_;show Res.bind (aS (gO t)) _=_;rw[hk];refine Eq.trans (bj _ _) ?_;show Res.bind (aS (gd (ks.length<1000000) ())) _=_;rw[jd hs];show Res.ok (Out.nx,setB nb _ kb (let y:=b7 ks ts ky u;.od y.1 y.2))=_;unfold b7;rw[if_neg hn];rfl
theorem OU{neg:Bool}(hv:a s=.ok (t,s))(ho:o s=.ok (.own kb,s))(hk:gO t=some ky)(hm:s.m[kb]?=some ⟨nb,[.od ks ts]⟩):bP (rX nb neg a o) s=.ok (if neg then !decide (ky∈ks)else decide (ky∈ks),s):=by
 have e:rX nb neg a o s=.ok (.bl (if neg then !decide (ky∈ks)else decide (ky∈ks)),s):=by
  unfold rX;rw[hv];refine Eq.trans (bj _ _) ?_;show Res.bind (o s) _=_;rw[ho];refine Eq.trans (bj _ _) ?_;show Res.bind (aS (j5 nb s.m (.own kb))) _=_;rw[qG hm];refine Eq.trans (bj _ _) ?_;show Res.bind (aS (gO t)) _=_;rw[hk];rfl
 unfold bP;rw[e];rfl
theorem UC(ho:o s=.ok (.own kb,s))(hb:b s=.ok (t,s))(hk:gO t=some ky)(hm:s.m[kb]?=some ⟨nb,[.od ks ts]⟩)(hg:dX ks ts ky=some u):D0 nb o b s=.ok (u,s):=by
 unfold D0;rw[ho];refine Eq.trans (bj _ _) ?_;show Res.bind (b s) _=_;rw[hb];refine Eq.trans (bj _ _) ?_;show Res.bind (aS (j5 nb s.m (.own kb))) _=_;rw[qG hm];refine Eq.trans (bj _ _) ?_;show Res.bind (aS (gO t)) _=_;rw[hk];show Res.bind (aS (dX ks ts ky)) _=_;rw[hg];rfl
end
structure P0(row:B1)(ks:List Ky)(ts:FK):Prop where
 len:ks.length=ts.length
 at_:∀f its b t,(∀i∈its,Itm.ok i)->its.length<=8->dX ks ts (.s (kT f its b))=some t->t=.bl (sy row f its b)
theorem P0.nil{row:B1}:P0 row [] []:=⟨rfl,λ_ _ _ _ _ _ h=>by cases h⟩
theorem IP{row:B1}(hr:row.length<=1000){f f' b b':Bool}{its its':List Itm}(h:∀i∈its,Itm.ok i)(hl:its.length<=8)(h':∀i∈its',Itm.ok i)(qX:its'.length<=8)(e:kT f its b=kT f' its' b'):sy row f its b=sy row f' its' b':=by
 have p1:=hU 0 (f:=f) (b:=b) (m:=[]) h hl;have p2:=hU 0 (f:=f') (b:=b') (m:=[]) h' qX;rw[e,p2]at p1;have ev:bH f' its' b'=bH f its b:=by injection p1 with p1;exact(Prod.mk.inj p1).1
 have q1:=ow 0 (f:=f) (b:=b) (m:=[]) hr hl;have q2:=ow 0 (f:=f') (b:=b') (m:=[]) hr qX;rw[ev,q1]at q2;injection q2 with q2
 have:=(Prod.mk.inj q2).1
 injection this
theorem OV{k kb:Nat}{row:B1}{num:Int}{ks:List Ky}{ts:FK}{f b:Bool}{its:List Itm}(hm:m[k]?=some ⟨24,[.val (.str row),.val (.int num),.val (.own kb)]⟩)(hb:m[kb]?=some ⟨M.bc,[.od ks ts]⟩)(ie:kb≠k)(K:P0 row ks ts)(hs:ks.length<1000000)
  (hr:row.length<=1000) (h:∀i∈its,i.ok) (hl:its.length<=8):∃oX pP,cN (n+6) 79 [.own k,bH f its b] m=.ok (.bl (sy row f its b),m.set kb ⟨M.bc,[.od oX pP]⟩)/\P0 row oX pP/\oX.length<=ks.length+1:=by
 rw[w79];have hkb:kb<m.length:=(dc.mp hb).1;have ew:=xy (n+1) (f:=f) (b:=b) (m:=m) h hl;have ef:=ow n (f:=f) (b:=b) (m:=m) hr hl;obtain⟨X,hX⟩:∃X,X=kT f its b:=⟨_,rfl⟩;rw[<- hX]at ew;by_cases xC:Ky.s X∈ks
 ·obtain⟨t,ht⟩:=get_mem K.len xC
  have et:=K.at_ f its b t h hl (by rw[<- hX];exact ht)
  subst et;refine⟨ks,ts,?_,K,by omega⟩
  rw[show m.set kb ⟨M.bc,[.od ks ts]⟩=m from sY λj=>by
   by_cases hj:kb=j
   ·subst hj;rw[dW hkb,hb]
   ·rw[cy hj]]
  exact eK rfl (seq1 (gF (cE (ts:=[bH f its b]) rfl ew)) (seq1 (A7 ((OU (neg:=true) (ky:=.s X) rfl (ja (j:=2) rfl hm rfl rfl) rfl hb).trans (by rw[if_pos rfl,decide_eq_true xC];rfl)) rfl) (gE (UC (ky:=.s X) (ja (j:=2) rfl hm rfl rfl) rfl rfl hb ht)))) rfl
 ·refine⟨ks++[.s X],ts++[.bl (sy row f its b)],?_,⟨by simp[K.len],λf' its' b' t h' qX hg=>?_⟩,by simp⟩
  ·exact eK rfl (seq1 (gF (cE (ts:=[bH f its b]) rfl ew)) (seq1 (Uc ((OU (neg:=true) (ky:=.s X) rfl (ja (j:=2) rfl hm rfl rfl) rfl hb).trans (by rw[if_pos rfl,decide_eq_false xC];rfl)) (UB (ky:=.s X) (cE (ts:=[bH f its b,.str row]) (aw rfl (aw (ja (j:=0) rfl hm rfl rfl) rfl)) ef) (ja (j:=2) rfl hm rfl rfl) rfl rfl hb xC hs)) (gE (UC (ky:=.s X) (ja (j:=2) rfl (ob:=⟨24,[.val (.str row),.val (.int num),.val (.own kb)]⟩) (by rw[cy ie];exact hm) rfl rfl) rfl rfl (dW hkb) (by rw[mq K.len xC,if_pos rfl]))))) rfl
  ·rw[mq K.len xC]at hg
   split at hg
   ·rename_i e
    cases hg;injection e with e
    rw[IP hr h hl h' qX (hX.symm.trans e)]
   ·exact K.at_ f' its' b' t h' qX hg
structure WV where
 lines:FK
 bm:T
 tl:Nat
 tr:T
 ps:Int
 mt:Nat
 tk:Int
 hand:T
 hr:Int
 sh:Nat
 su:Nat
 no:Nat
 lg:Nat
 wt:Bool
def WV.ob(v:WV):Ob:=⟨26,[.val (.lst v.lines),.val v.bm,.val (.own v.tl),.val v.tr,.val (.int v.ps),.val (.own v.mt),.val (.int v.tk),.val v.hand,.val (.int v.hr),.val (.own v.sh),.val (.own v.su),.val (.own v.no),.val (.own v.lg),.val (.bl v.wt)]⟩
structure WS(m:FV)(w:Nat)(v:WV)(log:FK):Prop where
 o:m[w]?=some v.ob
 l:m[v.lg]?=some ⟨M.bc,[.ol log]⟩
 ne:v.lg≠w
 nq:log.length<900000
structure Fr(X:Nat->Prop)(m m':FV):Prop where
 le:m.length<=m'.length
 at_:∀k,k<m.length->¬ X k->m'[k]?=m[k]?
theorem Fr.refl{X:Nat->Prop}:Fr X m m:=⟨cC _,λ_ _ _=>rfl⟩
theorem Fr.trans{X:Nat->Prop}{m m1 m2:FV}(a:Fr X m m1)(b:Fr X m1 m2):Fr X m m2:=⟨gA a.le b.le,λk h x=>(b.at_ k (iw h a.le) x).trans (a.at_ k h x)⟩
theorem Fr.set{X:Nat->Prop}{k:Nat}{ob:Ob}(h:X k):Fr X m (m.set k ob):=⟨by rw[eA];exact cC _,λj _ x=>cy λ(z:k=j)=>x (z▸h)⟩
def WX(w:Nat)(v:WV)(k:Nat):Prop:=k=w\/k=v.lg
section
variable{m:FV}{w f j:Nat}{v v':WV}{log:FK}{r:Fs}{a:FE}{t:T}{s:S}
theorem WS.app(S':WS m w v log)(h:(log++[t]).length<900000):WS (m.set v.lg ⟨M.bc,[.ol (log++[t])]⟩) w v (log++[t]):=
 ⟨by rw[cy S'.ne];exact S'.o,dW (dc.mp S'.l).1,S'.ne,h⟩
theorem WS.fld(S':WS m w v log)(h:v'.lg=v.lg):WS (m.set w v'.ob) w v' log:=
 ⟨dW (dc.mp S'.o).1,by rw[h,cy (Ne.symm S'.ne)];exact S'.l,by rw[h];exact S'.ne,S'.nq⟩
theorem w_fld(S':WS m w v log)(hj:gP M.P.tab 26 f=some j)(hf:v.ob.fs[j]?=sv t):aC M.P.tab f (vF 0) ⟨sv (.own w)::r,m⟩=.ok (t,⟨sv (.own w)::r,m⟩):=ja (k:=w) rfl S'.o hj hf
theorem vp(S':WS m w v log)(ha:a ⟨sv (.own w)::r,m⟩=.ok (t,⟨sv (.own w)::r,m⟩)):il M.bc (aC M.P.tab 29 (vF 0)) a ⟨sv (.own w)::r,m⟩=.ok (.nx,⟨sv (.own w)::r,m.set v.lg ⟨M.bc,[.ol (log++[t])]⟩⟩):=by
 unfold il;rw[w_fld S' (j:=12) (t:=.own v.lg) rfl rfl];refine Eq.trans (bj _ _) ?_;show Res.bind (aS (wY M.bc m (.own v.lg))) _=_;rw[Lg S'.l];refine Eq.trans (bj _ _) ?_;show Res.bind (a ⟨sv (.own w)::r,m⟩) _=_;rw[ha];refine Eq.trans (bj _ _) ?_;show Res.bind (aS (wY M.bc m (.own v.lg))) _=_;rw[Lg S'.l];refine Eq.trans (bj _ _) ?_;show Res.bind (aS (gd (log.length<1000000) ())) _=_;rw[jd (by have:=S'.nq;omega)]
 rfl
theorem Lh(S':WS m w v log)(ha:a ⟨sv (.own w)::r,m⟩=.ok (t,⟨sv (.own w)::r,m⟩))(hp:dM M.P.tab f (.val t) v.ob=some v'.ob):aM M.P.tab f (vF 0) a ⟨sv (.own w)::r,m⟩=.ok (.nx,⟨sv (.own w)::r,m.set w v'.ob⟩):=by
 unfold aM;rw[ha];refine Eq.trans (bj _ _) ?_;show Res.bind (aS ((m[w]?).bind _)) _=_;rw[S'.o];show Res.bind (aS (dM M.P.tab f (.val t) v.ob)) _=_;rw[hp];rfl
theorem xD{ai:Nat->Fn}{i:Nat}{fl:FL}{ts:FK}{Q:T×FV->Prop}(S':WS m w v log)(ha:fl ⟨sv (.own w)::r,m⟩=.ok (ts,⟨sv (.own w)::r,m⟩))(hc:W (ai i (.own w::ts) m) Q):W (aL (av (ak [(26,i)] ai) (vF 0) fl) ⟨sv (.own w)::r,m⟩) λp=>p.1=.nx/\p.2.r=sv (.own w)::r/\∃u,Q (u,p.2.m):=by
 obtain⟨⟨u,m'⟩,e,q⟩:=hc;have e1:av (ak [(26,i)] ai) (vF 0) fl ⟨sv (.own w)::r,m⟩=.ok (u,⟨sv (.own w)::r,m'⟩):=u1 (k:=w) (ob:=v.ob) (s1:=⟨sv (.own w)::r,m⟩) (s2:=⟨sv (.own w)::r,m⟩) rfl S'.o rfl ha e;refine⟨(.nx,⟨sv (.own w)::r,m'⟩),?_,rfl,rfl,u,q⟩;unfold aL;rw[e1];rfl
theorem UD(S':WS m w v log)(hj:gP M.P.tab 26 f=some j)(hf:v.ob.fs[j]?=sv (.int i))(hv:(⟨26,v.ob.fs.set j (.val (.int (i+1)))⟩:Ob)=v'.ob):uO M.P.tab f ik (vF 0) (cI 1) ⟨sv (.own w)::r,m⟩=.ok (.nx,⟨sv (.own w)::r,m.set w v'.ob⟩):=by
 have e:ir M.P.tab f m (.own w)=some (w,v.ob,j,.val (.int i)):=by
  show(m[w]?).bind _=_;rw[S'.o];show(gP M.P.tab 26 f).bind _=_;rw[hj];show(v.ob.fs[j]?).map _=_;rw[hf];rfl
 unfold uO;show Res.bind (aS (ir M.P.tab f m (.own w))) _=_;rw[e];refine Eq.trans (bj _ _) ?_;show Res.bind (aS (ir M.P.tab f m (.own w))) _=_;rw[e];refine Eq.trans (bj _ _) ?_;show Res.bind (aS (gd (v.ob.c=v.ob.c) ())) _=_;rw[jd rfl];show Res.ok (Out.nx,(⟨sv (.own w)::r,m.set w ⟨v.ob.c,v.ob.fs.set j (.val (.int (i+1)))⟩⟩:S))=_;rw[show v.ob.c=26 from rfl,hv]
theorem OW{B:FS}{Q:Out×S->Prop}(S':WS m w v log)(hl:log.length+1<900000)(ha:a ⟨sv (.own w)::r,m⟩=.ok (t,⟨sv (.own w)::r,m⟩))(k:∀m',WS m' w v (log++[t])->Fr (WX w v) m m'->W (B ⟨sv (.own w)::r,m'⟩) Q):W (af (il M.bc (aC M.P.tab 29 (vF 0)) a) B ⟨sv (.own w)::r,m⟩) Q:=fU (W.of (vp S' ha) ⟨rfl,k _ (S'.app (by simpa using hl)) (Fr.set (.inr rfl))⟩)
theorem Be{B:FS}{Q:Out×S->Prop}(S':WS m w v log)(v':WV)(hg:v'.lg=v.lg)(ha:a ⟨sv (.own w)::r,m⟩=.ok (t,⟨sv (.own w)::r,m⟩))(hp:dM M.P.tab f (.val t) v.ob=some v'.ob)(k:∀m',WS m' w v' log->Fr (WX w v) m m'->W (B ⟨sv (.own w)::r,m'⟩) Q):W (af (aM M.P.tab f (vF 0) a) B ⟨sv (.own w)::r,m⟩) Q:=fU (W.of (Lh S' ha hp) ⟨rfl,k _ (S'.fld hg) (Fr.set (.inl rfl))⟩)
theorem OX{i:Int}{B:FS}{Q:Out×S->Prop}(S':WS m w v log)(v':WV)(hg:v'.lg=v.lg)(hj:gP M.P.tab 26 f=some j)(hf:v.ob.fs[j]?=sv (.int i))(hv:(⟨26,v.ob.fs.set j (.val (.int (i+1)))⟩:Ob)=v'.ob)(k:∀m',WS m' w v' log->Fr (WX w v) m m'->W (B ⟨sv (.own w)::r,m'⟩) Q):W (af (uO M.P.tab f ik (vF 0) (cI 1)) B ⟨sv (.own w)::r,m⟩) Q:=fU (W.of (UD S' hj hf hv) ⟨rfl,k _ (S'.fld hg) (Fr.set (.inl rfl))⟩)
theorem oz{ai:Nat->Fn}{i:Nat}{fl:FL}{ts:FK}{R:T×FV->Prop}{Q:Out×S->Prop}(S':WS m w v log)(ha:fl ⟨sv (.own w)::r,m⟩=.ok (ts,⟨sv (.own w)::r,m⟩))(hc:W (ai i (.own w::ts) m) R)(k:∀u m',R (u,m')->Q (.nx,⟨sv (.own w)::r,m'⟩)):W (aL (av (ak [(26,i)] ai) (vF 0) fl) ⟨sv (.own w)::r,m⟩) Q:=by
 refine(xD (r:=r) S' ha hc).mono λp hp=>?_;obtain⟨h1,h2,u,h4⟩:=hp;obtain⟨o,pr,pm⟩:=p;cases h1;cases h2;exact k u pm h4
def WR(w:Nat)(v0 v:WV)(log:FK)(m0:FV)(p:T×FV):Prop:=p.1=.non/\WS p.2 w v log/\Fr (WX w v0) m0 p.2
abbrev fL(i:Int):T:=.tup [.str [119,97,110,116],.int (i+1)]
theorem zI(S':WS m w v log)(hl:log.length+1<900000):W (cN (n+1) 85 [.own w] m) (WR w v {v with wt:=true} (log++[fL v.tk]) m):=by
 rw[w85];have S1:=S'.app (t:=fL v.tk) (by simpa using hl)
 have S2:=S1.fld (v':={v with wt:=true}) rfl
 refine e8 rfl (fU (W.of (vp S' (t:=fL v.tk) (r:=[]) ?_) ⟨rfl,W.of (Lh S1 (t:=.bl true) (v':={v with wt:=true}) rfl rfl) ⟨rfl,rfl,S2,(Fr.set (.inr rfl)).trans (Fr.set (.inl rfl))⟩⟩))
 exact dY (aw (t:=.str [119,97,110,116]) rfl (aw (aR (w_fld S' (j:=6) (t:=.int v.tk) rfl rfl) rfl rfl) rfl)) rfl
theorem zJ(S':WS m w v log)(hl:log.length+1<900000):W (cN (n+1) 93 [.own w,t] m) (WR w v v (log++[.tup [.str [103,105,118,101],t]]) m):=by
 rw[w93];have S1:=S'.app (t:=.tup [.str [103,105,118,101],t]) (by simpa using hl)
 refine e8 rfl (W.of (vp S' (t:=.tup [.str [103,105,118,101],t]) (r:=[sv t]) ?_) ⟨rfl,rfl,S1,Fr.set (.inr rfl)⟩);exact dY (aw (t:=.str [103,105,118,101]) rfl (aw (t:=t) rfl rfl)) rfl
theorem IQ(S':WS m w v log)(hl:log.length+1<900000):W (cN (n+1) 92 [.own w] m) (WR w v v (log++[.tup [.str [110,111,110,101],.int (v.tk+1)]]) m):=by
 rw[w92];have S1:=S'.app (t:=.tup [.str [110,111,110,101],.int (v.tk+1)]) (by simpa using hl)
 refine e8 rfl (W.of (vp S' (t:=.tup [.str [110,111,110,101],.int (v.tk+1)]) (r:=[]) ?_) ⟨rfl,rfl,S1,Fr.set (.inr rfl)⟩);exact dY (aw (t:=.str [110,111,110,101]) rfl (aw (aR (w_fld S' (j:=6) (t:=.int v.tk) rfl rfl) rfl rfl) rfl)) rfl
end
section
variable{m:FV}{w f j:Nat}{v v':WV}{log:FK}{r:Fs}{a:FE}{t:T}{s:S}
abbrev kg:T:=.tup [.str [111,118,101,114]]
abbrev iu(t:T):T:=.tup [.str [103,105,118,101],t]
theorem zK(S':WS m w v log)(hl:log.length+2<900000):W (cN (n+2) 94 [.own w] m) (WR w v {v with hand:=.non,hr:=0,ps:=0,wt:=true} (log++[kg]++[fL v.tk]) m):=by
 rw[w94];refine e8 rfl (OW (r:=[]) (t:=kg) S' (by omega) rfl λm1 S1 F1=>Be S1 {v with hand:=.non} rfl rfl rfl λm2 S2 F2=>Be S2 {v with hand:=.non,hr:=0} rfl rfl rfl λm3 S3 F3=>Be S3 {v with hand:=.non,hr:=0,ps:=0} rfl rfl rfl λm4 S4 F4=>oz S4 rfl (zI n S4 (by simp;omega)) λ_ m5 h=>⟨rfl,rfl,h.2.1,(((F1.trans F2).trans F3).trans F4).trans h.2.2⟩)
theorem IS(S':WS m w v log)(hl:log.length+3<900000):W (cN (n+3) 95 [.own w] m) (WR w v {v with hand:=.non,hr:=0,ps:=0,wt:=true} (log++[iu v.hand]++[kg]++[fL v.tk]) m):=by
 rw[w95];exact e8 rfl (fU (oz (r:=[]) (ts:=[v.hand]) S' (aw (w_fld S' (j:=7) rfl rfl) rfl) (zJ (n+1) S' (by omega)) λ_ m1 h=>⟨rfl,oz h.2.1 rfl (zK n h.2.1 (by simp;omega)) λ_ m2 h2=>⟨rfl,rfl,h2.2.1,h.2.2.trans h2.2.2⟩⟩))
end
section
variable{m:FV}{w f j nb kb:Nat}{v v':WV}{log ts:FK}{r:Fs}{a o b:FE}{t u:T}{s:S}{ks:List Ky}{ky:Ky}
theorem xE(S':WS m w v log)(hl:log.length+1<900000):W (cN (n+2) 97 [.own w,.obj 16 [t]] m) (WR w v v (log++[iu t]) m):=by
 rw[w97];exact e8 rfl (nW rfl (oz (r:=[sv (.obj 16 [t])]) (ts:=[t]) S' rfl (zJ n S' hl) λ_ m1 h=>⟨rfl,rfl,h.2⟩))
theorem OY(S':WS m w v log)(hl:log.length+1<900000):W (cN (n+3) 96 [.own w,.obj 16 [t],u] m) (WR w v v (log++[iu t]) m):=by
 rw[w96];exact e8 rfl (fJ rfl (fJ rfl (fJ rfl (fJ rfl (fJ rfl (fJ rfl (fJ rfl (fJ rfl (nW rfl (oz (r:=[sv (.obj 16 [t]),sv u]) (ts:=[.obj 16 [t]]) S' rfl (xE n S' hl) λ_ m1 h=>⟨rfl,rfl,h.2⟩))))))))))
abbrev qH(i:Int)(b:Bool):T:=.tup [.str [109,101,101,116],.int i,.bl b]
def WY(w:Nat)(v:WV)(k:Nat):Prop:=k=w\/k=v.lg\/k=v.mt
theorem Fr.wx{m':FV}(h:Fr (WX w v) m m'):Fr (WY w v) m m':=⟨h.le,λk hk x=>h.at_ k hk λz=>x (z.elim .inl λz=>.inr (.inl z))⟩
end
section
variable{m:FV}{w f j kb:Nat}{v v':WV}{log ts:FK}{r:Fs}{a o b:FE}{t u:T}{s:S}{ks:List Ky}{ky:Ky}{i:Int}
theorem YB{l:FK}{p:Nat}(h:p<l.length):vQ (.lst l) (.int ((p:Nat):Int))=some l[p]:=by
 show atT l (p:Int)=_;rw[eX h,b8 h]
end
section
variable{m m1:FV}{w f j kb p:Nat}{v v':WV}{log ts:FK}{r:Fs}{a o b:FE}{t u:T}{s:S}{ks:List Ky}{ky:Ky}{i:Int}{l:List (T×T)}{bs:Fh}
abbrev WV.rest(v:WV):WV:={v with hand:=.non,hr:=0,ps:=0,wt:=true}
theorem zL(S':WS m w v log):cW (D.tB (aC M.P.tab 30 (vF 0))) ⟨sv (.own w)::r,m⟩=.ok (!v.wt,⟨sv (.own w)::r,m⟩):=by
 unfold cW D.tB;rw[w_fld S' (j:=13) (t:=.bl v.wt) rfl rfl];rfl
theorem sD{c:FT}{B:FS}{k:Nat}{s s1:S}{QS:Out×S->Prop}(hc:c s=.ok (true,s1))(h:W (B s1) λq=>q.1=.nx/\W (aY c B k q.2) QS):W (aY c B (k+1) s) QS:=by
 obtain⟨⟨o,s2⟩,e,rfl,h⟩:=h;obtain⟨a,e2,h⟩:=h;refine⟨a,?_,h⟩;show Res.bind (c s) _=_;rw[hc];show Res.bind (B s1) _=_;rw[e];exact e2
theorem EY{c:FT}{B:FS}{k:Nat}{s s1:S}{QS:Out×S->Prop}(hc:c s=.ok (false,s1))(h:QS (.nx,s1)):W (aY c B (k+1) s) QS:=by
 refine⟨_,?_,h⟩;show Res.bind (c s) _=_;rw[hc];rfl
end
section
variable{m m1:FV}{w f j kb p:Nat}{v v':WV}{log ts:FK}{r:Fs}{a o b:FE}{t u:T}{s:S}{ks:List Ky}{ky:Ky}{i:Int}{l:List (T×T)}{bs:Fh}{x:B1}
theorem OZ(S':WS m1 w v log)(ha:a ⟨sv (.own w)::r,m⟩=.ok (t,⟨sv (.own w)::r,m1⟩))(hp:dM M.P.tab f (.val t) v.ob=some v'.ob):aM M.P.tab f (vF 0) a ⟨sv (.own w)::r,m⟩=.ok (.nx,⟨sv (.own w)::r,m1.set w v'.ob⟩):=by
 unfold aM;rw[ha];refine Eq.trans (bj _ _) ?_;show Res.bind (aS ((m1[w]?).bind _)) _=_;rw[S'.o];show Res.bind (aS (dM M.P.tab f (.val t) v.ob)) _=_;rw[hp];rfl
theorem kh{α:Type}{m:List α}{k:Nat}{ob x:α}(h:m[k]?=some ob):(m++[x])[k]?=some ob:=by
 rw[gp (dc.mp h).1];exact h
theorem WS.snoc{ob:Ob}(S':WS m w v log):WS (m++[ob]) w v log:=⟨kh S'.o,kh S'.l,S'.ne,S'.nq⟩
theorem YC{B:FS}{Q:Out×S->Prop}(S':WS m w v log)(v':WV)(hg:v'.lg=v.lg)(hp:dM M.P.tab f (.val (.own m.length)) v.ob=some v'.ob)(k:∀m',WS m' w v' log->Fr (WX w v) m m'->m'[m.length]?=some ⟨M.bc,[.od [] []]⟩->W (B ⟨sv (.own w)::r,m'⟩) Q):W (af (aM M.P.tab f (vF 0) (lP M.bc)) B ⟨sv (.own w)::r,m⟩) Q:=by
 have hw:w<m.length:=(dc.mp S'.o).1;have S1:WS (m++[⟨M.bc,[.od [] []]⟩]) w v log:=S'.snoc;refine fU (W.of (OZ S1 (t:=.own m.length) (v':=v') rfl hp) ⟨rfl,k _ (S1.fld hg) ⟨by simp,λj hj x=>?_⟩ ?_⟩)
 ·rw[cy λ(z:w=j)=>x (.inl z.symm),gp hj]
 ·rw[cy (by omega),eS (cC _),i7];rfl
abbrev ki(i:Int):T:=.tup [.str [116,97,107,101],.int i]
end
structure dU(rows:Ap)(c:Nat)(m:FV):Prop where
 at_:∀k row,rows[k]?=some row->row.length<=1000/\m[2*k]?=some ⟨24,[.val (.str row),.val (.int ((k:Nat)+1)),.val (.own (2*k+1))]⟩/\∃ks ts,m[2*k+1]?=some ⟨M.bc,[.od ks ts]⟩/\P0 row ks ts/\ks.length<=c
def RX(rows:Ap)(k:Nat):Prop:=k<2*rows.length
section
variable{rows:Ap}{c k:Nat}{m:FV}{row:B1}{f b:Bool}{its:List Itm}
theorem EZ(R:dU rows c m)(hk:rows[k]?=some row)(hc:c<900000)(h:∀i∈its,Itm.ok i)(hl:its.length<=8):W (cN (n+6) 79 [.own (2*k),bH f its b] m) λp=>p.1=.bl (sy row f its b)/\dU rows (c+1) p.2/\Fr (RX rows) m p.2:=by
 obtain⟨h1,h2,ks,ts,h3,h4,h5⟩:=R.at_ k row hk;obtain⟨oX,pP,e,K,qX⟩:=OV n (f:=f) (b:=b) h2 h3 (by omega) h4 (by omega) h1 h hl
 have VJ:k<rows.length:=(dc.mp hk).1;refine⟨_,e,rfl,⟨λk' YD Tj=>?_⟩,Fr.set (by show 2*k+1<_;omega)⟩
 obtain⟨g1,g2,YE,YF,g3,g4,g5⟩:=R.at_ k' YD Tj;refine⟨g1,by rw[cy (by omega)];exact g2,?_⟩
 by_cases nM:k=k'
 ·subst nM
  rw[hk]at Tj;cases Tj;exact⟨oX,pP,dW (dc.mp h3).1,K,by omega⟩
 ·exact⟨YE,YF,by rw[cy (by omega)];exact g3,g4,by omega⟩
theorem dU.mono{c':Nat}(R:dU rows c m)(h:c<=c'):dU rows c' m:=⟨λk row hk=>let⟨h1,h2,ks,ts,h3,h4,h5⟩:=R.at_ k row hk;⟨h1,h2,ks,ts,h3,h4,gA h5 h⟩⟩
end
inductive CV where
 |al|rw(i:Int)|la|li (f:Bool) (its:List Itm) (b:Bool)|so (j:Nat) (f:Bool) (its:List Itm) (b:Bool)|nt (c:CV)
noncomputable def CV.val:CV->T
 |.al=>.obj 3 []
 |.rw i=>.obj 4 [.int i]
 |.la=>.obj 5 []
 |.li f its b=>.obj 6 [bH f its b]
 |.so j f its b=>.obj 7 [.int (j:Nat),bH f its b]
 |.nt c=>.obj 9 [c.val]
def CV.iZ(rows:Ap)(k:Nat):CV->Bool
 |.al=>true
 |.rw i=>decide (i=((k:Nat):Int)+1)
 |.la=>decide (rows.length=k+1)
 |.li f its b=>sy (rows.getD k []) f its b
 |.so j f its b=>((rows.drop (k+1)).take j).any λr=>sy r f its b
 |.nt c=>!c.iZ rows k
def CV.ok:CV->Prop
 |.li _ its _=>(∀i∈its,Itm.ok i)/\its.length<=8
 |.so j _ its _=>(∀i∈its,Itm.ok i)/\its.length<=8/\j<=9
 |.nt c=>c.ok
 |_=>True
section
variable{rows:Ap}{c k:Nat}{m:FV}{row:B1}{f b:Bool}{its:List Itm}{i:Int}
theorem E1(R:dU rows c m)(hk:rows[k]?=some row):cN (n+1) 24 [.obj 4 [.int i],.own (2*k)] m=.ok (.bl (decide (i=((k:Nat):Int)+1)),m):=by
 rw[w24];obtain⟨h1,h2,_⟩:=R.at_ k row hk;refine eK (s':=⟨[sv (.obj 4 [.int i]),sv (.own (2*k))],m⟩) rfl (OB (Uc (s':=⟨[sv (.obj 4 [.int i]),sv (.own (2*k))],m⟩) rfl (gE (aR (t:=.int i) (u:=.int ((k:Nat)+1)) rfl (ja (j:=1) (k:=2*k) rfl h2 rfl rfl) rfl)))) rfl
theorem vq(R:dU rows c m)(hk:rows[k]?=some row)(hc:c<900000)(h:∀i∈its,Itm.ok i)(hl:its.length<=8):W (cN (n+7) 24 [.obj 6 [bH f its b],.own (2*k)] m) λp=>p.1=.bl (sy row f its b)/\dU rows (c+1) p.2/\Fr (RX rows) m p.2:=by
 rw[w24];obtain⟨⟨u,m'⟩,e,hu,q⟩:=EZ n (f:=f) (b:=b) R hk hc h hl;have hu:u=.bl (sy row f its b):=hu;subst hu;obtain⟨h1,h2,_⟩:=R.at_ k row hk;have em:av (ak [(24,79)] (cN (n+6))) (vF 1) (k1 (aC M.P.tab 4 (vF 0))) ⟨[sv (.obj 6 [bH f its b]),sv (.own (2*k))],m⟩=.ok (.bl (sy row f its b),⟨[sv (.obj 6 [bH f its b]),sv (.own (2*k))],m'⟩):=u1 (k:=2*k) (s1:=⟨[sv (.obj 6 [bH f its b]),sv (.own (2*k))],m⟩) (s2:=⟨[sv (.obj 6 [bH f its b]),sv (.own (2*k))],m⟩) rfl h2 rfl (aw (t:=bH f its b) rfl rfl) e;exact kQ rfl (Uh (s':=⟨[sv (.obj 6 [bH f its b]),sv (.own (2*k))],m⟩) rfl (Yb (s':=⟨[sv (.obj 6 [bH f its b]),sv (.own (2*k))],m⟩) rfl (A9 em ⟨rfl,q⟩)))
end
theorem e_(n d j:Nat):gx n d (some ((j:Nat):Int))=min j n:=by
 unfold gx;dsimp only;rw[if_neg (by omega),qS]
theorem E2{α:Type}(l:List α)(j:Nat):bA l none (some ((j:Nat):Int))=l.take j:=by
 unfold bA;have h1:gx l.length 0 none=0:=rfl;have h2:=e_ l.length l.length j;rw[h1,h2,mH,Nat.sub_zero,JO];omega
theorem E3{α:Type}(l:List α)(j:Nat):bA l (some ((j:Nat):Int)) none=l.drop j:=by
 unfold bA;have h1:=e_ l.length 0 j;have h2:gx l.length l.length none=l.length:=rfl;rw[h1,h2,x8 (by rw[o8];omega)]
 by_cases h:j<=l.length
 ·rw[Ad h]
 ·rw[B7 (by omega),x9,ya (by omega)]
def pV(L j:Nat):FK:=((dZ L).drop j).map λq=>T.own (2*q)
section
variable{rows:Ap}{c k j:Nat}{m:FV}{row:B1}{f b:Bool}{its:List Itm}{i:Int}{tl pl:T}
end
section
variable{rows:Ap}{c k j tk:Nat}{m:FV}{row:B1}{f b:Bool}{its:List Itm}{i:Int}{tl pl:T}{ob:Ob}
def CV.base:CV->Prop
 |.nt _=>False
 |_=>True
def TR(rows:Ap)(b:Bool)(c:Nat)(m:FV)(p:T×FV):Prop:=p.1=.bl b/\dU rows c p.2/\Fr (RX rows) m p.2
def CV.one:CV->Prop
 |.nt c=>c.base/\c.ok
 |c=>c.ok
end
section
variable{a o b d:FE}{t u:T}{s:S}{nb kb:Nat}{ks:List Ky}{ts:FK}{ky y:Ky}
theorem tE2{a:FE}{s s1:S}{b:Bool}(h:a s=.ok (.bl b,s1)):D.tB a s=.ok (b,s1):=by unfold D.tB;rw[h];rfl
theorem UE(ho:o s=.ok (.own kb,s))(hb:b s=.ok (t,s))(hd:d s=.ok (u,s))(hk:gO t=some ky)(hm:s.m[kb]?=some ⟨nb,[.od ks ts]⟩):AZ nb o b d s=.ok ((dX ks ts ky).getD u,s):=by
 unfold AZ;rw[ho];refine Eq.trans (bj _ _) ?_;show Res.bind (aS (j5 nb s.m (.own kb))) _=_;rw[qG hm];refine Eq.trans (bj _ _) ?_;show Res.bind (b s) _=_;rw[hb];refine Eq.trans (bj _ _) ?_;show Res.bind (d s) _=_;rw[hd];refine Eq.trans (bj _ _) ?_;show Res.bind (aS (j5 nb s.m (.own kb))) _=_;rw[qG hm];refine Eq.trans (bj _ _) ?_;show Res.bind (aS (gO t)) _=_;rw[hk];rfl
theorem UG{s':S}(hv:a s=.ok (u,s'))(ho:o s'=.ok (.own kb,s'))(hb:b s'=.ok (t,s'))(hk:gO t=some ky)(hm:s'.m[kb]?=some ⟨nb,[.od ks ts]⟩)(hs:ks.length<1000000):pR nb o b a s=.ok (.nx,⟨s'.r,s'.m.set kb ⟨nb,[.od (b7 ks ts ky u).1 (b7 ks ts ky u).2]⟩⟩):=by
 unfold pR;rw[hv];refine Eq.trans (bj _ _) ?_;show Res.bind (o s') _=_;rw[ho];refine Eq.trans (bj _ _) ?_;show Res.bind (b s') _=_;rw[hb];refine Eq.trans (bj _ _) ?_;show Res.bind (aS (j5 nb s'.m (.own kb))) _=_;rw[qG hm];refine Eq.trans (bj _ _) ?_;show Res.bind (aS (gO t)) _=_;rw[hk];refine Eq.trans (bj _ _) ?_;show Res.bind (aS (gd (ks.length<1000000) ())) _=_;rw[jd hs];rfl
theorem get_map:∀{ks:List Ky}{ts:FK},ks.length=ts.length->ky∈ks->dX ks ((ks.zip ts).map λp=>if p.1=ky then u else p.2) y=if ky=y then some u else dX ks ts y
 |[],_,_,h=>by cases h
 |q::ks,[],h,_=>by cases h
 |q::ks,t::ts,h,hx=>by
  rw[jh,cU,dX,dX];by_cases e:q=y
  ·rw[if_pos e,if_pos e]
   by_cases e2:q=ky
   ·rw[if_pos e2,if_pos (e2.symm.trans e)]
   ·rw[if_neg e2,if_neg λz=>e2 (e.trans z.symm)]
  ·rw[if_neg e,if_neg e]
   by_cases hm:ky∈ks
   ·exact get_map (lE.inj h) hm
   ·have e2:q=ky:=by
     rcases cu.mp hx with z|z
     ·exact z.symm
     ·exact absurd z hm
    subst e2;rw[if_neg e]
    have:∀{ks:List Ky}{ts:FK},ks.length=ts.length->q∉ks->((ks.zip ts).map λp=>if p.1=q then u else p.2)=ts:=by
     intro ks
     induction ks with
     |nil=>intro ts h _;cases ts with
      |nil=>rfl
      |cons=>cases h
     |cons p ks ih=>intro ts h hq;cases ts with
      |nil=>cases h
      |cons t ts=>
       rw[jh,cU,if_neg (λ(z:p=q)=>hq (by rw[<- z];exact eg ..)),ih (lE.inj h) λz=>hq (ez _ z)]
    rw[this (lE.inj h) hm]
theorem IU(h:ks.length=ts.length):dX (b7 ks ts ky u).1 (b7 ks ts ky u).2 y=if ky=y then some u else dX ks ts y:=by
 unfold b7;by_cases e:ky∈ks
 ·rw[if_pos e];exact get_map h e
 ·rw[if_neg e];exact mq h e
theorem zM(h:ks.length=ts.length):(b7 ks ts ky u).1.length=(b7 ks ts ky u).2.length/\(b7 ks ts ky u).1.length<=ks.length+1:=by
 unfold b7;by_cases e:ky∈ks
 ·rw[if_pos e]
  refine⟨?_,tD _⟩;show ks.length=z8 _;rw[bF,qP,<- h,B6]
 ·rw[if_neg e]
  simp[h]
end
structure Li(g:Int->Bool)(ks:List Ky)(ts:FK):Prop where
 len:ks.length=ts.length
 at_:∀p,(dX ks ts (.i p)).getD (.bl false)=.bl (g p)
def sU(g:Int->Bool)(p:Int)(b:Bool):Int->Bool:=λq=>if p=q then b else g q
theorem Li.put{g:Int->Bool}{ks:List Ky}{ts:FK}(U:Li g ks ts)(p:Int)(b:Bool):Li (sU g p b) (b7 ks ts (.i p) (.bl b)).1 (b7 ks ts (.i p) (.bl b)).2:=by
 refine⟨(zM U.len).1,λq=>?_⟩;rw[IU U.len];unfold sU;by_cases e:p=q
 ·rw[if_pos e,if_pos (by rw[e])];rfl
 ·rw[if_neg e,if_neg λz=>e (by cases z;rfl)]
  exact U.at_ q
inductive Ed where
 |rw(i:Int)|li (f:Bool) (its:List Itm) (b:Bool)
noncomputable def Ed.val:Ed->T
 |.rw i=>.obj 4 [.int i]
 |.li f its b=>.obj 6 [bH f its b]
def Ed.iZ(rows:Ap)(k:Nat):Ed->Bool
 |.rw i=>decide (i=((k:Nat):Int)+1)
 |.li f its b=>sy (rows.getD k []) f its b
def Ed.past(k:Nat):Ed->Bool
 |.rw i=>decide (i<=((k:Nat):Int)+1)
 |.li _ _ _=>false
def Ed.ok:Ed->Prop
 |.li _ its _=>(∀i∈its,Itm.ok i)/\its.length<=8
 |.rw _=>True
section
variable{rows:Ap}{c k:Nat}{m:FV}{row:B1}{i:Int}
theorem vt(e:Ed)(ok:e.ok)(R:dU rows c m)(hk:rows[k]?=some row)(hc:c<900000):W (cN (n+7) 24 [e.val,.own (2*k)] m) (TR rows (e.iZ rows k) (c+1) m):=by
 cases e with
 |rw i=>exact⟨_,E1 (n+6) R hk,rfl,R.mono (by omega),Fr.refl⟩
 |li f its b=>
  have xF:rows.getD k []=row:=by rw[fj,hk];rfl
  refine(vq n R hk hc ok.1 ok.2).mono λp hp=>⟨?_,hp.2.1,hp.2.2⟩;show p.1=T.bl (sy (rows.getD k []) f its b);rw[xF];exact hp.1
theorem IV(e:Ed):cN (n+1) 25 [e.val,.int ((k:Nat)+1)] m=.ok (.bl (e.past k),m):=by
 rw[w25];cases e with
 |rw i=>exact sEq rfl rfl rfl (bR rfl rfl)
 |li f its b=>exact sEq (by show((noOwn (bH f its b)&&true)&&(true&&true))=true;rw[dF];rfl) rfl rfl (bR rfl rfl)
def sE(rows:Ap)(k:Nat)(e1 e2:Ed)(up:Bool):Bool:=up ||e1.iZ rows k
def O0(rows:Ap)(k:Nat)(e1 e2:Ed)(up:Bool):Bool:=if up then !e2.iZ rows k else if e1.iZ rows k then !e2.past k else false
def UX(rows:Ap)(ub k:Nat):Prop:=k<2*rows.length\/k=ub
theorem Fr.up{ub:Nat}{m':FV}(h:Fr (RX rows) m m'):Fr (UX rows ub) m m':=⟨h.le,λk a b=>h.at_ k a λz=>b (.inl z)⟩
theorem xG{tk ub:Nat}{x:T}{g:Int->Bool}{ks:List Ky}{ts:FK}{p:Int}(e1 e2:Ed)(YG:e1.ok)(YH:e2.ok)(R:dU rows c m)(hk:rows[k]?=some row)(hc:c<800000)(sO:2*rows.length<=tk)(F9:2*rows.length<=ub)
  (ht:m[tk]?=some ⟨25,[.val x,.val (.own ub)]⟩) (hu:m[ub]?=some ⟨M.bc,[.od ks ts]⟩) (U:Li g ks ts) (hs:ks.length<900000) :
  W (cN (n+8) 83 [.own tk,.int p,.obj 8 [e1.val,e2.val],.own (2*k)] m) λq=>q.1=.bl (sE rows k e1 e2 (g p))/\dU rows (c+1) q.2/\Fr (UX rows ub) m q.2/\∃oX pP,q.2[ub]?=some ⟨M.bc,[.od oX pP]⟩/\Li (sU g p (O0 rows k e1 e2 (g p))) oX pP/\oX.length<=ks.length+1:=by
 rw[w83];have DU:=U.at_ p;have xC:∀m',Fr (RX rows) m m'->m'[tk]?=some ⟨25,[.val x,.val (.own ub)]⟩/\m'[ub]?=some ⟨M.bc,[.od ks ts]⟩:=λm' h=>⟨(h.at_ tk (dc.mp ht).1 (by show ¬ tk<_;omega)).trans ht,(h.at_ ub (dc.mp hu).1 (by show ¬ ub<_;omega)).trans hu⟩
 have put:∀m'(b:Bool),Fr (RX rows) m m'->dU rows (c+1) m'->dU rows (c+1) (m'.set ub ⟨M.bc,[.od (b7 ks ts (.i p) (.bl b)).1 (b7 ks ts (.i p) (.bl b)).2]⟩)/\Fr (UX rows ub) m (m'.set ub ⟨M.bc,[.od (b7 ks ts (.i p) (.bl b)).1 (b7 ks ts (.i p) (.bl b)).2]⟩)/\∃oX pP,(m'.set ub ⟨M.bc,[.od (b7 ks ts (.i p) (.bl b)).1 (b7 ks ts (.i p) (.bl b)).2]⟩)[ub]?=some ⟨M.bc,[.od oX pP]⟩/\Li (sU g p b) oX pP/\oX.length<=ks.length+1:=λm' b h R'=>by
  refine⟨⟨λj r hj=>?_⟩,h.up.trans (Fr.set (.inr rfl)),_,_,dW (dc.mp (xC m' h).2).1,U.put p b,(zM U.len).2⟩;obtain⟨h1,h2,YE,YF,h3,h4⟩:=R'.at_ j r hj;have hj':j<rows.length:=(dc.mp hj).1;exact⟨h1,by rw[cy (by omega)];exact h2,YE,YF,by rw[cy (by omega)];exact h3,h4⟩
 cases hg:g p with
 |true=>
  rw[hg]at DU;obtain⟨⟨v,m1⟩,ev,hv,R1,F1⟩:=vt n e2 YH R hk (by omega)
  have hv:v=.bl (e2.iZ rows k):=hv;subst hv;refine kQ rfl (bY (Bt ((UE (ky:=.i p) (ja (j:=1) (k:=tk) rfl ht rfl rfl) rfl rfl rfl hu).trans (by rw[DU]))) (dm (W.of (UG (ky:=.i p) (s':=⟨_,m1⟩) (OI (eL (ts:=[e2.val,.own (2*k)]) rfl ev)) (ja (j:=1) (k:=tk) rfl (xC m1 F1).1 rfl rfl) rfl rfl (xC m1 F1).2 (by omega)) ⟨rfl,bR rfl ?_⟩)))
  obtain⟨a1,a2,a3⟩:=put m1 (!e2.iZ rows k) F1 R1;exact⟨rfl,a1,a2,a3⟩
 |false=>
  rw[hg]at DU;obtain⟨⟨v,m1⟩,ev,hv,R1,F1⟩:=vt n e1 YG R hk (by omega)
  have hv:v=.bl (e1.iZ rows k):=hv;subst hv;refine kQ rfl (bN (Bt ((UE (ky:=.i p) (ja (j:=1) (k:=tk) rfl ht rfl rfl) rfl rfl rfl hu).trans (by rw[DU]))) ?_)
  cases h1:e1.iZ rows k with
  |false=>
   rw[h1]at ev;refine Yb (s':=⟨_,m1⟩) (Uo (tE2 (eL (ts:=[e1.val,.own (2*k)]) rfl ev))) (bR rfl ⟨?_,R1,F1.up,ks,ts,(xC m1 F1).2,?_,tD _⟩)
   ·show T.bl false=.bl (sE rows k e1 e2 false);unfold sE;rw[h1];rfl
   ·unfold O0
    rw[h1]
    have:sU g p (if false=true then !e2.iZ rows k else if false=true then !e2.past k else false)=g:=by
     funext q
     unfold sU;by_cases e:p=q
     ·rw[if_pos e,<- e,hg];rfl
     ·rw[if_neg e]
    rw[this];exact U
  |true=>
   rw[h1]at ev;obtain⟨o1,o2,_⟩:=R1.at_ k row hk;refine Uh (s':=⟨_,m1⟩) (u7 (tE2 (eL (ts:=[e1.val,.own (2*k)]) rfl ev))) (dm (W.of (UG (ky:=.i p) (s':=⟨_,m1⟩) (OI (cE (ts:=[e2.val,.int ((k:Nat)+1)]) (aw rfl (aw (ja (j:=1) (k:=2*k) rfl o2 rfl rfl) rfl)) (IV (n+6) e2))) (ja (j:=1) (k:=tk) rfl (xC m1 F1).1 rfl rfl) rfl rfl (xC m1 F1).2 (by omega)) ⟨rfl,bR rfl ?_⟩))
   obtain⟨a1,a2,a3⟩:=put m1 (!e2.past k) F1 R1;refine⟨?_,a1,a2,?_⟩
   ·show T.bl true=.bl (sE rows k e1 e2 false);unfold sE;rw[h1];rfl
   ·unfold O0;rw[h1];exact a3
end
inductive LC where
 |ft (t:Bool) (e1 e2:Ed)|li (f:Bool) (its:List Itm) (b:Bool)
noncomputable def LC.val:LC->T
 |.ft false e1 e2=>.obj 8 [e1.val,e2.val]
 |.ft true e1 e2=>.obj 9 [.obj 8 [e1.val,e2.val]]
 |.li f its b=>.obj 6 [bH f its b]
def LC.iZ(rows:Ap)(k:Nat)(up:Bool):LC->Bool
 |.ft false e1 e2=>sE rows k e1 e2 up
 |.ft true e1 e2=>!sE rows k e1 e2 up
 |.li f its b=>sy (rows.getD k []) f its b
def LC.up(rows:Ap)(k:Nat)(up:Bool):LC->Bool
 |.ft _ e1 e2=>O0 rows k e1 e2 up
 |.li _ _ _=>up
def LC.ok:LC->Prop
 |.ft _ e1 e2=>e1.ok/\e2.ok
 |.li _ its _=>(∀i∈its,Itm.ok i)/\its.length<=8
structure TS(rows:Ap)(tk ub:Nat)(x:T)(g:Int->Bool)(c:Nat)(m:FV):Prop where
 R:dU rows c m
 t:m[tk]?=some ⟨25,[.val x,.val (.own ub)]⟩
 u:∃ks ts,m[ub]?=some ⟨M.bc,[.od ks ts]⟩/\Li g ks ts/\ks.length<=c
section
variable{rows:Ap}{c k tk ub:Nat}{m:FV}{row:B1}{x:T}{g:Int->Bool}{p:Int}
theorem O1(h:g p=b):sU g p b=g:=by
 funext q
 unfold sU;by_cases e:p=q
 ·rw[if_pos e,<- e,h]
 ·rw[if_neg e]
theorem vv(e1 e2:Ed)(YG:e1.ok)(YH:e2.ok)(S':TS rows tk ub x g c m)(hk:rows[k]?=some row)(hc:c<800000)(sO:2*rows.length<=tk)(F9:2*rows.length<=ub)(ie:tk≠ub){bh:T} :
  W (cN (n+9) 82 [.own tk,.int p,.obj 8 [e1.val,e2.val],.own (2*k),bh] m) λq=>q.1=.bl (sE rows k e1 e2 (g p))/\TS rows tk ub x (sU g p (O0 rows k e1 e2 (g p))) (c+1) q.2/\Fr (UX rows ub) m q.2:=by
 rw[Yd];obtain⟨ks,ts,hu,U,hl⟩:=S'.u;obtain⟨⟨v,m'⟩,ev,hv,R',F',oX,pP,hu',U',qX⟩:=xG n (p:=p) e1 e2 YG YH S'.R hk hc sO F9 S'.t hu U (by omega)
 have hv:v=.bl (sE rows k e1 e2 (g p)):=hv;subst hv;refine kQ rfl (bN rfl (bY rfl (A9 (mE rfl S'.t rfl rfl ev) ⟨rfl,⟨R',?_,oX,pP,hu',U',by omega⟩,F'⟩)))
 show m'[tk]?=_;rw[F'.at_ tk (dc.mp S'.t).1 λz=>z.elim (λz=>by omega) ie]
 exact S'.t
theorem O2(y:LC)(ok:y.ok)(S':TS rows tk ub x g c m)(hk:rows[k]?=some row)(hc:c<800000)(sO:2*rows.length<=tk)(F9:2*rows.length<=ub)(ie:tk≠ub){bh:T} :
  W (cN (n+10) 82 [.own tk,.int p,y.val,.own (2*k),bh] m) λq=>q.1=.bl (y.iZ rows k (g p))/\TS rows tk ub x (sU g p (y.up rows k (g p))) (c+1) q.2/\Fr (UX rows ub) m q.2:=by
 cases y with
 |li f its b=>
  rw[Yd];have xF:rows.getD k []=row:=by rw[fj,hk];rfl
  refine kQ rfl (bN rfl (bN rfl (bN rfl (bN rfl (Ue (Ud (W.of rfl ((vq (n+2) S'.R hk (by omega) ok.1 ok.2).mono λq hq=>?_))))))))
  obtain⟨ks,ts,hu,U,hl⟩:=S'.u;refine⟨?_,⟨hq.2.1,?_,ks,ts,?_,?_,by omega⟩,hq.2.2.up⟩
  ·show q.1=T.bl (sy (rows.getD k []) f its b)
   rw[xF];exact hq.1
  ·show q.2[tk]?=_
   rw[hq.2.2.at_ tk (dc.mp S'.t).1 (by show ¬ tk<_;omega)];exact S'.t
  ·show q.2[ub]?=_
   rw[hq.2.2.at_ ub (dc.mp hu).1 (by show ¬ ub<_;omega)];exact hu
  ·show Li (sU g p (g p)) ks ts
   rw[O1 rfl];exact U
 |ft t e1 e2=>
  cases t with
  |false=>exact vv (n+1) e1 e2 ok.1 ok.2 S' hk hc sO F9 ie
  |true=>
   rw[Yd];obtain⟨⟨v,m'⟩,ev,hv,q⟩:=vv n (p:=p) e1 e2 ok.1 ok.2 S' hk hc sO F9 ie (bh:=bh);have hv:v=.bl (sE rows k e1 e2 (g p)):=hv;subst hv;exact kQ rfl (bY rfl (A9 (OI (mE rfl S'.t rfl rfl ev)) ⟨rfl,q⟩))
def gf(rows:Ap)(k:Nat):List LC->Int->(Int->Bool)->Int->Bool
 |[],_,g=>g
 |y::ys,p,g=>gf rows k ys (p+1) (sU g p (y.up rows k (g p)))
def cH(rows:Ap)(k:Nat):List LC->Int->(Int->Bool)->Fh
 |[],_,_=>[]
 |y::ys,p,g=>y.iZ rows k (g p)::cH rows k ys (p+1) (sU g p (y.up rows k (g p)))
theorem vz(n:Nat)(hk:rows[k]?=some row)(sO:2*rows.length<=tk)(F9:2*rows.length<=ub)(ie:tk≠ub){bh:T}:∀(ys:List LC)(i:Int)(bs:Fh)(g:Int->Bool)(c:Nat)(m:FV)(u v:Option C),(∀y∈ys,LC.ok y)->TS rows tk ub x g c m->c+ys.length<800000->bs.length+ys.length<1000 ->
  W (bU (e7 [4,5]) (gQ 3 (av (ak [(25,82)] (cN (n+10))) (vF 0) (cA (vF 4) (k3 (vF 5) (vF 1) (vF 2))))) (cZ i (ys.map LC.val)) ⟨[sv (.own tk),sv (.own (2*k)),sv bh,some (.ol (bs.map T.bl)),u,v],m⟩) λp=>p.1=.nx/\∃u v m',p.2=⟨[sv (.own tk),sv (.own (2*k)),sv bh,some (.ol ((bs++cH rows k ys i g).map T.bl)),u,v],m'⟩/\TS rows tk ub x (gf rows k ys i g) (c+ys.length) m'/\Fr (UX rows ub) m m'
 |[],i,bs,g,c,m,u,v,_,S',_,_=>⟨_,rfl,rfl,u,v,m,by rw[cH,dz],S',Fr.refl⟩
 |y::ys,i,bs,g,c,m,u,v,ho,S',hc,hb=>by
  rw[bz]at hc hb;obtain⟨⟨t,m1⟩,e,h1,h2,h3⟩:=O2 n y (ho y (eg ..)) (p:=i) (bh:=bh) S' hk (by omega) sO F9 ie
  have h1:t=.bl (y.iZ rows k (g i)):=h1;subst h1;have q:=vz n hk sO F9 ie (bh:=bh) ys (i+1) (bs++[y.iZ rows k (g i)]) (sU g i (y.up rows k (g i))) (c+1) m1 (sv (.int i)) (sv y.val) (λz hz=>ho z (ez _ hz)) h2 (by omega) (by simp;omega)
  rw[gy]at q;refine qE rfl (W.of (xm (HQ:=bs.map T.bl) (ts:=bs.map T.bl) rfl (mE rfl S'.t rfl rfl e) rfl (by rw[bF];omega)) ⟨rfl,q.mono λp hp=>⟨hp.1,?_⟩⟩)
  obtain⟨_,u',v',m',q2,q3,q4⟩:=hp;exact⟨u',v',m',by rw[q2,cH,c6];rfl,by rw[bz,show c+(ys.length+1)=c+1+ys.length by omega];exact q3,h3.trans q4⟩
theorem UH{ys:List LC}(hk:rows[k]?=some row)(sO:2*rows.length<=tk)(F9:2*rows.length<=ub)(ie:tk≠ub)(ho:∀y∈ys,LC.ok y)(S':TS rows tk ub (.lst (ys.map LC.val)) g c m)(hc:c+ys.length<800000)(hb:ys.length<1000){bh:T} :
  W (cN (n+11) 81 [.own tk,.own (2*k),bh] m) λp=>p.1=.lst ((cH rows k ys 0 g).map T.bl)/\TS rows tk ub (.lst (ys.map LC.val)) (gf rows k ys 0 g) (c+ys.length) p.2/\Fr (UX rows ub) m p.2:=by
 rw[w81];refine kQ rfl (dm (W.of rfl ⟨rfl,dm (gG (W.of (a:=(cZ 0 (ys.map LC.val),(⟨[sv (.own tk),sv (.own (2*k)),sv bh,some (.ol []),none,none],m⟩:S))) ?_ ((vz n hk sO F9 ie ys 0 [] g c m none none ho S' hc (by simpa using hb)).mono λp hp=>⟨hp.1,?_⟩)))⟩))
 ·unfold ig
  rw[ja (k:=tk) (s1:=⟨[sv (.own tk),sv (.own (2*k)),sv bh,some (.ol []),none,none],m⟩) (j:=0) rfl S'.t rfl rfl];rfl
 ·obtain⟨_,u,v,m',e,h1,h2⟩:=hp
  rw[e];exact A9 rfl ⟨rfl,h1,h2⟩
end
inductive Dw where
 |drop|say (x:T)
noncomputable def Dw.val:Dw->T
 |.drop=>.obj 13 []
 |.say x=>.obj 16 [x]
def Dw.fin(v:WV):Dw->WV
 |.drop=>v.rest
 |.say _=>v
def Dw.says(tk:Int):Dw->FK
 |.drop=>[kg]++[fL tk]
 |.say x=>[iu x]
def Dw.vA:Dw->Bool
 |.drop=>true
 |.say _=>false
theorem vB(tk:Int)(d:Dw):(d.says tk).length<=2:=by
 cases d
 ·exact cC _
 ·exact tD _
section
variable{m:FV}{w:Nat}{v v':WV}{log ts:FK}{r:Fs}{t u:T}{s:S}{ks:List Ky}{ky:Ky}
theorem UI(d:Dw)(S':WS m w v log)(hl:log.length+2<900000):W (cN (n+3) 96 [.own w,d.val,u] m) (WR w v (d.fin v) (log++d.says v.tk) m):=by
 cases d with
 |say x=>exact OY n S' (by omega)
 |drop=>
  rw[w96];refine e8 rfl (nW rfl (oz (r:=[sv (.obj 13 []),sv u]) (ts:=[]) S' rfl (zK n S' hl) λ_ m1 h=>⟨rfl,rfl,?_,h.2.2⟩));have h:=h.2.1;rw[c6]at h;exact h
theorem UJ{c:T}{d:Dw}{num:Int}{tr:FK}{b:Bool}(S':WS m w v log)(hm:m[v.mt]?=some ⟨M.bc,[.od ks ts]⟩)(n1:v.mt≠w)(n2:v.mt≠v.lg)(hc:fZ M.P.sub [10] c=some (.bl false))(hk:Ky.i num∉ks)(hs:ks.length<1000000)(ht:v.tr=.lst tr)(hi:vQ (.lst tr) (.int (num-1))=some (.bl b))(hl:log.length+3<900000) :
  W (cN (n+4) 89 [.own w,.obj 1 [c,d.val],.int num] m) λp=>p.1=.non/\WS p.2 w (if b then d.fin v else v) (log++[qH num b]++(if b then d.says v.tk else[]))/\p.2[v.mt]?=some ⟨M.bc,[.od (ks++[.i num]) (ts++[.bl true])]⟩/\Fr (WY w v) m p.2:=by
 rw[w89];have S1:WS (m.set v.mt ⟨M.bc,[.od (ks++[.i num]) (ts++[.bl true])]⟩) w v log:=⟨by rw[cy n1];exact S'.o,by rw[cy n2];exact S'.l,S'.ne,S'.nq⟩
 have Sn:=dW (a:=(⟨M.bc,[.od (ks++[.i num]) (ts++[.bl true])]⟩:Ob)) (dc.mp hm).1;have F:Fr (WY w v) m (m.set v.mt ⟨M.bc,[.od (ks++[.i num]) (ts++[.bl true])]⟩):=Fr.set (.inr (.inr rfl));obtain⟨m0,h0⟩:∃m0,m0=m.set v.mt ⟨M.bc,[.od (ks++[.i num]) (ts++[.bl true])]⟩:=⟨_,rfl⟩;rw[<- h0]at S1 Sn F;have keep:∀{m1},Fr (WX w v) m0 m1->m1[v.mt]?=some ⟨M.bc,[.od (ks++[.i num]) (ts++[.bl true])]⟩:=λG=>by
  rw[G.at_ v.mt (dc.mp Sn).1 λz=>z.elim n1 n2];exact Sn
 refine e8 rfl (fU (fJ (jx (t:=c) rfl hc) ⟨_,rfl,rfl,fU (fJ ((OU (neg:=false) (ky:=.i num) rfl (w_fld S' (j:=5) rfl rfl) rfl hm).trans (by rw[if_neg bZ,decide_eq_false hk])) ⟨_,rfl,rfl,fU (W.of (UB (ky:=.i num) rfl (w_fld S' (j:=5) rfl rfl) rfl rfl hm hk hs) ⟨rfl,?_⟩)⟩)⟩))
 show W (af _ _ ⟨sv (.own w)::[sv (.obj 1 [c,d.val]),sv (.int num),none],m.set v.mt ⟨M.bc,[.od (ks++[.i num]) (ts++[.bl true])]⟩⟩) _;rw[<- h0];refine wS (aR (t:=.lst tr) (u:=.int (num-1)) (by rw[<- ht];exact w_fld S1 (j:=3) rfl rfl) rfl hi) ?_
 show W (af _ _ ⟨sv (.own w)::[sv (.obj 1 [c,d.val]),sv (.int num),sv (.bl b)],m0⟩) _;refine OW (t:=qH num b) S1 (by omega) rfl λm1 S2 F1=>?_
 cases b with
 |false=>exact fJ rfl ⟨_,rfl,rfl,rfl,by rw[if_neg bZ,if_neg bZ,dz];exact S2,keep F1,F.trans F1.wx⟩
 |true=>exact nW rfl (oz (ts:=[d.val,.int num]) S2 rfl (UI n d S2 (by simp;omega)) λ_ m2 h=>⟨rfl,rfl,by rw[if_pos rfl,if_pos rfl];exact h.2.1,keep (F1.trans h.2.2),F.trans (F1.trans h.2.2).wx⟩)
def dI(q:T×Dw):T:=.obj 1 [q.1,q.2.val]
structure Lj(l:List (T×Dw)):Prop where
 nq:l.length<=1000
 no:∀q∈l,fZ M.P.sub [10] q.1=some (.bl false)
theorem onG{l:List (T×Dw)}{bs:Fh}{p:Nat}(S':WS m w v log)(hm:m[v.mt]?=some ⟨M.bc,[.od ks ts]⟩)(n1:v.mt≠w)(n2:v.mt≠v.lg)(L:Lj l)(hv:v.lines=l.map dI)(ht:v.tr=.lst (bs.map T.bl))(hb:bs.length=l.length)(hp:p<l.length)(F_:v.ps=(p:Nat))(hk:Ky.i ((p:Nat)+1)∉ks)(hs:ks.length<1000000)(hl:log.length+3<900000) :
  W (cN (n+5) 88 [.own w] m) λq=>q.1=.non/\WS q.2 w (if bs[p]'(by omega)then l[p].2.fin {v with ps:=(p:Nat)+1}else{v with ps:=(p:Nat)+1}) (log++[qH ((p:Nat)+1) (bs[p]'(by omega))]++(if bs[p]'(by omega)then l[p].2.says v.tk else[]))/\q.2[v.mt]?=some ⟨M.bc,[.od (ks++[.i ((p:Nat)+1)]) (ts++[.bl true])]⟩/\Fr (WY w v) m q.2:=by
 rw[w88];have hpb:p<bs.length:=by omega
 have e0:bD [.lst (l.map dI)]=some (.int (l.length:Nat)):=by
  show some (T.int ((l.map dI).length:Nat))=_;rw[bF]
 have hi:∀{α:Type}(g:α->T){y:List α}(h:p<y.length),vQ (.lst (y.map g)) (.int (((p:Nat):Int)+1-1))=some (g y[p]):=λg y h=>by
  rw[show((p:Nat):Int)+1-1=((p:Nat):Int) by omega,YB (by rw[bF];exact h),JP]
 refine e8 rfl (fJ (mf (aR (t:=.int (p:Nat)) (by rw[<- F_];exact w_fld S' (j:=4) rfl rfl) (dY (ts:=[.lst (l.map dI)]) (aw (by rw[<- hv];exact w_fld S' (j:=0) rfl rfl) rfl) e0) (by rw[r_,decide_eq_false (by omega)]))) (OX (r:=[]) S' {v with ps:=(p:Nat)+1} rfl (j:=4) (i:=(p:Nat)) rfl (by rw[<- F_];rfl) rfl λm1 S1 F1=>oz (ts:=[dI l[p],.int ((p:Nat)+1)]) S1 (aw (aR (t:=.lst (l.map dI)) (by rw[<- hv];exact w_fld S1 (j:=0) rfl rfl) (aR (t:=.int ((p:Nat)+1)) (w_fld S1 (j:=4) rfl rfl) rfl rfl) (hi dI hp)) (aw (w_fld S1 (j:=4) rfl rfl) rfl)) (UJ n (c:=l[p].1) (d:=l[p].2) (num:=(p:Nat)+1) (b:=bs[p]) S1 (by show m1[v.mt]?=_;rw[F1.at_ v.mt (dc.mp hm).1 λz=>z.elim n1 n2];exact hm) n1 n2 (L.no _ (tm hp)) hk hs ht (hi T.bl hpb) hl) λ_ m2 h=>⟨rfl,rfl,h.2.1,h.2.2.1,F1.wx.trans ⟨h.2.2.2.le,λk hk x=>h.2.2.2.at_ k hk x⟩⟩))
def h_(h:T)(tk:Int):Nat->List ((T×Dw)×Bool)->FK
 |_,[]=>[iu h]++[kg]++[fL tk]
 |k,(q,b)::r=>[qH ((k:Nat)+1) b]++(if b then q.2.says tk else[])++(if b&&q.2.vA then[]else h_ h tk (k+1) r)
theorem YI{l:List (T×Dw)}(S':WS m w v log)(hv:v.lines=l.map dI)(F_:v.ps=(l.length:Nat))(hl:log.length+3<900000):W (cN (n+5) 88 [.own w] m) (WR w v v.rest (log++[iu v.hand]++[kg]++[fL v.tk]) m):=by
 rw[w88];exact e8 rfl (nW (mf (aR (t:=.int (l.length:Nat)) (u:=.int (l.length:Nat)) (by rw[<- F_];exact w_fld S' (j:=4) rfl rfl) (dY (ts:=[.lst (l.map dI)]) (aw (by rw[<- hv];exact w_fld S' (j:=0) rfl rfl) rfl) (by show some (T.int ((l.map dI).length:Nat))=_;rw[bF])) (by rw[r_,decide_eq_true rfl]))) (oz (r:=[]) S' rfl (IS (n+1) S' hl) λ_ m1 h=>⟨rfl,rfl,h.2⟩))
theorem Ll(n:Nat){l:List (T×Dw)}{bs:Fh}(L:Lj l)(hb:bs.length=l.length):∀(d:Nat){m:FV}{v:WV}{log:FK}{ks:List Ky}{ts:FK}{p e:Nat},p+d=l.length->WS m w v log->m[v.mt]?=some ⟨M.bc,[.od ks ts]⟩->v.mt≠w->v.mt≠v.lg->v.lines=l.map dI->v.tr=.lst (bs.map T.bl)->v.wt=false->v.ps=(p:Nat)->(∀q:Nat,p<q->Ky.i (q:Nat)∉ks)->ks.length<=p->log.length+3*d+5<900000 ->
  W (aY (cW (D.tB (aC M.P.tab 30 (vF 0)))) (aL (av (ak [(26,88)] (cN (n+5))) (vF 0) bq)) (e+d+2) ⟨sv (.own w)::r,m⟩) λq=>q.1=.nx/\q.2.r=sv (.own w)::r/\WS q.2.m w v.rest (log++h_ v.hand v.tk p ((l.zip bs).drop p))/\Fr (WY w v) m q.2.m
 |0,m,v,log,ks,ts,p,e,hd,S',hm,n1,n2,hv,ht,hw,F_,hk,Lm,hl=>by
  have c:=zL (r:=r) S';rw[hw]at c;refine sD c (oz S' rfl (YI n S' hv (by rw[F_];omega) (by omega)) λ_ m1 h=>⟨rfl,EY (zL h.2.1) ⟨rfl,rfl,?_,h.2.2.wx⟩⟩)
  rw[ya (by rw[qP];omega),h_,<- c6,<- c6]
  exact h.2.1
 |d+1,m,v,log,ks,ts,p,e,hd,S',hm,n1,n2,hv,ht,hw,F_,hk,Lm,hl=>by
  have hp:p<l.length:=by omega
  have hpb:p<bs.length:=by omega
  have c:=zL (r:=r) S';rw[hw]at c;have nq:=L.nq;have ed:(l.zip bs).drop p=(l[p],bs[p])::(l.zip bs).drop (p+1):=by
   rw[ph (by rw[qP];omega),List.getElem_zip]
  rw[ed,h_];refine sD (k:=e+d+2) c (oz S' rfl (onG n S' hm n1 n2 L hv ht hb hp F_ (hk (p+1) (vW p)) (by omega) (by omega)) λ_ m1 h=>⟨rfl,?_⟩)
  obtain⟨_,h1,h2,h3⟩:=h;by_cases st:(bs[p]&&l[p].2.vA)=true
  ·obtain⟨VL,GL⟩:=tF.mp st
   rw[if_pos st,dz,<- c6];have PL:l[p].2=.drop:=by
    cases hh:l[p].2 with
    |drop=>rfl
    |say x=>rw[hh]at GL;cases GL
   rw[VL,if_pos rfl,if_pos rfl,PL]at h1;rw[VL,if_pos rfl,PL];exact EY (zL h1) ⟨rfl,rfl,h1,h3⟩
  ·have hv1:(if bs[p]then l[p].2.fin {v with ps:=(p:Nat)+1}else{v with ps:=(p:Nat)+1})={v with ps:=(p:Nat)+1}:=by
    cases VL:bs[p]with
    |false=>rfl
    |true=>
     cases hh:l[p].2 with
     |drop=>rw[VL,hh]at st;exact absurd rfl st
     |say x=>rfl
   rw[hv1]at h1;rw[if_neg st];refine(Ll n L hb d (p:=p+1) (e:=e) (by omega) h1 h2 n1 n2 hv ht hw (by show((p:Nat):Int)+1=_;omega) (λq hq z=>?_) (by rw[cK];show _+1<=_;omega) ?_).mono λq hq=>?_
   ·rcases gn.mp z with z|z
    ·exact hk q (by omega) z
    ·have:=dG.mp z
     injection this with this
     omega
   ·have:=vB v.tk l[p].2
    cases bs[p]<;>simp<;>omega
   ·obtain⟨k1,k2,k3,k4⟩:=hq
    refine⟨k1,k2,?_,h3.trans k4⟩;rw[<- c6,<- c6];exact k3
end
section
variable{m m1:FV}{w p:Nat}{v v':WV}{log:FK}{l:List (T×Dw)}{bs:Fh}{x:B1}
theorem UK(S':WS m w v log)(L:Lj l)(hb:bs.length=l.length)(hv:v.lines=l.map dI)(hh:v.hand=.non)(F_:v.ps=0)(hl:log.length+3*l.length+10<900000) :
  W (cN (n+6) 87 [.own w,.str x,.lst (bs.map T.bl)] m) λp=>p.1=.non/\∃mt,WS p.2 w {v.rest with tk:=v.tk+1,tr:=.lst (bs.map T.bl),mt:=mt} (log++[ki (v.tk+1)]++h_ (.str x) (v.tk+1) 0 (l.zip bs))/\Fr (WX w v) m p.2:=by
 rw[w87];have nq:=L.nq;have YJ:v.lg<m.length:=(dc.mp S'.l).1;have hw:w<m.length:=(dc.mp S'.o).1;refine e8 rfl (OX (r:=[sv (.str x),sv (.lst (bs.map T.bl))]) S' {v with tk:=v.tk+1} rfl (j:=6) (i:=v.tk) rfl rfl rfl λm1 S1 F1=>OW (t:=ki (v.tk+1)) S1 (by omega) (dY (aw rfl (aw (w_fld S1 (j:=6) rfl rfl) rfl)) rfl) λm2 S2 F2=>Be S2 {v with tk:=v.tk+1,hand:=.str x} rfl (t:=.str x) ?_ rfl λm3 S3 F3=>OX S3 {v with tk:=v.tk+1,hand:=.str x,hr:=v.hr+1} rfl (j:=8) (i:=v.hr) rfl rfl rfl λm4 S4 F4=>Be S4 {v with tk:=v.tk+1,hand:=.str x,hr:=v.hr+1,tr:=.lst (bs.map T.bl)} rfl rfl rfl λm5 S5 F5=>YC S5 {v with tk:=v.tk+1,hand:=.str x,hr:=v.hr+1,tr:=.lst (bs.map T.bl),mt:=m5.length} rfl rfl λm6 S6 F6 h6=>Be S6 {v with tk:=v.tk+1,hand:=.str x,hr:=v.hr+1,tr:=.lst (bs.map T.bl),mt:=m5.length,wt:=false} rfl rfl rfl λm7 S7 F7=>?_)
 ·unfold AN
  rw[mf (b:=true) (aR (t:=.non) (u:=.non) (by rw[<- hh];exact w_fld S2 (j:=7) rfl rfl) rfl rfl)];rfl
 have G:Fr (WX w v) m m5:=(((F1.trans F2).trans F3).trans F4).trans F5;have le:=G.le;have F:Fr (WX w v) m m7:=(G.trans F6).trans F7;have h7:m7[m5.length]?=some ⟨M.bc,[.od [] []]⟩:=by
  rw[F7.at_ _ (dc.mp h6).1 λz=>by rcases z with z|z;(omega);(have z:m5.length=v.lg:=z;omega)];exact h6
 obtain⟨e,he⟩:∃e,many=e+l.length+2:=⟨many-(l.length+2),by unfold many;omega⟩
 unfold eW;rw[he];refine(Ll n L hb l.length (p:=0) (e:=e) (by omega) S7 h7 (by show m5.length≠w;omega) (by show m5.length≠v.lg;omega) hv rfl rfl F_ (λq _ z=>by cases z) (i6 _) (by simp;omega)).mono λq hq=>?_
 obtain⟨k1,k2,k3,k4⟩:=hq;refine⟨k1,rfl,m5.length,k3,gA F.le k4.le,λk hk z=>(k4.at_ k (iw hk F.le) ?_).trans (F.at_ k hk z)⟩
 rintro(y|y|y)
 ·exact z (.inl y)
 ·exact z (.inr y)
 ·have y:k=m5.length:=y
  omega
end
section
variable{rows:Ap}{c k w tk ub:Nat}{m m':FV}{row:B1}{ys:List LC}{v:WV}{log:FK}{l:List (T×Dw)}{g:Int->Bool}
theorem jA:∀(ys:List LC)(p:Int)(g:Int->Bool),(cH rows k ys p g).length=ys.length
 |[],_,_=>rfl
 |y::ys,p,g=>by rw[cH,bz,bz,jA ys]
theorem dU.fr{X:Nat->Prop}(R:dU rows c m)(F:Fr X m m')(h:∀q,q<2*rows.length->¬ X q):dU rows c m':=⟨λk row hk=>by
 obtain⟨h1,h2,ks,ts,h3,h4,h5⟩:=R.at_ k row hk;have VJ:k<rows.length:=(dc.mp hk).1;refine⟨h1,?_,ks,ts,?_,h4,h5⟩
 ·rw[F.at_ _ (dc.mp h2).1 (h _ (by omega))];exact h2
 ·rw[F.at_ _ (dc.mp h3).1 (h _ (by omega))];exact h3⟩
structure WG(rows:Ap)(l:List (T×Dw))(ys:List LC)(w tk ub:Nat)(g:Int->Bool)(c:Nat)(v:WV)(log:FK)(m:FV):Prop where
 S:WS m w v log
 T:TS rows tk ub (.lst (ys.map LC.val)) g c m
 w2:2*rows.length<=w
 l2:2*rows.length<=v.lg
 t2:2*rows.length<=tk
 u2:2*rows.length<=ub
 tl:v.tl=tk
 n1:tk≠w
 n2:tk≠v.lg
 n3:ub≠w
 n4:ub≠v.lg
 n5:tk≠ub
 ln:v.lines=l.map dI
 hd:v.hand=.non
 ps:v.ps=0
def kU(rows:Ap)(l:List (T×Dw))(ys:List LC)(g:Int->Bool)(k:Nat)(i:Int)(row:B1):FK:=[ki (i+1)]++h_ (.str row) (i+1) 0 (l.zip (cH rows k ys 0 g))
def ZG(rows:Ap)(w ub:Nat)(v:WV)(q:Nat):Prop:=q<2*rows.length\/q=ub\/q=w\/q=v.lg
theorem Bf(I:WG rows l ys w tk ub g c v log m)(L:Lj l)(hb:ys.length=l.length)(ho:∀y∈ys,LC.ok y)(hk:rows[k]?=some row)(hc:c+ys.length<800000)(wD:ys.length<1000)(hl:log.length+3*l.length+10<900000){bh:T} :
  W (cN (n+12) 86 [.own w,.own (2*k),bh] m) λp=>p.1=.non/\Fr (ZG rows w ub v) m p.2/\∃tr mt,WG rows l ys w tk ub (gf rows k ys 0 g) (c+ys.length) {v.rest with tk:=v.tk+1,tr:=tr,mt:=mt} (log++kU rows l ys g k v.tk row) p.2:=by
 rw[w86];obtain⟨⟨t1,m1⟩,e1,YK,T1,F1⟩:=UH n (bh:=bh) hk I.t2 I.u2 I.n5 ho I.T hc wD;have YK:t1=.lst ((cH rows k ys 0 g).map T.bl):=YK;subst YK;have keep:∀q ob,2*rows.length<=q->q≠ub->m[q]?=some ob->m1[q]?=some ob:=λq ob hq hu h=>by rw[F1.at_ q (dc.mp h).1 λz=>z.elim (λz=>by omega) hu];exact h
 have S1:WS m1 w v log:=⟨keep _ _ I.w2 I.n3.symm I.S.o,keep _ _ I.l2 I.n4.symm I.S.l,I.S.ne,I.S.nq⟩;obtain⟨⟨t2,m2⟩,e2,YL,mt,S2,F2⟩:=UK (n+5) (x:=row) (bs:=cH rows k ys 0 g) S1 L (by rw[jA];exact hb) I.ln I.hd I.ps hl
 have YL:t2=.non:=YL;subst YL;obtain⟨_,o2,_⟩:=I.T.R.at_ k row hk;refine e8 rfl (dE (u1 (k:=w) (s1:=⟨[sv (.own w),sv (.own (2*k)),sv bh],m⟩) (s2:=⟨[sv (.own w),sv (.own (2*k)),sv bh],m1⟩) rfl I.S.o rfl (aw (ja (k:=2*k) (j:=0) rfl o2 rfl rfl) (aw (mE (by rw[<- I.tl];exact w_fld I.S (j:=2) rfl rfl) I.T.t rfl rfl e1) rfl)) e2) ⟨rfl,rfl,⟨gA F1.le F2.le,λq hq z=>(F2.at_ q (iw hq F1.le) λy=>z (.inr (.inr y))).trans (F1.at_ q hq λy=>z (y.elim .inl λy=>.inr (.inl y)))⟩,.lst ((cH rows k ys 0 g).map T.bl),mt,?_⟩)
 have w2:=I.w2;have l2:=I.l2;have fix:∀q ob,q≠w->q≠v.lg->m1[q]?=some ob->m2[q]?=some ob:=λq ob a b h=>by rw[F2.at_ q (dc.mp h).1 λz=>z.elim a b];exact h
 obtain⟨ks,ts,hu,U,hn⟩:=T1.u;refine⟨?_,⟨T1.R.fr F2 λq hq z=>?_,fix _ _ I.n1 I.n2 T1.t,ks,ts,fix _ _ I.n3 I.n4 hu,U,hn⟩,I.w2,I.l2,I.t2,I.u2,I.tl,I.n1,I.n2,I.n3,I.n4,I.n5,I.ln,rfl,rfl⟩
 ·unfold kU
  rw[<- c6];exact S2
 ·rcases z with z|z<;>omega
end
section
variable{rows:Ap}{l:List (T×Dw)}{ys:List LC}{w tk ub:Nat}
theorem E4{L k:Nat}(h:k<L):pV L k=.own (2*k)::pV L (k+1):=by
 unfold pV;rw[ph (by rw[jg];exact h),cU,List.getElem_range]
theorem E5{L k:Nat}:(pV L 0).drop k=pV L k:=by
 unfold pV;rw[mH,BP]
def kW(rows:Ap)(l:List (T×Dw))(ys:List LC):(Int->Bool)->Nat->Ap->FK
 |_,_,[]=>[]
 |g,k,x::r=>kU rows l ys g k ((k:Nat):Int) x++kW rows l ys (gf rows k ys 0 g) (k+1) r
theorem oF(h:T)(tk:Int):∀(k:Nat)(l:List ((T×Dw)×Bool)),(h_ h tk k l).length<=3*l.length+3
 |_,[]=>cC _
 |k,(q,b)::r=>by
  have:=oF h tk (k+1) r
  have h2:=vB tk q.2;unfold h_;rw[cK,cK,bz];cases b<;>cases q.2.vA<;>simp<;>omega
theorem vC(n:Nat)(L:Lj l)(hb:ys.length=l.length)(ho:∀y∈ys,LC.ok y)(wD:ys.length<1000){pg tx:T}:∀(d k c:Nat)(g:Int->Bool)(v:WV)(log:FK)(m:FV)(u u':Option C),k+d=rows.length->WG rows l ys w tk ub g c v log m->v.tk=((k:Nat):Int)->c+ys.length*d<800000->log.length+(3*l.length+10)*d+20<900000 ->
  W (bU (e7 [4,5]) (aL (av (ak [(26,86)] (cN (n+12))) (vF 3) (k2 (vF 5) (oW (vF 2) (kG (vF 4)) wF)))) (cZ (((k:Nat):Int)+1) (pV rows.length k)) ⟨[sv pg,sv tx,sv (.lst (pV rows.length 0)),sv (.own w),u,u'],m⟩) λp=>p.1=.nx/\∃u u' m' c' g' v',p.2=⟨[sv pg,sv tx,sv (.lst (pV rows.length 0)),sv (.own w),u,u'],m'⟩/\WG rows l ys w tk ub g' c' v' (log++kW rows l ys g k (rows.drop k)) m'/\v'.tk=(rows.length:Nat)/\v'.lg=v.lg/\v'.su=v.su/\v'.no=v.no/\Fr (ZG rows w ub v) m m'
 |0,k,c,g,v,log,m,u,u',hd,I,ht,_,_=>by
  have hk:k=rows.length:=by omega
  subst hk;rw[show pV rows.length rows.length=[] by unfold pV;rw[ya (by rw[jg];exact cC _)];rfl,x9]
  exact⟨_,rfl,rfl,u,u',m,c,g,v,rfl,by rw[show kW rows l ys g rows.length []=[]from rfl,dz];exact I,ht,rfl,rfl,rfl,Fr.refl⟩
 |d+1,k,c,g,v,log,m,u,u',hd,I,ht,hc,hl=>by
  have hk:k<rows.length:=by omega
  have xF:rows[k]?=some rows[k]:=b8 hk;rw[Nat.mul_add,Nat.mul_one]at hc hl;obtain⟨⟨t1,m1⟩,e1,h1,F1,tr,mt,I1⟩:=Bf n (bh:=.lst (pV rows.length (k+1))) I L hb ho xF (by omega) wD (by omega)
  have h1:t1=.non:=h1;subst h1;have bO:(kU rows l ys g k v.tk rows[k]).length<=3*l.length+4:=by
   unfold kU
   have:=oF (.str rows[k]) (v.tk+1) 0 (l.zip (cH rows k ys 0 g))
   rw[qP]at this;rw[cK];show 1+_<=_;omega
  obtain⟨p,e2,q1,w1,w2,m',c',g',v',q2,I2,q3,q4,q5,q6,F2⟩:=vC n L hb ho wD (pg:=pg) (tx:=tx) d (k+1) _ _ _ _ m1 (sv (.int (((k:Nat):Int)+1))) (sv (.own (2*k))) (by omega) I1 (by show v.tk+1=_;rw[ht];omega) (by omega) (by rw[cK];omega)
  rw[show(((k+1:Nat)):Int)=((k:Nat):Int)+1 by omega]at e2
  rw[E4 hk];refine qE rfl (dE (mE rfl I.S.o rfl (aw rfl (aw (Yp (t:=.lst (pV rows.length 0)) (u:=.lst (pV rows.length (k+1))) (x:=some (((k+1:Nat)):Int)) rfl rfl rfl (by show some (T.lst (bA _ _ none))=_;rw[E3,E5])) rfl)) e1) ⟨rfl,p,e2,q1,w1,w2,m',c',g',v',q2,?_,q3,q4,q5,q6,F1.trans F2⟩)
  rw[ph hk];show WG rows l ys w tk ub g' c' v' (log++(kU rows l ys g k ((k:Nat):Int) rows[k]++kW rows l ys (gf rows k ys 0 g) (k+1) (rows.drop (k+1)))) m';rw[ht,c6]at I2;exact I2
end
section
variable{m:FV}{ob nK:Ob}{x:B1}{i:Int}{f:Nat}{t:T}{r:Fs}{a:FE}{rows:Ap}
theorem oG{α:Type}{m:List α}{x:α}:(m++[x])[m.length]?=some x:=by
 rw[eS (cC _),i7];rfl
theorem oH{α:Type}{m:List α}{x y:α}:(m++[x]).set m.length y=m++[y]:=by
 rw[B3 _ _ (cC _),i7];rfl
theorem E6(ha:a ⟨sv (.own m.length)::r,m++[ob]⟩=.ok (t,⟨sv (.own m.length)::r,m++[ob]⟩))(hp:dM M.P.tab f (.val t) ob=some nK):aM M.P.tab f (vF 0) a ⟨sv (.own m.length)::r,m++[ob]⟩=.ok (.nx,⟨sv (.own m.length)::r,m++[nK]⟩):=by
 unfold aM;rw[ha];refine Eq.trans (bj _ _) ?_;show Res.bind (aS (((m++[ob])[m.length]?).bind _)) _=_;rw[oG];show Res.bind (aS (dM M.P.tab f (.val t) ob)) _=_;rw[hp];show Res.ok (Out.nx,(⟨_,(m++[ob]).set m.length nK⟩:S))=_;rw[oH]
def kj(x:B1)(i:Int)(b:Nat):Ob:=⟨24,[.val (.str x),.val (.int i),.val (.own b)]⟩
def cJ:Ob:=⟨M.bc,[.od [] []]⟩
theorem E7:cN (n+1) 78 [.own m.length,.str x,.int i] (m++[⟨24,[]⟩])=.ok (.non,m++[kj x i (m.length+1),cJ]):=by
 rw[w78];refine OC (s':=⟨[sv (.own m.length),sv (.str x),sv (.int i)],m++[kj x i (m.length+1),cJ]⟩) rfl (seq1 (E6 (r:=[sv (.str x),sv (.int i)]) (t:=.str x) (nK:=⟨24,[.val (.str x)]⟩) rfl rfl) (seq1 (E6 (r:=[sv (.str x),sv (.int i)]) (t:=.int i) (nK:=⟨24,[.val (.str x),.val (.int i)]⟩) rfl rfl) ?_)) rfl;obtain⟨oA,hA⟩:∃oA:Ob,oA=⟨24,[.val (.str x),.val (.int i)]⟩:=⟨_,rfl⟩;rw[<- hA];unfold aM lP;refine Eq.trans (bj _ _) ?_;show Res.bind (aS (((m++[oA]++[cJ])[m.length]?).bind _)) _=_;rw[kh oG];have hp:dM M.P.tab 15 (.val (.own (m++[oA]).length)) oA=some (kj x i (m.length+1)):=by
  rw[hA,cK];rfl
 show Res.bind (aS (dM M.P.tab 15 (.val (.own (m++[oA]).length)) oA)) _=_;rw[hp];have e:(m++[oA]++[cJ]).set m.length (kj x i (m.length+1))=m++[kj x i (m.length+1),cJ]:=by
  rw[JQ _ _ (by simp),oH,c6];rfl
 exact congrArg (λz=>Res.ok (Out.nx,(⟨[sv (.own m.length),sv (.str x),sv (.int i)],z⟩:S))) e
def vS:Nat->Ap->FV
 |_,[]=>[]
 |i,x::l=>kj x ((i:Nat)+1) (2*i+1)::cJ::vS (i+1) l
theorem zN:∀(i:Nat)(l:Ap),(vS i l).length=2*l.length
 |_,[]=>rfl
 |i,x::l=>by
  show(vS (i+1) l).length+1+1=2*(l.length+1);rw[zN (i+1) l];omega
theorem E8:∀(l:Ap)(i k:Nat)(row:B1),l[k]?=some row->(vS i l)[2*k]?=some (kj row (((i+k:Nat):Int)+1) (2*(i+k)+1))/\(vS i l)[2*k+1]?=some cJ
 |[],_,_,_,h=>by simp at h
 |x::l,i,0,row,h=>by
  simp at h;subst h;exact⟨rfl,rfl⟩
 |x::l,i,k+1,row,h=>by
  obtain⟨h1,h2⟩:=E8 l (i+1) k row (by simpa using h)
  rw[show i+1+k=i+(k+1) by omega]at h1
  exact⟨h1,h2⟩
theorem zO(n:Nat):∀(l:Ap)(i:Nat)(m:FV),m.length=2*i->aN (e7 [1,2]) cX (jR 24 (cN (n+1) 78) (k2 (vF 2) (vF 1))) [none,none,none] (cZ ((i:Nat)+1) (l.map T.str)) m=.ok (((kr i l.length).map λq=>T.own (2*q)),m++vS i l)
 |[],i,m,_=>by
  rw[show vS i []=[]from rfl,dz];rfl
 |x::l,i,m,hm=>by
  have ih:=zO n l (i+1) (m++[kj x ((i:Nat)+1) (m.length+1),cJ]) (by simp;omega)
  rw[cU,cZ,aN];refine Eq.trans (bj _ _) ?_;have e:jR 24 (cN (n+1) 78) (k2 (vF 2) (vF 1)) ⟨[none,sv (.int ((i:Nat)+1)),sv (.str x)],m⟩=.ok (.own m.length,⟨[none,sv (.int ((i:Nat)+1)),sv (.str x)],m++[kj x ((i:Nat)+1) (m.length+1),cJ]⟩):=by
   unfold jR;show(match cN (n+1) 78 [.own m.length,.str x,.int ((i:Nat)+1)] (m++[⟨24,[]⟩])with|.ok (.non,m')=>_|.exc c fs s'=>_|_=>_)=_
   rw[E7 n]
  show Res.bind (jR _ _ _ ⟨[none,sv (.int ((i:Nat)+1)),sv (.str x)],m⟩) _=_;rw[e];show Res.bind (aN _ _ _ _ (cZ (((i:Nat):Int)+1+1) (l.map T.str)) _) _=_;rw[show((i:Nat):Int)+1+1=((i+1:Nat):Int)+1 by omega,ih]
  show Res.ok (T.own m.length::_,_)=_;rw[bz,s_,cU,hm,c6];rfl
theorem IW(hr:rows.length<=1000):cN (n+2) 23 [.lst (rows.map T.str)] []=.ok (.lst (pV rows.length 0),vS 0 rows):=by
 rw[w23];have el:∀(i:Int)(l:FK),(cZ i l).length=l.length:=λi l=>by
  induction l generalizing i with
  |nil=>rfl
  |cons t l ih=>show(cZ (i+1) l).length+1=_;rw[ih];rfl
 have g:=zO n rows 0 [] rfl;refine eK (s':=⟨[sv (.lst (rows.map T.str))],vS 0 rows⟩) rfl (gE (kc ?_)) rfl;have hb:pV rows.length 0=(kr 0 rows.length).map λq=>T.own (2*q):=by
  unfold pV;rw[mH,B4]
 rw[hb];exact lu (ts:=cZ 1 (rows.map T.str)) (s1:=⟨[sv (.lst (rows.map T.str))],[]⟩) rfl (by rw[el,bF];omega) g
theorem E9(hr:∀row∈rows,row.length<=1000){Z:FV}:dU rows 0 (vS 0 rows++Z):=⟨λk row hk=>by
 obtain⟨h1,h2⟩:=E8 rows 0 k row hk;rw[pj]at h1;refine⟨hr row (je hk),?_,[],[],?_,P0.nil,cC _⟩
 ·rw[gp (dc.mp h1).1];exact h1
 ·rw[gp (dc.mp h2).1];exact h2⟩
end
section
variable{m:FV}{l:List (T×Dw)}{ob nK:Ob}{f:Nat}{t:T}{r:Fs}{a:FE}
theorem O3(K9:aB (l.map dI)=true):cN (n+1) 32 [.lst (l.map dI)] m=.ok (.dq [] [],m):=by
 rw[w32];refine W.eq (nX ?_ (kQ rfl (dm (W.of (a:=(Out.nx,(⟨[sv (.lst (l.map dI)),some (.od [] []),none,none],[]⟩:S))) rfl ⟨rfl,?_⟩))))
 ·show(aB (l.map dI)&&true)=true
  rw[K9];rfl
 refine dm (gG (W.of (a:=(cZ 1 (l.map dI),(⟨[sv (.lst (l.map dI)),some (.od [] []),none,none],[]⟩:S))) rfl ?_));refine(Iv (I:=λs=>∃u v,s=⟨[sv (.lst (l.map dI)),some (.od [] []),u,v],[]⟩) (λt ht s hI=>?_) ⟨_,_,rfl⟩).mono λq hq=>⟨hq.1,?_⟩
 ·obtain⟨u,v,rfl⟩:=hI
  obtain⟨j,x,hx,rfl⟩:=om ht;obtain⟨q,_,rfl⟩:=eU.mp hx;refine⟨_,rfl,fJ (s':=⟨[sv (.lst (l.map dI)),some (.od [] []),sv (.int j),sv (dI q)],[]⟩) ?_ ⟨_,rfl,rfl,_,_,rfl⟩⟩;obtain⟨_,dd⟩:=q;cases dd<;>rfl
 ·obtain⟨u,v,e⟩:=hq.2
  rw[e];exact A9 (t:=.dq [] []) (s':=⟨[sv (.lst (l.map dI)),sv (.dq [] []),u,v],[]⟩) rfl ⟨rfl,rfl⟩
theorem vD:∀(l:List (T×Dw))(m:FV),aN (setG 1) cX (aC M.P.tab 1 (vF 1)) [none,none] (l.map dI) m=.ok (l.map (·.1),m)
 |[],_=>rfl
 |q::l,m=>by
  have ih:=vD l m;rw[cU,aN];refine Eq.trans (bj _ _) ?_;show Res.bind (aN (setG 1) cX (aC M.P.tab 1 (vF 1)) [none,none] (l.map dI) m) _=_;rw[ih];rfl
theorem vE(hl:l.length<=1000):cN (n+1) 80 [.own m.length,.lst (l.map dI)] (m++[⟨25,[]⟩])=.ok (.non,m++[⟨25,[.val (.lst (l.map (·.1))),.val (.own (m.length+1))]⟩,cJ]):=by
 rw[w80];obtain⟨oA,hA⟩:∃oA:Ob,oA=⟨25,[.val (.lst (l.map (·.1)))]⟩:=⟨_,rfl⟩
 obtain⟨o0,h0⟩:∃o0:Ob,o0=⟨25,[]⟩:=⟨_,rfl⟩;rw[<- h0];have ec:cY (bB (nz (vF 1)) 2 [] (setG 1) cX (aC M.P.tab 1 (vF 1))) ⟨sv (.own m.length)::[sv (.lst (l.map dI))],m++[o0]⟩=.ok (.lst (l.map (·.1)),⟨sv (.own m.length)::[sv (.lst (l.map dI))],m++[o0]⟩):=kc (lu (ts:=l.map dI) (s1:=⟨sv (.own m.length)::[sv (.lst (l.map dI))],m++[o0]⟩) rfl (by rw[bF];omega) (vD l (m++[o0])))
 refine OC (s':=⟨[sv (.own m.length),sv (.lst (l.map dI))],m++[⟨25,[.val (.lst (l.map (·.1))),.val (.own (m.length+1))]⟩,cJ]⟩) rfl (seq1 (E6 (ob:=o0) (nK:=oA) ec (by rw[hA,h0];rfl)) ?_) rfl
 unfold aM lP;refine Eq.trans (bj _ _) ?_;show Res.bind (aS (((m++[oA]++[cJ])[m.length]?).bind _)) _=_;rw[kh oG];have hp:dM M.P.tab 17 (.val (.own (m++[oA]).length)) oA=some ⟨25,[.val (.lst (l.map (·.1))),.val (.own (m.length+1))]⟩:=by
  rw[hA,cK];rfl
 show Res.bind (aS (dM M.P.tab 17 (.val (.own (m++[oA]).length)) oA)) _=_;rw[hp];have e:(m++[oA]++[cJ]).set m.length ⟨25,[.val (.lst (l.map (·.1))),.val (.own (m.length+1))]⟩=m++[⟨25,[.val (.lst (l.map (·.1))),.val (.own (m.length+1))]⟩,cJ]:=by
  rw[JQ _ _ (by simp),oH,c6];rfl
 exact congrArg (λz=>Res.ok (Out.nx,(⟨[sv (.own m.length),sv (.lst (l.map dI))],z⟩:S))) e
end
section
variable{m Z Z':FV}{l:List (T×Dw)}{ob nK:Ob}{f j:Nat}{t:T}{r:Fs}{a:FE}
theorem sF{α:Type}{m Z:List α}{x:α}:(m++x::Z)[m.length]?=some x:=by
 rw[eS (cC _),i7];rfl
theorem IX{α:Type}{m Z:List α}{x y:α}:(m++x::Z).set m.length y=m++y::Z:=by
 rw[B3 _ _ (cC _),i7];rfl
theorem UL(ha:a ⟨sv (.own m.length)::r,m++ob::Z⟩=.ok (t,⟨sv (.own m.length)::r,m++ob::Z'⟩))(hp:dM M.P.tab f (.val t) ob=some nK):aM M.P.tab f (vF 0) a ⟨sv (.own m.length)::r,m++ob::Z⟩=.ok (.nx,⟨sv (.own m.length)::r,m++nK::Z'⟩):=by
 unfold aM;rw[ha];refine Eq.trans (bj _ _) ?_;show Res.bind (aS (((m++ob::Z')[m.length]?).bind _)) _=_;rw[sF];show Res.bind (aS (dM M.P.tab f (.val t) ob)) _=_;rw[hp];exact congrArg (λz=>Res.ok (Out.nx,(⟨sv (.own m.length)::r,z⟩:S))) IX
theorem Ln(hj:gP M.P.tab ob.c f=some j)(hf:ob.fs[j]?=sv t):aC M.P.tab f (vF 0) ⟨sv (.own m.length)::r,m++ob::Z⟩=.ok (t,⟨sv (.own m.length)::r,m++ob::Z⟩):=ja (k:=m.length) rfl sF hj hf
theorem Lo{c:C}:(Res.ok (T.own (m++ob::Z).length,(⟨sv (.own m.length)::r,m++ob::Z++[⟨M.bc,[c]⟩]⟩:S)):Res (T×S))=.ok (.own (m.length+1+Z.length),⟨sv (.own m.length)::r,m++ob::(Z++[⟨M.bc,[c]⟩])⟩):=by
 rw[c6,cK,bz,show m.length+(Z.length+1)=m.length+1+Z.length by omega];rfl
theorem E_:lP M.bc ⟨sv (.own m.length)::r,m++ob::Z⟩=.ok (.own (m.length+1+Z.length),⟨sv (.own m.length)::r,m++ob::(Z++[cJ])⟩):=Lo
theorem Lp:uq M.bc (lM bq) ⟨sv (.own m.length)::r,m++ob::Z⟩=.ok (.own (m.length+1+Z.length),⟨sv (.own m.length)::r,m++ob::(Z++[⟨M.bc,[.ol []]⟩])⟩):=Lo
def O4(l:List (T×Dw))(w:Nat):WV:=⟨l.map dI,.dq [] [],w+1,.lst [],0,w+3,0,.non,0,w+4,w+5,w+6,w+7,false⟩
abbrev wO(l:List (T×Dw))(w k:Nat):Ob:=⟨26,(O4 l w).ob.fs.take k⟩
theorem gh{k:Nat}{B:FS}{Q:Out×S->Prop}(ha:a ⟨sv (.own m.length)::r,m++wO l m.length k::Z⟩=.ok (t,⟨sv (.own m.length)::r,m++wO l m.length k::Z'⟩))(hp:dM M.P.tab f (.val t) (wO l m.length k)=some (wO l m.length (k+1)))(h:W (B ⟨sv (.own m.length)::r,m++wO l m.length (k+1)::Z'⟩) Q):W (af (aM M.P.tab f (vF 0) a) B ⟨sv (.own m.length)::r,m++wO l m.length k::Z⟩) Q:=fU (W.of (UL ha hp) ⟨rfl,h⟩)
theorem vG(hl:l.length<=1000)(K9:aB (l.map dI)=true):W (cN (n+2) 84 [.own m.length,.obj 0 [.lst (l.map dI)]] (m++[⟨26,[]⟩])) λp=>p.1=.non/\WS p.2 m.length {O4 l m.length with wt:=true} [fL 0]/\p.2[m.length+1]?=some ⟨25,[.val (.lst (l.map (·.1))),.val (.own (m.length+2))]⟩/\p.2[m.length+2]?=some cJ/\p.2[m.length+5]?=some cJ/\p.2[m.length+6]?=some ⟨M.bc,[.ol []]⟩/\Fr (λk=>m.length<=k) m p.2:=by
 rw[w84];obtain⟨pg,hpg⟩:∃pg:T,pg=.obj 0 [.lst (l.map dI)]:=⟨_,rfl⟩;rw[<- hpg];obtain⟨tT,htT⟩:∃tT:Ob,tT=⟨25,[.val (.lst (l.map (·.1))),.val (.own (m.length+2))]⟩:=⟨_,rfl⟩
 obtain⟨nL,VM⟩:∃nL:Ob,nL=⟨M.bc,[.ol []]⟩:=⟨_,rfl⟩;refine e8 rfl ?_;show W (af _ _ ⟨sv (.own m.length)::[sv pg],m++wO l m.length 0::[]⟩) _;refine gh (t:=.lst (l.map dI)) (by rw[hpg];rfl) rfl ?_
 refine gh (t:=.dq [] []) (eL (ts:=[.lst (l.map dI)]) (s':=⟨sv (.own m.length)::[sv pg],m++wO l m.length 1::[]⟩) (aw (Ln (j:=0) rfl rfl) rfl) (O3 n K9)) rfl ?_;refine gh (t:=.own (m.length+1)) (Z':=[tT,cJ]) ?_ rfl ?_
 ·obtain⟨oB,hB⟩:∃oB:Ob,oB=wO l m.length 2:=⟨_,rfl⟩
  have ea:k1 (aC M.P.tab 0 (vF 0)) ⟨sv (.own m.length)::[sv pg],m++oB::[]⟩=.ok ([.lst (l.map dI)],⟨sv (.own m.length)::[sv pg],m++oB::[]⟩):=by rw[hB];exact aw (Ln (j:=0) rfl rfl) rfl
  rw[<- hB];unfold jR;refine Eq.trans (congrArg (λx=>Res.bind x _) ea) ?_;refine Eq.trans (bj _ _) ?_;have q:=vE n (l:=l) (m:=m++[oB]) hl;dsimp only;rw[q];show Res.ok (T.own (m++[oB]).length,(⟨sv (.own m.length)::[sv pg],m++[oB]++[⟨25,[.val (.lst (l.map (·.1))),.val (.own ((m++[oB]).length+1))]⟩,cJ]⟩:S))=_
  rw[cK,c6,htT];rfl
 refine gh rfl rfl (gh rfl rfl (gh E_ rfl (gh rfl rfl (gh rfl rfl (gh rfl rfl (gh E_ rfl (gh E_ rfl ?_)))))));refine gh (Z':=[tT,cJ,cJ,cJ,cJ,nL]) (by rw[VM];exact Lp) rfl (gh (Z':=[tT,cJ,cJ,cJ,cJ,nL,nL]) (by rw[VM];exact Lp) rfl (gh rfl rfl ?_))
 have gk:∀(x:Ob)(Z:FV)(k:Nat),(m++x::Z)[m.length+k]?=(x::Z)[k]?:=λx Z k=>by
  rw[eS (by omega),show m.length+k-m.length=k by omega]
 obtain⟨mF,hF⟩:∃mF:FV,mF=m++(O4 l m.length).ob::[tT,cJ,cJ,cJ,cJ,nL,nL]:=⟨_,rfl⟩;have S0:WS mF m.length (O4 l m.length) []:=⟨by rw[hF];exact sF,by rw[hF];show(m++_::_)[m.length+7]?=_;rw[gk,<- VM];rfl,by show m.length+7≠m.length;omega,by show 0<_;omega⟩
 show W (aL _ ⟨sv (.own m.length)::[sv pg],m++(O4 l m.length).ob::[tT,cJ,cJ,cJ,cJ,nL,nL]⟩) _;rw[<- hF];refine(xD (r:=[sv pg]) S0 rfl (zI n S0 (by show 0+1<_;omega))).mono λp hp=>?_
 obtain⟨h1,h2,u,h3,h4,h5⟩:=hp;have aah:mF.length=m.length+8:=by rw[hF];simp
 have nx:∀k,k≠0->k≠7->¬ WX m.length (O4 l m.length) (m.length+k):=λk a b z=>by
  rcases z with z|z
  ·omega
  ·have z:m.length+k=m.length+7:=z
   omega
 refine⟨h1,rfl,h4,?_,?_,?_,?_,?_,λk hk x=>?_⟩
 ·rw[h5.at_ _ (by omega) (nx 1 (by omega) (by omega)),hF,gk,<- htT];rfl
 ·rw[h5.at_ _ (by omega) (nx 2 (by omega) (by omega)),hF,gk];rfl
 ·rw[h5.at_ _ (by omega) (nx 5 (by omega) (by omega)),hF,gk];rfl
 ·rw[h5.at_ _ (by omega) (nx 6 (by omega) (by omega)),hF,gk,<- VM];rfl
 ·exact gA (by omega) h5.le
 ·rw[h5.at_ k (by omega) λz=>?_,hF,gp hk]
  rcases z with z|z
  ·omega
  ·have z:k=m.length+7:=z
   omega
end
section
variable{m:FV}{w tk ub c:Nat}{v:WV}{log:FK}{l:List (T×Dw)}{rows:Ap}{cvs:List CV}
abbrev lC(i:Int):T:=.tup [.str [110,111,110,101],.int (i+1)]
abbrev pW:T:=.tup [.str [101,110,100]]
theorem Bg(S':WS m w v log)(L:Lj l)(hv:v.lines=l.map dI)(hh:v.hand=.non)(hl:log.length+2<900000):W (cN (n+2) 91 [.own w] m) (WR w v v (log++[lC v.tk]++[pW]) m):=by
 rw[w91];refine e8 rfl (fU ((xD (r:=[none]) S' rfl (IQ n S' (by omega))).mono λp hp=>?_))
 obtain⟨h1,h2,u,h3,h4,h5⟩:=hp;refine⟨h1,?_⟩;obtain⟨o,pr,pm⟩:=p;cases h2;have c1:bP (bo (aI .IsNot) (aC M.P.tab 24 (vF 0)) (cF .non)) ⟨sv (.own w)::[none],pm⟩=.ok (false,⟨sv (.own w)::[none],pm⟩):=by
  have e:bo (aI .IsNot) (aC M.P.tab 24 (vF 0)) (cF .non) ⟨sv (.own w)::[none],pm⟩=.ok (.bl false,⟨sv (.own w)::[none],pm⟩):=aR (t:=.non) (u:=.non) (by rw[<- hh];exact w_fld h4 (j:=7) rfl rfl) rfl rfl
  unfold bP;rw[e];rfl
 have S1:=h4.app (t:=pW) (by simp;omega)
 refine fU (fJ c1 ⟨_,rfl,rfl,fU (W.of (vp (r:=[none]) h4 (t:=pW) (dY (aw (t:=.str [101,110,100]) rfl rfl) rfl)) ⟨rfl,?_⟩)⟩);refine gG (W.of (a:=(l.map dI,(⟨sv (.own w)::[none],pm.set v.lg ⟨M.bc,[.ol (log++[lC v.tk]++[pW])]⟩⟩:S))) ?_ ?_)
 ·unfold nz
  rw[w_fld S1 (j:=0) (t:=.lst (l.map dI)) rfl (by rw[<- hv];rfl)]
  rfl
 refine(Iv (I:=λs=>∃u,s=⟨[sv (.own w),u],pm.set v.lg ⟨M.bc,[.ol (log++[lC v.tk]++[pW])]⟩⟩) (λt ht s hI=>?_) ⟨none,rfl⟩).mono λq hq=>?_
 ·obtain⟨u,rfl⟩:=hI
  obtain⟨q,hq,rfl⟩:=eU.mp ht;have c2:D.tB (du (fZ M.P.sub [10]) (aC M.P.tab 1 (vF 1))) ⟨[sv (.own w),sv (dI q)],pm.set v.lg ⟨M.bc,[.ol (log++[lC v.tk]++[pW])]⟩⟩=.ok (false,⟨[sv (.own w),sv (dI q)],pm.set v.lg ⟨M.bc,[.ol (log++[lC v.tk]++[pW])]⟩⟩):=by
   unfold D.tB du;show Res.bind (Res.bind (aS (fZ M.P.sub [10] q.1)) _) _=_;rw[L.no q hq];rfl
  exact⟨_,rfl,fJ c2 ⟨_,rfl,rfl,_,rfl⟩⟩
 ·obtain⟨u,e⟩:=hq.2
  rw[e];exact⟨hq.1,rfl,S1,h5.trans (Fr.set (.inr rfl))⟩
end
def km:T->FK
 |.tup (.str nm::ys)=>if nm=[103,105,118,101]then ys.take 1 else[]
 |_=>[]
def Ga(e:T):Prop:=∃nm ys,e=.tup (.str nm::ys)/\(nm=[103,105,118,101]->∃x,ys=[x])/\aB ys=true
section
variable{m:FV}
theorem eqS(a b:B1):aI .Eq (.str a) (.str b)=some (.bl (decide (a=b))):=rfl
theorem vH:∀(log:FK)(m:FV),(∀e∈log,Ga e)->aN (setG 1) (bP (oE (oI (vF 1) (cI 0)) (cS [103,105,118,101]))) (oI (vF 1) (cI 1)) [none,none] log m=.ok (log.flatMap km,m)
 |[],_,_=>rfl
 |e::log,m,h=>by
  obtain⟨nm,ys,rfl,hg,_⟩:=h e (eg ..);have ih:=vH log m λe he=>h e (ez _ he);have c:bP (oE (oI (vF 1) (cI 0)) (cS [103,105,118,101])) ⟨[none,sv (.tup (.str nm::ys))],m⟩=.ok (decide (nm=[103,105,118,101]),⟨[none,sv (.tup (.str nm::ys))],m⟩):=by
   have e0:gS (.tup (.str nm::ys)) (.int 0)=some (.str nm):=by
    show atT (T.str nm::ys) (((0:Nat)):Int)=_;rw[eX (by simp)];rfl
   have e2:oE (oI (vF 1) (cI 0)) (cS [103,105,118,101]) ⟨[none,sv (.tup (.str nm::ys))],m⟩=.ok (.bl (decide (nm=[103,105,118,101])),⟨[none,sv (.tup (.str nm::ys))],m⟩):=aR (aR (t:=.tup (.str nm::ys)) (u:=.int 0) rfl rfl e0) rfl (eqS _ _);unfold bP;rw[e2];rfl
  rw[aN];refine Eq.trans (bj _ _) ?_;show Res.bind (bP _ ⟨[none,sv (.tup (.str nm::ys))],m⟩) _=_;rw[c];refine Eq.trans (bj _ _) ?_;rw[mJ];by_cases hn:nm=[103,105,118,101]
  ·obtain⟨x,rfl⟩:=hg hn
   have e1:oI (vF 1) (cI 1) ⟨[none,sv (.tup [.str nm,x])],m⟩=.ok (x,⟨[none,sv (.tup [.str nm,x])],m⟩):=by
    refine aR (t:=.tup [.str nm,x]) (u:=.int 1) rfl rfl ?_;show atT [T.str nm,x] (((1:Nat)):Int)=_;rw[eX (by simp)];rfl
   dsimp only;rw[decide_eq_true hn,if_pos rfl,e1];refine Eq.trans (bj _ _) ?_;dsimp only;rw[ih];show Res.ok (x::log.flatMap km,m)=Res.ok ((if nm=[103,105,118,101]then[x].take 1 else[])++log.flatMap km,m)
   rw[if_pos hn];rfl
  ·dsimp only
   rw[decide_eq_false hn,if_neg bZ,ih];show _=Res.ok ((if nm=[103,105,118,101]then ys.take 1 else[])++log.flatMap km,m)
   rw[if_neg hn];rfl
end
section
variable{a:FE}{s:S}{w kb f j:Nat}{ob:Ob}{c:C}{u:T}
theorem Lq(hm:s.m[w]?=some ob)(hj:gP M.P.tab ob.c f=some j)(hf:ob.fs[j]?=some c):ir M.P.tab f s.m (.own w)=some (w,ob,j,c):=by
 show(s.m[w]?).bind _=_;rw[hm];show(gP M.P.tab ob.c f).bind _=_;rw[hj];show(ob.fs[j]?).map _=_;rw[hf];rfl
theorem YM(h:a s=.ok (.own w,s))(hm:s.m[w]?=some ob)(hj:gP M.P.tab ob.c f=some j)(hf:ob.fs[j]?=sv (.own kb))(hb:s.m[kb]?=some ⟨M.bc,[c]⟩)(hz:NV c=some u):gX M.bc M.P.tab f a s=.ok (u,⟨s.r,(s.m.set kb ⟨M.bc,[]⟩).set w ⟨ob.c,ob.fs.set j (.val u)⟩⟩):=by
 have e:rW M.bc s.m (.own kb)=some (kb,c):=by
  show(s.m[kb]?).bind _=_;rw[hb];show(if M.bc=M.bc then some (kb,c)else none)=_
  rw[if_pos rfl]
 unfold gX;rw[h];refine Eq.trans (bj _ _) ?_;show Res.bind (aS (ir M.P.tab f s.m (.own w))) _=_;rw[Lq hm hj hf];refine Eq.trans (bj _ _) ?_;dsimp only;rw[e];dsimp only;rw[hz];rfl
theorem fx2(h:a s=.ok (.own w,s))(hm:s.m[w]?=some ob)(hj:gP M.P.tab ob.c f=some j)(hf:ob.fs[j]?=sv u)(hn:rW M.bc s.m u=none):gX M.bc M.P.tab f a s=.ok (u,s):=by
 unfold gX;rw[h];refine Eq.trans (bj _ _) ?_;show Res.bind (aS (ir M.P.tab f s.m (.own w))) _=_;rw[Lq hm hj hf];refine Eq.trans (bj _ _) ?_;dsimp only;rw[hn]
end
theorem fM:∀{ts:FK},(∀t∈ts,noOwn t=true)->aB ts=true
 |[],_=>rfl
 |t::ts,h=>by
  show(noOwn t&&aB ts)=true;rw[h t (eg ..),fM λu hu=>h u (ez _ hu)];rfl
theorem oJ:∀{ts:FK},aB ts=true->∀t∈ts,noOwn t=true
 |[],_,_,h=>by cases h
 |u::ts,h,t,ht=>by
  have h:(noOwn u&&aB ts)=true:=h;rw[cO]at h;rcases cu.mp ht with z|z
  ·rw[z];exact h.1
  ·exact oJ h.2 t z
theorem Ga.no{e:T}(h:Ga e):noOwn e=true:=by
 obtain⟨nm,ys,rfl,_,h⟩:=h;show(true&&aB ys)=true;rw[h];rfl
theorem Lr{log:FK}(h:∀e∈log,Ga e):aB (log.flatMap km)=true:=fM λt ht=>by
 obtain⟨e,he,ht⟩:=JR.mp ht;obtain⟨nm,ys,rfl,_,h2⟩:=h e he;have ht:t∈(if nm=[103,105,118,101]then ys.take 1 else[]):=ht
 split at ht
 ·exact oJ h2 t (JS ht)
 ·cases ht
theorem P1{nm:B1}{ys:FK}(h:nm≠[103,105,118,101])(h2:aB ys=true):Ga (.tup (.str nm::ys)):=⟨nm,ys,rfl,λz=>absurd z h,h2⟩
theorem lgG{t:T}(h:noOwn t=true):Ga (iu t):=⟨_,[t],rfl,λ_=>⟨t,rfl⟩,by show(noOwn t&&true)=true;rw[h];rfl⟩
section
variable{rows:Ap}{l:List (T×Dw)}{ys:List LC}{m:FV}{text:B1}{b:Bool}{g:Int->Bool}
structure YN(l:List (T×Dw))(P:T->Prop):Prop where
 want:∀i,P (fL i)
 take:∀i,P (ki i)
 meet:∀i b,P (qH i b)
 say:∀q∈l,∀x,q.2=.say x->P (iu x)
 row:∀x:B1,P (iu (.str x))
 over:P kg
 none:∀i,P (lC i)
 fin:P pW
theorem vI{P:T->Prop}(h:YN l P){x:B1}{tk:Int}:∀(k:Nat)(z:List ((T×Dw)×Bool)),(∀q∈z,q.1∈l)->∀e∈h_ (.str x) tk k z,P e
 |_,[],_,e,he=>by
  unfold h_ at he;rcases gn.mp he with he|he
  ·rcases gn.mp he with he|he
   ·rw[dG.mp he];exact h.row _
   ·rw[dG.mp he];exact h.over
  ·rw[dG.mp he];exact h.want _
 |k,(q,b)::r,hz,e,he=>by
  unfold h_ at he;rcases gn.mp he with he|he
  ·rcases gn.mp he with he|he
   ·rw[dG.mp he];exact h.meet _ _
   ·cases b with
    |false=>cases he
    |true=>
     have he:e∈q.2.says tk:=he;cases hq:q.2 with
     |drop=>
      rw[hq]at he;rcases gn.mp he with he|he
      ·rw[dG.mp he];exact h.over
      ·rw[dG.mp he];exact h.want _
     |say y=>
      rw[hq]at he;rw[dG.mp he];exact h.say q (hz _ (eg ..)) y hq
  ·by_cases st:(b&&q.2.vA)=true
   ·rw[if_pos st]at he;cases he
   ·rw[if_neg st]at he
    exact vI h (k+1) r (λq hq=>hz q (ez _ hq)) e he
theorem vJ{P:T->Prop}(h:YN l P):∀(r:Ap)(g:Int->Bool)(k:Nat),∀e∈kW rows l ys g k r,P e
 |[],_,_,e,he=>by cases he
 |x::r,g,k,e,he=>by
  rcases gn.mp he with he|he
  ·unfold kU at he
   rcases gn.mp he with he|he
   ·rw[dG.mp he];exact h.take _
   ·exact vI h 0 _ (λq hq=>(xX hq).1) e he
  ·exact vJ h r _ (k+1) e he
theorem oK:∀(r:Ap)(g:Int->Bool)(k:Nat),(kW rows l ys g k r).length<=(3*l.length+4)*r.length
 |[],_,_=>i6 _
 |x::r,g,k=>by
  have h1:=oK r (gf rows k ys 0 g) (k+1);have h2:(kU rows l ys g k ((k:Nat):Int) x).length<=3*l.length+4:=by
   unfold kU
   have:=oF (.str x) (((k:Nat):Int)+1) 0 (l.zip (cH rows k ys 0 g))
   rw[qP]at this;rw[cK];show 1+_<=_;omega
  show(kU rows l ys g k ((k:Nat):Int) x++kW rows l ys (gf rows k ys 0 g) (k+1) r).length<=_;rw[cK,bz,Nat.mul_succ];omega
def kX(rows:Ap)(l:List (T×Dw))(ys:List LC):FK:=[fL 0]++kW rows l ys (λ_=>false) 0 rows++[lC (rows.length:Nat)]++[pW]
theorem zP{P:T->Prop}(h:YN l P):∀e∈kX rows l ys,P e:=λe he=>by
 rcases gn.mp he with he|he
 ·rcases gn.mp he with he|he
  ·rcases gn.mp he with he|he
   ·rw[dG.mp he];exact h.want _
   ·exact vJ h _ _ _ e he
  ·rw[dG.mp he];exact h.none _
 ·rw[dG.mp he];exact h.fin
theorem zQ(hw:∀q∈l,∀x,q.2=.say x->noOwn x=true):∀e∈kX rows l ys,Ga e:=zP ⟨λ_=>P1 (by decide) rfl,λ_=>P1 (by decide) rfl,λ_ _=>P1 (by decide) rfl,λq hq x h=>lgG (hw q hq x h),λ_=>lgG rfl,P1 (by decide) rfl,λ_=>P1 (by decide) rfl,P1 (by decide) rfl⟩
theorem Fb{log:FK}(h:∀e∈log,Ga e)(hl:log.length<=1000000):cN (n+1) 31 [.lst log] m=.ok (.lst (log.flatMap km),m):=by
 rw[w31];refine nV (m':=[]) ?_ (eK (s':=⟨[sv (.lst log)],[]⟩) rfl (gE (kc (lu (ts:=log) (s1:=⟨[sv (.lst log)],[]⟩) rfl hl (vH log [] h)))) rfl) (Lr h);show(aB log&&true)=true;rw[fM λt ht=>(h t ht).no];rfl
end
section
variable{rows:Ap}{l:List (T×Dw)}{ys:List LC}{m:FV}{text:B1}{b:Bool}{w:Nat}{v:WV}{log:FK}{x0 x1 x2 x4 x5:Option C}
theorem UM(S':WS m w v log)(hs:m[v.su]?=some cJ)(hn:m[v.no]?=some ⟨M.bc,[.ol []]⟩)(h1:v.su≠w)(h2:v.su≠v.lg)(h3:v.no≠w)(h4:v.no≠v.lg)(h5:v.no≠v.su)(h:∀e∈log,Ga e):∃m',bg eV (cA (ao (cN (n+1) 31) [] (k1 (gX M.bc M.P.tab 29 (vF 3)))) (k3 (gX M.bc M.P.tab 27 (vF 3)) (gX M.bc M.P.tab 28 (vF 3)) (gX M.bc M.P.tab 29 (vF 3)))) ⟨[x0,x1,x2,sv (.own w),x4,x5],m⟩=.ok (.tup [.lst (log.flatMap km),.dq [] [],.lst [],.lst log],⟨[x0,x1,x2,sv (.own w),x4,x5],m'⟩):=by
 obtain⟨r,hr⟩:∃r:Fs,r=[x0,x1,x2,sv (.own w),x4,x5]:=⟨_,rfl⟩;have hv:∀m:FV,vF 3 ⟨r,m⟩=.ok (.own w,⟨r,m⟩):=λm=>by rw[hr];rfl
 rw[<- hr];have hw:w<m.length:=(dc.mp S'.o).1;obtain⟨o1,e1⟩:∃o1:Ob,o1=⟨v.ob.c,v.ob.fs.set 12 (.val (.lst log))⟩:=⟨_,rfl⟩;obtain⟨m1,f1⟩:∃m1:FV,m1=(m.set v.lg ⟨M.bc,[]⟩).set w o1:=⟨_,rfl⟩;have a1:gX M.bc M.P.tab 29 (vF 3) ⟨r,m⟩=.ok (.lst log,⟨r,m1⟩):=by rw[f1,e1];exact YM (j:=12) (hv m) S'.o rfl rfl S'.l rfl
 have g1:m1[w]?=some o1:=by rw[f1];exact dW (by rw[eA];exact hw)
 have s1:m1[v.su]?=some cJ:=by rw[f1,cy (Ne.symm h1),cy (Ne.symm h2)];exact hs
 have n1:m1[v.no]?=some ⟨M.bc,[.ol []]⟩:=by rw[f1,cy (Ne.symm h3),cy (Ne.symm h4)];exact hn
 have l1:m1.length=m.length:=by rw[f1,eA,eA]
 obtain⟨o2,e2⟩:∃o2:Ob,o2=⟨o1.c,o1.fs.set 10 (.val (.dq [] []))⟩:=⟨_,rfl⟩;obtain⟨m2,f2⟩:∃m2:FV,m2=(m1.set v.su ⟨M.bc,[]⟩).set w o2:=⟨_,rfl⟩;have a2:gX M.bc M.P.tab 27 (vF 3) ⟨r,m1⟩=.ok (.dq [] [],⟨r,m2⟩):=by rw[f2,e2];exact YM (j:=10) (kb:=v.su) (hv m1) g1 (by rw[e1];rfl) (by rw[e1];rfl) s1 rfl
 have g2:m2[w]?=some o2:=by rw[f2];exact dW (by rw[eA,l1];exact hw)
 have n2:m2[v.no]?=some ⟨M.bc,[.ol []]⟩:=by rw[f2,cy (Ne.symm h3),cy (Ne.symm h5)];exact n1
 have l2:m2.length=m.length:=by rw[f2,eA,eA,l1]
 obtain⟨o3,e3⟩:∃o3:Ob,o3=⟨o2.c,o2.fs.set 11 (.val (.lst []))⟩:=⟨_,rfl⟩;obtain⟨m3,f3⟩:∃m3:FV,m3=(m2.set v.no ⟨M.bc,[]⟩).set w o3:=⟨_,rfl⟩;have a3:gX M.bc M.P.tab 28 (vF 3) ⟨r,m2⟩=.ok (.lst [],⟨r,m3⟩):=by rw[f3,e3];exact YM (j:=11) (kb:=v.no) (hv m2) g2 (by rw[e2,e1];rfl) (by rw[e2,e1];rfl) n2 rfl
 have g3:m3[w]?=some o3:=by rw[f3];exact dW (by rw[eA,l2];exact hw)
 have a4:gX M.bc M.P.tab 29 (vF 3) ⟨r,m3⟩=.ok (.lst log,⟨r,m3⟩):=fx2 (j:=12) (hv m3) g3 (by rw[e3,e2,e1];rfl) (by rw[e3,e2,e1];rfl) rfl
 have a0:ao (cN (n+1) 31) [] (k1 (gX M.bc M.P.tab 29 (vF 3))) ⟨r,m⟩=.ok (.lst (log.flatMap km),⟨r,m1⟩):=eL (ts:=[.lst log]) (s':=⟨r,m1⟩) (aw a1 rfl) (Fb n h (by have:=S'.nq;omega))
 exact⟨m3,dY (ts:=[.lst (log.flatMap km),.dq [] [],.lst [],.lst log]) (aw a0 (aw a2 (aw a3 (aw a4 rfl)))) rfl⟩
theorem Fc(L:Lj l)(hq:∀q∈l,noOwn q.1=true/\noOwn q.2.val=true)(hcv:l.map (·.1)=ys.map LC.val)(ho:∀y∈ys,LC.ok y)(hl:l.length<=100)(hr:rows.length<=100)(xF:∀row∈rows,row.length<=1000)(hc:∀m,cN (n+12) 1 [.str text] m=.ok (.tup [.lst (rows.map T.str),.bl b],m)):cN (n+13) 33 [.obj 0 [.lst (l.map dI)],.str text] m=.ok (.tup [.lst ((kX rows l ys).flatMap km),.dq [] [],.lst [],.lst (kX rows l ys)],m):=by
 have K9:aB (l.map dI)=true:=fM λt ht=>by
  obtain⟨q,hm,rfl⟩:=eU.mp ht;show(noOwn q.1&&(noOwn q.2.val&&true))=true;rw[(hq q hm).1,(hq q hm).2];rfl
 have hb:ys.length=l.length:=by have:=congrArg z8 hcv;simpa using this.symm
 have bx:=zQ (rows:=rows) (ys:=ys) (l:=l) λq hm x hx=>by
  have:=(hq q hm).2
  rw[hx]at this;have this:(noOwn x&&true)=true:=this;rw[tG]at this;exact this
 obtain⟨w,ew⟩:∃w,w=(vS 0 rows).length:=⟨_,rfl⟩;have hw:w=2*rows.length:=by rw[ew];exact zN 0 rows
 obtain⟨⟨u0,m0⟩,e0,Dk,S0,ht0,hp0,hs0,hn0,F0⟩:=vG (n+10) (m:=vS 0 rows) (l:=l) (by omega) K9
 have Dk:u0=.non:=Dk;subst Dk;rw[<- ew]at e0 S0 ht0 hp0 hs0 hn0 F0;obtain⟨v,hv⟩:∃v:WV,v={O4 l w with wt:=true}:=⟨_,rfl⟩
 rw[<- hv]at S0;have vlg:v.lg=w+7:=by rw[hv];rfl
 have vsu:v.su=w+5:=by rw[hv];rfl
 have vno:v.no=w+6:=by rw[hv];rfl
 have I0:WG rows l ys w (w+1) (w+2) (λ_=>false) 0 v [fL 0] m0:=by
  refine⟨S0,⟨?_,by rw[<- hcv];exact ht0,[],[],hp0,⟨rfl,λ_=>rfl⟩,cC _⟩,by omega,by omega,by omega,by omega,by rw[hv];rfl,by omega,by omega,by omega,by omega,by omega,by rw[hv];rfl,by rw[hv];rfl,by rw[hv];rfl⟩
  have R:=E9 xF (Z:=[]);rw[dz]at R;exact R.fr F0 λq hq z=>by omega
 have aai:=oK (rows:=rows) (l:=l) (ys:=ys) rows (λ_=>false) 0;have hm:(3*l.length+4)*rows.length<=304*100:=yf (by omega) hr
 have UN:(3*l.length+10)*rows.length<=310*100:=yf (by omega) hr
 have hm3:ys.length*rows.length<=100*100:=yf (by omega) hr
 obtain⟨P,hP⟩:∃P:T,P=.obj 0 [.lst (l.map dI)]:=⟨_,rfl⟩;have g:=vC n L hb ho (by omega) (w:=w) (tk:=w+1) (ub:=w+2) (pg:=P) (tx:=.str text) rows.length 0 0 (λ_=>false) v [fL 0] m0 none none (by omega) I0 (by rw[hv];rfl) (by omega) (by show 1+_+20<_;omega)
 obtain⟨p,e3,q1,u,u',m',c',g',v',q2,I,q3,q4,q5,q6,F1⟩:=g;rw[mH]at I;obtain⟨⟨t4,m4⟩,e4,YO,S4,F4⟩:=Bg (n+10) I.S L I.ln I.hd (by rw[cK];show 1+_+2<_;omega)
 have YO:t4=.non:=YO;subst YO;rw[q3]at S4;have keep:∀k ob,w+4<k->k<w+7->m0[k]?=some ob->m4[k]?=some ob:=λk ob k1 k2 hk=>by
  have a:m'[k]?=some ob:=by
   rw[F1.at_ k (dc.mp hk).1 λz=>by rcases z with z|z|z|z<;>omega];exact hk
  have F4:Fr (WX w v') m' m4:=F4;rw[F4.at_ k (dc.mp a).1 λz=>by rcases z with z|z<;>omega];exact a
 obtain⟨m5,e5⟩:=UM (n+11) (x0:=sv P) (x1:=sv (.str text)) (x2:=sv (.lst (pV rows.length 0))) (x4:=u) (x5:=u') S4 (keep _ _ (by omega) (by omega) (by rw[q5,vsu];exact hs0)) (keep _ _ (by omega) (by omega) (by rw[q6,vno];exact hn0)) (by omega) (by omega) (by omega) (by omega) (by omega) bx
 rw[w33];refine sEq ?_ rfl ?_ ?_
 ·show((aB (l.map dI)&&true)&&(true&&true))=true
  rw[K9];rfl
 ·show(aB ((kX rows l ys).flatMap km)&&(true&&(true&&(aB (kX rows l ys)&&true))))=true
  rw[Lr bx,fM λt ht=>(bx t ht).no];rfl
 rw[<- hP];refine X_ (eL (ts:=[.lst (rows.map T.str)]) (s':=⟨[sv P,sv (.str text),none,none,none,none],[]⟩) (aw (pE (cE (ts:=[.str text]) rfl (hc [])) rfl rfl) rfl) (IW (n+10) (by omega))) (X_ (t:=.own w) (s':=⟨[sv P,sv (.str text),sv (.lst (pV rows.length 0)),none,none,none],m0⟩) ?_ (dm (gG (W.of rfl (W.of e3 ⟨q1,?_⟩)))))
 ·have:=Up (c:=26) (g:=cN (n+12) 84) (fl:=k1 (vF 0)) (ts:=[P]) (s:=⟨[sv P,sv (.str text),sv (.lst (pV rows.length 0)),none,none,none],vS 0 rows⟩) (s':=⟨[sv P,sv (.str text),sv (.lst (pV rows.length 0)),none,none,none],vS 0 rows⟩) (m':=m0) rfl (by rw[hP];show cN (n+12) _ [.own (vS 0 rows).length,_] (vS 0 rows++_)=_;rw[<- ew];exact e0)
  rw[ew];exact this
 rw[q2];exact dm (dE (mE rfl I.S.o rfl rfl e4) ⟨rfl,A9 e5 rfl⟩)
end
def Fd(f b:Bool)(ws row:B1):Bool:=if f then(if b then decide (row=ws)else pre ws row)else if b then Hb ws row else RC ws row
section
variable{rows:Ap}{k:Nat}{row ws:B1}{m:FV}{i:Int}{f b:Bool}
theorem ia:∀rows:Ap,aB (rows.map T.str)=true
 |[]=>rfl
 |_::rows=>by show(true&&aB (rows.map T.str))=true;rw[ia rows];rfl
theorem O5:cN (n+1) 60 [.tup [.str [114,111,119],.int i],.lst (rows.map T.str),.int (k:Nat)] m=.ok (.bl (decide (((k:Nat):Int)+1=i)),m):=by
 rw[w60];refine sEq ?_ rfl rfl (bY rfl (bR rfl rfl));show(true&&(aB (rows.map T.str)&&true))=true;rw[ia];rfl
theorem IY(hk:rows[k]?=some row):cN (n+1) 60 [.tup [.str [108,105,107,101],.bl f,.str ws,.bl b],.lst (rows.map T.str),.int (k:Nat)] m=.ok (.bl (Fd f b ws row),m):=by
 rw[w60];have VJ:k<rows.length:=(dc.mp hk).1;have WC:vQ (.lst (rows.map T.str)) (.int ((k:Nat):Int))=some (.str row):=by
  rw[YB (by rw[bF];exact VJ),JP]
  have:=b8 VJ
  rw[hk]at this;injection this with this
  rw[this]
 refine sEq ?_ rfl rfl (bN rfl (bS (t:=.str row) (pE (t:=.lst (rows.map T.str)) (u:=.int ((k:Nat):Int)) rfl rfl WC) ?_))
 ·show(true&&(aB (rows.map T.str)&&true))=true
  rw[ia];rfl
 cases f with
 |true=>
  cases b with
  |true=>exact bY rfl (bR rfl rfl)
  |false=>exact bN rfl (bY rfl (bR rfl rfl))
 |false=>
  cases b with
  |true=>exact bN rfl (bN rfl (bY rfl (bR rfl rfl)))
  |false=>exact bN rfl (bN rfl (bN rfl (bR rfl rfl)))
end
theorem pu1{i:Nat}{a b:FE}{s:S}{ts:FK}{u:T}{j:Nat}(h:s.r[i]?=some (some (.ol ts)))(ha:a s=.ok (u,s))(hb:b s=.ok (.int (j:Nat),s))(hj:j<ts.length):pS i b a s=.ok (.nx,i_ s i (.ol (ts.set j u))):=by
 unfold pS HH;rw[h];show c8 i b a s=_;unfold c8;rw[ha];show Res.bind (aS (kH s.r[i]?)) _=_;rw[h];show Res.bind (b s) _=_;rw[hb];show Res.bind (aS (kH s.r[i]?)) _=_;rw[h];show Res.bind (aS (gd ((0:Int)<=((j:Nat):Int)/\((j:Nat):Int)<ts.length) (ts.set ((j:Nat):Int).toNat u))) _=_;rw[jd (by omega),qS]
 rfl
theorem pk1{i:Nat}{b:FE}{s:S}{ts:FK}{u:T}{j:Nat}(h:s.r[i]?=some (some (.ol ts)))(hb:b s=.ok (.int (j:Nat),s))(hu:ts[j]?=some u):jm i b s=.ok (u,s):=by
 have hj:=(dc.mp hu).1;unfold jm;rw[h];show Res.bind (b s) _=_;rw[hb];show Res.bind (aS (kH s.r[i]?)) _=_;rw[h];show Res.bind (aS (vQ (.lst ts) (.int ((j:Nat):Int)))) _=_;rw[YB hj,<- (dc.mp hu).2];rfl
theorem UO{c:FT}{s:S}{b:Bool}(h:c s=.ok (b,s)):cW c s=.ok (!b,s):=by unfold cW;rw[h];rfl
theorem UP{c d:FT}{s:S}(h:c s=.ok (false,s)):fD c d s=.ok (false,s):=by unfold fD;rw[h];rfl
section
variable(h1 h2 past:Nat->Bool)
def ib:Bool->Nat->Nat->Fh
 |_,_,0=>[]
 |up,k,d+1=>(up ||h1 k)::ib (if up then !h2 k else h1 k&&!past k) (k+1) d
end
theorem oN{α:Type}(d:List α)(x y:α)(r:List α){k:Nat}(h:d.length=k):(d++x::r).set k y=d++y::r:=by
 subst h;rw[B3 _ _ (cC _),i7];rfl
section
variable{h1 h2 past:Nat->Bool}{x1 x2:T}{rows:Ap}{n:Nat}
abbrev SS(x1 x2:T)(rows:Ap)(l:Fh)(k:Nat):S:=⟨[sv x1,sv x2,sv (.lst (rows.map T.str)),some (.ol (l.map T.bl)),sv (.int (k:Nat))],[]⟩
theorem mw{l:Fh}{k:Nat}:D.bP (bo (aI .Lt) (vF 4) (bg bD (k1 (vF 2)))) (SS x1 x2 rows l k)=.ok (decide (k<rows.length),SS x1 x2 rows l k):=by
 refine mf (aR (t:=.int (k:Nat)) (u:=.int ((rows.map T.str).length:Nat)) rfl rfl ?_);rw[EI,bF];exact congrArg (λz=>some (T.bl z)) (decide_eq_decide.mpr (by omega))
theorem xH{l:Fh}{k:Nat}{a:FE}{u:Bool}(ha:a (SS x1 x2 rows l k)=.ok (.bl u,SS x1 x2 rows l k))(hk:k<l.length):pS 3 (vF 4) a (SS x1 x2 rows l k)=.ok (.nx,SS x1 x2 rows (l.set k u) k):=by
 refine(pu1 (ts:=l.map T.bl) (j:=k) rfl ha rfl (by rw[bF];exact hk)).trans ?_
 rw[<- JM];rfl
theorem VF(H2:∀k,k<rows.length->cN (n+1) 60 [x2,.lst (rows.map T.str),.int (k:Nat)] []=.ok (.bl (h2 k),[])):∀(d k e:Nat)(done:Fh),k+d=rows.length->done.length=k ->
  W (aY (fD (D.bP (bo (aI .Lt) (vF 4) (bg bD (k1 (vF 2))))) (cW (D.tB (ao (cN (n+1) 60) [] (k3 (vF 1) (vF 2) (vF 4)))))) (af (pS 3 (vF 4) (cF (.bl true))) (aH 4 (oA (vF 4) (cI 1)))) (e+d+1) (SS x1 x2 rows (done++ck d false) k)) λq=>q.1=.nx/\∃k' d' fP,q.2=SS x1 x2 rows (fP++ck d' false) k'/\k'+d'=rows.length/\fP.length=k'/\fP++ib h1 h2 past true k' d'=done++ib h1 h2 past true k d/\d'<=d/\(d'≠0->h2 k'=true)
 |0,k,e,done,hd,hl=>EY (UP (by rw[mw,decide_eq_false (by omega)])) ⟨rfl,k,0,done,rfl,hd,hl,rfl,cC _,λz=>absurd rfl z⟩
 |d+1,k,e,done,hd,hl=>by
  have hk:k<rows.length:=by omega
  have hc:=EK (mw (x1:=x1) (x2:=x2) (rows:=rows) (l:=done++ck (d+1) false) (k:=k)) (UO (Bt (cE (fl:=k3 (vF 1) (vF 2) (vF 4)) (ts:=[x2,.lst (rows.map T.str),.int (k:Nat)]) rfl (H2 k hk))));rw[decide_eq_true hk,Ae]at hc;cases hh:h2 k with
  |true=>
   rw[hh]at hc;exact EY hc ⟨rfl,k,d+1,done,rfl,hd,hl,rfl,cC _,λ_=>hh⟩
  |false=>
   rw[hh]at hc;have hs:(done++ck (d+1) false).set k true=(done++[true])++ck d false:=by
    rw[jF,oN _ _ _ _ hl,c6];rfl
   have ih:=VF H2 d (k+1) e (done++[true]) (by omega) (by rw[cK];show done.length+1=_;omega)
   refine sD (k:=e+d+1) hc (fU (W.of (xH rfl (by rw[cK,iC];omega)) ⟨rfl,W.of (gF (t:=.int ((k+1:Nat):Int)) rfl) ⟨rfl,?_⟩⟩))
   rw[hs];refine ih.mono λq hq=>⟨hq.1,?_⟩;obtain⟨_,k',d',fP,a1,a2,a3,a4,a5,a6⟩:=hq;refine⟨k',d',fP,a1,a2,a3,a4.trans ?_,by omega,a6⟩
   rw[ib,if_pos rfl,hh,c6];rfl
end
abbrev YQ(n i:Nat):FE:=ao (cN (n+1) 60) [] (k3 (vF i) (vF 2) (vF 4))
abbrev Ls:FT:=D.bP (bo (aI .Lt) (vF 4) (bg bD (k1 (vF 2))))
abbrev P4:FS:=aH 4 (oA (vF 4) (cI 1))
abbrev Lu:FT:=sP (D.bP (bo (aI .NotEq) (oI (vF 1) (cI 0)) (cS [114,111,119]))) (D.bP (bo (aI .Gt) (oI (vF 1) (cI 1)) (oA (vF 4) (cI 1))))
abbrev O6(n:Nat):FS:=eW many (fD Ls (cW (D.tB (YQ n 1)))) (af (pS 3 (vF 4) (cF (.bl true))) P4)
abbrev O7(n:Nat):FS:=af (pS 3 (vF 4) (YQ n 0)) (af (aU (fD (D.tB (jm 3 (vF 4))) Lu) (af P4 (af (O6 n) (aU Ls (pS 3 (vF 4) (cF (.bl true))) aE))) aE) P4)
section
variable{h1 h2 past:Nat->Bool}{x1 x2:T}{rows:Ap}{n:Nat}
theorem zR{l:Fh}{k:Nat}:P4 (SS x1 x2 rows l k)=.ok (.nx,SS x1 x2 rows l (k+1)):=by
 show aH 4 (oA (vF 4) (cI 1)) (SS x1 x2 rows l k)=_;exact(gF (t:=.int ((k+1:Nat):Int)) (s':=SS x1 x2 rows l k) (show oA (vF 4) (cI 1) (SS x1 x2 rows l k)=_ from rfl)).trans rfl
theorem ltN{l:Fh}{k:Nat}(h:rows.length<=k):Ls (SS x1 x2 rows l k)=.ok (false,SS x1 x2 rows l k):=mw.trans (by rw[decide_eq_false (by omega)])
theorem ltY{l:Fh}{k:Nat}(h:k<rows.length):Ls (SS x1 x2 rows l k)=.ok (true,SS x1 x2 rows l k):=mw.trans (by rw[decide_eq_true h])
theorem IZ(hL:rows.length<=1000)(H1:∀k,k<rows.length->cN (n+1) 60 [x1,.lst (rows.map T.str),.int (k:Nat)] []=.ok (.bl (h1 k),[]))(H2:∀k,k<rows.length->cN (n+1) 60 [x2,.lst (rows.map T.str),.int (k:Nat)] []=.ok (.bl (h2 k),[]))(HP:∀l k,Lu (SS x1 x2 rows l k)=.ok (!past k,SS x1 x2 rows l k)):∀(N d k e:Nat)(done:Fh),d<=N->done.length+d=rows.length->(k=done.length\/(d=0/\rows.length<=k)) ->
  W (aY Ls (O7 n) (e+d+1) (SS x1 x2 rows (done++ck d false) k)) λq=>q.1=.nx/\∃k',q.2=SS x1 x2 rows (done++ib h1 h2 past false done.length d) k'
 |_,0,k,e,done,_,hd,hk=>EY (ltN (by omega)) ⟨rfl,k,rfl⟩
 |0,d+1,_,_,_,h,_,_=>absurd h (by omega)
 |N+1,d+1,k,e,done,hN,hd,hk=>by
  have hk:k=done.length:=by rcases hk with z|z;exact z;exact absurd z.1 (by omega)
  subst hk;have iW:done.length<rows.length:=by omega
  have hs:∀b,(done++ck (d+1) false).set done.length b=(done++[b])++ck d false:=λb=>by
   rw[jF,oN _ _ _ _ rfl,c6];rfl
  have xC:done.length<(done++ck (d+1) false).length:=by rw[cK,iC];omega
  have hp:pS 3 (vF 4) (YQ n 0) (SS x1 x2 rows (done++ck (d+1) false) done.length)=.ok (.nx,SS x1 x2 rows ((done++[h1 done.length])++ck d false) done.length):=by
   rw[<- hs];exact xH (cE (ts:=[x1,.lst (rows.map T.str),.int (done.length:Nat)]) rfl (H1 _ iW)) xC
  have hx:D.tB (jm 3 (vF 4)) (SS x1 x2 rows ((done++[h1 done.length])++ck d false) done.length)=.ok (h1 done.length,SS x1 x2 rows ((done++[h1 done.length])++ck d false) done.length):=by
   refine Bt (pk1 (ts:=((done++[h1 done.length])++ck d false).map T.bl) (j:=done.length) rfl rfl ?_);rw[dB,c6,eS (cC _),i7];rfl
  have dP:∀b,(done++[b]).length=done.length+1:=λb=>by rw[cK];rfl
  have YR:=ltY (x1:=x1) (x2:=x2) (l:=done++ck (d+1) false) iW;refine sD (k:=e+d+1) YR (fU (W.of hp ⟨rfl,?_⟩));have skip:∀b,(h1 done.length&&!past done.length)=false->h1 done.length=b->fD (D.tB (jm 3 (vF 4))) Lu (SS x1 x2 rows ((done++[b])++ck d false) done.length)=.ok (false,SS x1 x2 rows ((done++[b])++ck d false) done.length)->W (af (aU (fD (D.tB (jm 3 (vF 4))) Lu) (af P4 (af (O6 n) (aU Ls (pS 3 (vF 4) (cF (.bl true))) aE))) aE) P4 (SS x1 x2 rows ((done++[b])++ck d false) done.length)) λq=>q.1=.nx/\W (aY Ls (O7 n) (e+d+1) q.2) λq=>q.1=.nx/\∃k',q.2=SS x1 x2 rows (done++ib h1 h2 past false done.length (d+1)) k':=λb hf hb ha=>by
   refine fU (fJ ha (W.of rfl ⟨rfl,W.of zR ⟨rfl,?_⟩⟩));refine(IZ hL H1 H2 HP N d (done.length+1) e (done++[b]) (by omega) (by rw[dP];omega) (.inl (dP b).symm)).mono λq hq=>⟨hq.1,?_⟩
   obtain⟨_,k',e2⟩:=hq;refine⟨k',e2.trans ?_⟩;rw[dP,ib,if_neg bZ,hf,hb,c6];rfl
  cases hb:h1 done.length with
  |false=>
   rw[hb]at hx;exact skip false (by rw[hb];rfl) hb (UP hx)
  |true=>
   rw[hb]at hx;have ha:=EK hx (HP ((done++[true])++ck d false) done.length);cases hpa:past done.length with
   |true=>
    rw[hpa]at ha;exact skip true (by rw[hb,hpa];rfl) hb ha
   |false=>
    rw[hpa]at ha;obtain⟨f,hf⟩:∃f,many=f+d+1:=⟨many-(d+1),by unfold many;omega⟩
    have g:=VF (h1:=h1) (past:=past) (x1:=x1) H2 d (done.length+1) f (done++[true]) (by omega) (dP true)
    obtain⟨⟨o,s'⟩,e1,ho,k',d',fP,AE,a2,a3,a4,a5,a6⟩:=g;have ho:o=.nx:=ho;subst ho;have AE:s'=SS x1 x2 rows (fP++ck d' false) k':=AE;subst AE;have fW:done++ib h1 h2 past false done.length (d+1)=fP++ib h1 h2 past true k' d':=by
     rw[a4,ib,if_neg bZ,hb,hpa,c6];rfl
    rw[fW];refine fU (nW ha (fU (W.of zR ⟨rfl,fU (W.of (by unfold O6 eW;rw[hf];exact e1) ⟨rfl,?_⟩)⟩)))
    cases d' with
    |zero=>
     refine fJ (ltN (by omega)) (W.of rfl ⟨rfl,W.of zR ⟨rfl,?_⟩⟩)
     refine(IZ hL H1 H2 HP N 0 (k'+1) (e+d) fP (i6 _) (by omega) (.inr ⟨rfl,by omega⟩)).mono λq hq=>⟨hq.1,?_⟩
     obtain⟨_,k2,e2⟩:=hq;exact⟨k2,e2⟩
    |succ d1=>
     have yo:(fP++ck (d1+1) false).set k' true=(fP++[true])++ck d1 false:=by
      rw[jF,oN _ _ _ _ a3,c6];rfl
     have WL:pS 3 (vF 4) (cF (.bl true)) (SS x1 x2 rows (fP++ck (d1+1) false) k')=.ok (.nx,SS x1 x2 rows ((fP++[true])++ck d1 false) k'):=by
      rw[<- yo];exact xH rfl (by rw[cK,iC];omega)
     have FQ:(fP++[true]).length=k'+1:=by rw[cK,a3];rfl
     refine nW (ltY (by omega)) (W.of WL ⟨rfl,W.of zR ⟨rfl,?_⟩⟩)
     have g:=IZ hL H1 H2 HP N d1 (k'+1) (e+(d-d1)) (fP++[true]) (by omega) (by rw[FQ];omega) (.inl FQ.symm)
     rw[show e+(d-d1)+d1+1=e+d+1 by omega]at g
     refine g.mono λq hq=>⟨hq.1,?_⟩;obtain⟨_,k2,e2⟩:=hq;refine⟨k2,e2.trans ?_⟩;rw[FQ,ib,if_pos rfl,a6 (by omega),c6];rfl
end
section
variable{h1 h2 past:Nat->Bool}{x1 x2:T}{rows:Ap}{n:Nat}{m:FV}
theorem o2E{g:T->T->FC}{a b:FE}{s:S}{t u:T}{ts:FK}(ha:a s=.ok (t,s))(hb:b s=.ok (u,s))(k:g t u=some ts):o2 g a b s=.ok (ts,s):=by
 unfold o2;rw[ha];show Res.bind (b s) _=_;rw[hb];show Res.bind (aS (g t u)) _=_;rw[k];rfl
theorem YS{i:Nat}{fl:FL}{s:S}{ts:FK}(h:fl s=.ok (ts,s)):iQ i fl s=.ok (.nx,i_ s i (.ol ts)):=by unfold iQ;rw[h];rfl
theorem sG:∀d:Nat,(ck d [T.bl false]).flatten=(ck d false).map T.bl
 |0=>rfl
 |d+1=>by rw[jF,sX,sG d,jF];rfl
theorem qI:∀bs:Fh,aB (bs.map T.bl)=true
 |[]=>rfl
 |_::bs=>by show(true&&aB (bs.map T.bl))=true;rw[qI bs];rfl
theorem sH(n1:noOwn x1=true)(n2:noOwn x2=true)(hL:rows.length<=1000)(H1:∀k,k<rows.length->cN (n+1) 60 [x1,.lst (rows.map T.str),.int (k:Nat)] []=.ok (.bl (h1 k),[]))(H2:∀k,k<rows.length->cN (n+1) 60 [x2,.lst (rows.map T.str),.int (k:Nat)] []=.ok (.bl (h2 k),[]))(HP:∀l k,Lu (SS x1 x2 rows l k)=.ok (!past k,SS x1 x2 rows l k)):cN (n+2) 61 [x1,x2,.lst (rows.map T.str)] m=.ok (.lst ((ib h1 h2 past false 0 rows.length).map T.bl),m):=by
 rw[w61];refine sEq ?_ rfl (qI _) ?_
 ·show(noOwn x1&&(noOwn x2&&(aB (rows.map T.str)&&true)))=true
  rw[n1,n2,ia];rfl
 obtain⟨e,he⟩:∃e,many=e+rows.length+1:=⟨many-(rows.length+1),by unfold many;omega⟩
 refine dm (W.of (a:=(.nx,(⟨[sv x1,sv x2,sv (.lst (rows.map T.str)),some (.ol ((ck rows.length false).map T.bl)),none],[]⟩:S))) ?_ ⟨rfl,dm (W.of (a:=(.nx,SS x1 x2 rows (ck rows.length false) 0)) rfl ⟨rfl,dm ?_⟩)⟩)
 ·refine YS (o2E (t:=.lst [.bl false]) (u:=.int ((rows.map T.str).length:Nat)) rfl rfl ?_)
  show gd _ _=_;rw[jd (by rw[bF];simp;omega),bF,qS,sG]
 ·show W (eW many _ _ (SS x1 x2 rows (ck rows.length false) 0)) _
  have g:=IZ (h1:=h1) (h2:=h2) (past:=past) hL H1 H2 HP rows.length rows.length 0 e [] (cC _) (pj _) (.inl rfl);rw[o9,<- he]at g;have g:W (eW many Ls (O7 n) (SS x1 x2 rows (ck rows.length false) 0)) _:=g;refine W.mono g λq hq=>⟨hq.1,?_⟩;obtain⟨_,k',e2⟩:=hq;rw[e2];exact A9 rfl rfl
end
section
variable{x1:T}{rows:Ap}{l:Fh}{k:Nat}{i:Int}{f b:Bool}{ws:B1}
theorem O8:Lu (SS x1 (.tup [.str [114,111,119],.int i]) rows l k)=.ok (!decide (i<=((k:Nat):Int)+1),SS x1 (.tup [.str [114,111,119],.int i]) rows l k):=by
 refine VG (s1:=SS x1 (.tup [.str [114,111,119],.int i]) rows l k) rfl (mf (aR (t:=.int i) (u:=.int (((k:Nat):Int)+1)) (s1:=SS x1 (.tup [.str [114,111,119],.int i]) rows l k) (s2:=SS x1 (.tup [.str [114,111,119],.int i]) rows l k) rfl rfl ?_));rw[Ba];by_cases h:i<=((k:Nat):Int)+1
 ·rw[decide_eq_true h,decide_eq_false (by omega)];rfl
 ·rw[decide_eq_false h,decide_eq_true (by omega)];rfl
theorem I_:Lu (SS x1 (.tup [.str [108,105,107,101],.bl f,.str ws,.bl b]) rows l k)=.ok (true,SS x1 (.tup [.str [108,105,107,101],.bl f,.str ws,.bl b]) rows l k):=rfl
end
section
variable{rows:Ap}{k:Nat}
theorem vK:∀(ys:List LC)(p:Int)(g:Int->Bool)(q:Int),q<p->gf rows k ys p g q=g q
 |[],_,_,_,_=>rfl
 |y::ys,p,g,q,h=>by
  rw[gf,vK ys (p+1) _ q (by omega)]
  exact if_neg (by omega)
theorem vL:∀(ys:List LC)(p:Int)(g:Int->Bool)(i:Nat)(h:i<ys.length),gf rows k ys p g (p+(i:Nat))=ys[i].up rows k (g (p+(i:Nat)))
 |[],_,_,_,h=>by cases h
 |y::ys,p,g,0,_=>by
  rw[gf,vK ys (p+1) _ _ (by omega),show p+((0:Nat):Int)=p by omega]
  exact if_pos rfl
 |y::ys,p,g,i+1,h=>by
  have ih:=vL ys (p+1) (sU g p (y.up rows k (g p))) i (B8 h);rw[show p+((i+1:Nat):Int)=p+1+(i:Nat) by omega,gf,ih]
  have:sU g p (y.up rows k (g p)) (p+1+(i:Nat))=g (p+1+(i:Nat)):=if_neg (by omega)
  rw[this];rfl
theorem qJ:∀(ys:List LC)(p:Int)(g:Int->Bool)(i:Nat)(h:i<ys.length),(cH rows k ys p g)[i]?=some (ys[i].iZ rows k (g (p+(i:Nat))))
 |[],_,_,_,h=>by cases h
 |y::ys,p,g,0,_=>by
  rw[cH,show p+((0:Nat):Int)=p by omega];rfl
 |y::ys,p,g,i+1,h=>by
  have ih:=qJ ys (p+1) (sU g p (y.up rows k (g p))) i (B8 h);rw[cH,BQ,ih,show p+((i+1:Nat):Int)=p+1+(i:Nat) by omega]
  have:sU g p (y.up rows k (g p)) (p+1+(i:Nat))=g (p+1+(i:Nat)):=if_neg (by omega)
  rw[this];rfl
end
section
variable{rows:Ap}
def Ja(rows:Ap)(ys:List LC):Nat->Int->Bool
 |0=>λ_=>false
 |k+1=>gf rows k ys 0 (Ja rows ys k)
def Bh(rows:Ap)(y:LC):Nat->Bool
 |0=>false
 |k+1=>y.up rows k (Bh rows y k)
theorem Ff(ys:List LC)(i:Nat)(h:i<ys.length):∀k,Ja rows ys k (i:Nat)=Bh rows ys[i] k
 |0=>rfl
 |k+1=>by
  have:=vL (rows:=rows) (k:=k) ys 0 (Ja rows ys k) i h
  rw[show(0:Int)+(i:Nat)=(i:Nat) by omega]at this
  rw[Ja,this,Ff ys i h k];rfl
theorem O9(ys:List LC)(i k:Nat)(h:i<ys.length):(cH rows k ys 0 (Ja rows ys k))[i]?=some (ys[i].iZ rows k (Bh rows ys[i] k)):=by
 rw[qJ ys 0 _ i h,show(0:Int)+(i:Nat)=(i:Nat) by omega,Ff ys i h k]
theorem O_(e1 e2:Ed)(k:Nat)(up:Bool):O0 rows k e1 e2 up=if up then !e2.iZ rows k else e1.iZ rows k&&!e2.past k:=by
 unfold O0;cases up<;>cases e1.iZ rows k<;>rfl
theorem zS(t:Bool)(e1 e2:Ed):∀(d k j:Nat),j<d->(ib (λk=>e1.iZ rows k) (λk=>e2.iZ rows k) (λk=>e2.past k) (Bh rows (.ft t e1 e2) k) k d)[j]?=some (sE rows (k+j) e1 e2 (Bh rows (.ft t e1 e2) (k+j)))
 |0,_,_,h=>by cases h
 |d+1,k,0,_=>rfl
 |d+1,k,j+1,h=>by
  have ih:=zS t e1 e2 d (k+1) j (B8 h);rw[ib,BQ,<- O_];rw[show k+(j+1)=k+1+j by omega]
  exact ih
end
section
variable{c:Nat}{row:B1}{bh:Dx}
theorem Pa{es:Dx}{p:Nat}(hp:p<es.length)(q:Nat):(gv false [c] false row bh es p).getD q 0=if q=p/\row.getD q 0=c/\es.getD q 0<bh.getD (q+1) 0 then bh.getD (q+1) 0 else es.getD q 0:=by
 have hb:PZ false bh es p=bh.getD (p+1) 0:=rfl;have hm:(decide (row.getD p 0∈[c]) != false)=decide (row.getD p 0=c):=by
  rw[Bool.bne_false];exact decide_eq_decide.mpr dG
 unfold gv;rw[hb,hm];by_cases e:q=p
 ·subst e
  by_cases h1:row.getD q 0=c
  ·rw[if_pos (decide_eq_true h1)]
   by_cases h2:es.getD q 0<bh.getD (q+1) 0
   ·rw[if_pos h2,if_pos ⟨rfl,h1,h2⟩,fj,dW hp];rfl
   ·rw[if_neg h2,if_neg λz=>h2 z.2.2]
  ·rw[if_neg (by rw[decide_eq_false h1];exact bZ),if_neg λz=>h1 z.2.1]
 ·rw[if_neg (c:=q=p/\_) λz=>e z.1]
  split
  ·split
   ·rw[fj,cy (Ne.symm e),<- fj]
   ·rfl
  ·rfl
theorem zT:∀(ps:B1)(es:Dx),ps.Nodup->(∀p∈ps,p<es.length)->∀q,(ps.foldl (λes p=>gv false [c] false row bh es p) es).getD q 0=if q∈ps/\row.getD q 0=c/\es.getD q 0<bh.getD (q+1) 0 then bh.getD (q+1) 0 else es.getD q 0
 |[],es,_,_,q=>by rw[if_neg λz=>by cases z.1];rfl
 |p::ps,es,hn,hp,q=>by
  have hn:=kq.mp hn;have h0:=hp p (eg ..);rw[z9,zT ps _ hn.2 (λx hx=>by rw[sf];exact hp x (ez _ hx)) q,Pa h0 q]
  by_cases e:q=p
  ·subst e
   rw[if_neg λz=>hn.1 z.1];by_cases h:row.getD q 0=c/\es.getD q 0<bh.getD (q+1) 0
   ·rw[if_pos ⟨rfl,h⟩,if_pos ⟨eg ..,h⟩]
   ·rw[if_neg λz=>h z.2,if_neg λz=>h z.2]
  ·rw[if_neg (c:=q=p/\_) λz=>e z.1]
   by_cases h:q∈ps/\row.getD q 0=c/\es.getD q 0<bh.getD (q+1) 0
   ·rw[if_pos h,if_pos ⟨ez _ h.1,h.2⟩]
   ·rw[if_neg h,if_neg λz=>h ⟨(cu.mp z.1).resolve_left e,z.2⟩]
end
theorem Pb{c:Nat}{row:B1}{bh:Dx}(hl:bh.length=row.length+1)(hb:∀x∈bh,-1<=x)(q:Nat)(hq:q<=row.length):(F8 ⟨.pl c,49⟩ row bh).getD q 0=if q<row.length/\row.getD q 0=c then bh.getD (q+1) 0 else -1:=by
 have e:F8 ⟨.pl c,49⟩ row bh=((dZ row.length).map λk=>row.length-1-k).foldl (λes p=>gv false [c] false row bh es p) (ck bh.length (-1)):=by
  unfold F8;rw[JT,JT];have h0:(if OQ ⟨.pl c,49⟩then bh else ck bh.length (-1))=ck bh.length (-1):=rfl
  rw[h0]
  have:∀(ks:B1)(es:Dx),(∀k∈ks,k<row.length)->ks.foldl (λes k=>gv (zD ⟨.pl c,49⟩) (IT.sg (.pl c)) (IT.ot (.pl c)) row bh es (Uy (T.int (((row.length:Int)-1)-(k:Nat))))) es=ks.foldl (λes k=>gv false [c] false row bh es (row.length-1-k)) es:=by
   intro ks
   induction ks with
   |nil=>intro es _;rfl
   |cons k ks ih=>
    intro es h;have hk:=h k (eg ..);have hn:Uy (T.int (((row.length:Int)-1)-(k:Nat)))=row.length-1-k:=by
     show(((row.length:Int)-1)-(k:Nat)).toNat=_;omega
    rw[z9,z9,hn];exact ih _ λx hx=>h x (ez _ hx)
  exact this _ _ λk hk=>gj.mp hk
 have hr:(ck bh.length (-1:Int)).getD q 0=-1:=by
  rw[fj,sW,if_pos (by omega)];rfl
 rw[e,zT _ _ ?_ ?_ q,hr]
 ·have UQ:q∈((dZ row.length).map λk=>row.length-1-k) ↔ q<row.length:=by
   constructor
   ·intro h
    obtain⟨k,hk,rfl⟩:=eU.mp h
    have:=gj.mp hk
    omega
   ·intro h
    exact eU.mpr ⟨row.length-1-q,gj.mpr (by omega),by omega⟩
  by_cases h:q<row.length/\row.getD q 0=c
  ·rw[if_pos h]
   have hx:-1<=bh.getD (q+1) 0:=by
    rw[fj,b8 (by omega)]
    exact hb _ (tm _)
   by_cases h2:(-1:Int)<bh.getD (q+1) 0
   ·rw[if_pos ⟨UQ.mpr h.1,h.2,h2⟩]
   ·rw[if_neg λz=>h2 z.2.2];omega
  ·rw[if_neg h,if_neg λz=>h ⟨UQ.mp z.1,z.2.1⟩]
 ·refine List.pairwise_map.mpr (JL.imp_of_mem (λ{a b} ha ML h=>?_) List.nodup_range)
  have:=gj.mp ha
  have:=gj.mp ML
  have h:a≠b:=h;omega
 ·intro p hp
  obtain⟨k,hk,rfl⟩:=eU.mp hp
  have:=gj.mp hk
  rw[iC];omega
def jB(row ws:B1)(b:Bool)(q:Nat):Prop:=q+ws.length<=row.length/\(row.drop q).take ws.length=ws/\(b=true->q+ws.length=row.length)
instance (row ws:B1) (b:Bool) (q:Nat):Decidable (jB row ws b q):=by unfold jB;infer_instance
theorem Fg{row:B1}{i:Itm}{its:List Itm}{b:Bool}:sQ row (i::its) b=F8 i row (sQ row its b):=by
 unfold sQ;rw[BU,List.foldl_append];rfl
theorem kY{row ws:B1}{c q:Nat}{b:Bool}:jB row (c::ws) b q ↔ (q<row.length/\row.getD q 0=c)/\jB row ws b (q+1):=by
 unfold jB;rw[bz];constructor
 ·rintro⟨h1,h2,h3⟩
  have hq:q<row.length:=by omega
  rw[ph hq,BZ]at h2;injection h2 with h4 h5
  refine⟨⟨hq,?_⟩,by omega,h5,λz=>by have:=h3 z;omega⟩
  rw[fj,b8 hq];exact h4
 ·rintro⟨⟨hq,h4⟩,h1,h5,h3⟩
  rw[fj,b8 hq]at h4;have h4:row[q]=c:=h4;refine⟨by omega,?_,λz=>by have:=h3 z;omega⟩
  rw[ph hq,BZ,h4,h5]
theorem xJ{row:B1}{b:Bool}:∀(ws:B1)(q:Nat),q<=row.length->(sQ row (fV ws) b).getD q 0=if jB row ws b q then((q+ws.length:Nat):Int)else -1
 |[],q,hq=>by
  show(OS row b).getD q 0=_;have hs:jB row [] b q ↔ (b=true->q=row.length):=by
   unfold jB;constructor
   ·intro h z;exact h.2.2 z
   ·intro h;exact⟨hq,rfl,h⟩
  unfold OS;cases b with
  |false=>
   rw[if_neg bZ,if_pos (hs.mpr λz=>by cases z),fj,dB,vV (by omega)]
   show(0:Int)+(q:Nat)=_;rw[yi];rfl
  |true=>
   rw[if_pos rfl,fj];by_cases h:q=row.length
   ·rw[if_pos (hs.mpr λ_=>h),eS (by rw[iC];omega),iC,h,i7];rfl
   ·rw[if_neg λz=>h (hs.mp z rfl),gp (by rw[iC];omega),sW,if_pos (by omega)];rfl
 |c::ws,q,hq=>by
  have bO:(sQ row (fV ws) b).length=row.length+1:=mj;have ge:∀x∈sQ row (fV ws) b,-1<=x:=λx hx=>by
   obtain⟨j,hj,rfl⟩:=List.mem_iff_getElem.mp hx
   have:=xJ (row:=row) (b:=b) ws j (by omega)
   rw[fj,b8 hj]at this;have this:(sQ row (fV ws) b)[j]=_:=this;rw[this];split<;>omega
  show(sQ row (⟨.pl c,49⟩::fV ws) b).getD q 0=_;rw[Fg,Pb bO ge q hq];by_cases h:q<row.length/\row.getD q 0=c
  ·rw[if_pos h,xJ ws (q+1) (by omega)]
   by_cases h2:jB row ws b (q+1)
   ·rw[if_pos h2,if_pos (kY.mpr ⟨h,h2⟩),bz];omega
   ·rw[if_neg h2,if_neg λz=>h2 (kY.mp z).2]
  ·rw[if_neg h,if_neg λz=>h (kY.mp z).1]
theorem zU(l:Dx):∀qs,(!YA (lU l qs))=true ↔ ∃q∈qs,l.getD q 0≠-1
 |[]=>⟨λh=>(by cases h),λ⟨_,h,_⟩=>(by cases h)⟩
 |q::qs=>by
  unfold lU;by_cases h:l.getD q 0≠-1
  ·rw[if_pos h]
   exact⟨λ_=>⟨q,eg ..,h⟩,λ_=>rfl⟩
  ·rw[if_neg h,zU l qs]
   exact⟨λ⟨x,a,b⟩=>⟨x,ez _ a,b⟩,λ⟨x,a,b⟩=>⟨x,(cu.mp a).resolve_left λz=>h (z▸b),b⟩⟩
theorem Jb(ws l:B1):RC ws l=true ↔ ∃i,i+ws.length<=l.length/\(l.drop i).take ws.length=ws:=by
 rw[<- yJ,rK,xZ];constructor
 ·rintro⟨i,_,h⟩
  rw[cO,decide_eq_true_iff,beq_iff_eq]at h;exact⟨i,h⟩
 ·rintro⟨i,h⟩
  refine⟨i,gj.mpr (by omega),?_⟩
  rw[cO,decide_eq_true_iff,beq_iff_eq];exact h
theorem Pc(row ws:B1)(f b:Bool):sy row f (fV ws) b=Fd f b ws row:=by
 have ie:∀q,q<=row.length->((sQ row (fV ws) b).getD q 0≠-1 ↔ jB row ws b q):=λq hq=>by
  rw[xJ ws q hq];by_cases h:jB row ws b q
  ·rw[if_pos h];exact⟨λ_=>h,λ_=>by omega⟩
  ·rw[if_neg h];exact⟨λz=>absurd rfl z,λz=>absurd z h⟩
 have bO:(sQ row (fV ws) b).length=row.length+1:=mj;rw[Cb];unfold sy OT;rw[zU];cases f with
 |true=>
  have hc:sR row true (fV ws) b=(sQ row (fV ws) b).take 1:=by
   unfold sR;rw[if_pos rfl];exact E2 _ 1
  have h0:(∃q∈dZ (sR row true (fV ws) b).length,(sR row true (fV ws) b).getD q 0≠-1) ↔ jB row ws b 0:=by
   rw[hc,vU,bO,show min 1 (row.length+1)=1 by omega]
   have e0:((sQ row (fV ws) b).take 1).getD 0 0=(sQ row (fV ws) b).getD 0 0:=by
    rw[fj,List.getElem?_take,if_pos (by omega),<- fj]
   constructor
   ·rintro⟨q,hq,h⟩
    have hq:=gj.mp hq
    have:q=0:=by omega
    subst this;rw[e0]at h;exact(ie 0 (i6 _)).mp h
   ·intro h
    exact⟨0,gj.mpr (by omega),by rw[e0];exact(ie 0 (i6 _)).mpr h⟩
  rw[h0];unfold jB Fd;rw[if_pos rfl,pj,mH];cases b with
  |true=>
   rw[if_pos rfl,decide_eq_true_iff];constructor
   ·rintro⟨_,h2,h3⟩
    rw[h3 rfl,JU]at h2;exact h2
   ·rintro rfl
    exact⟨cC _,JU,λ_=>rfl⟩
  |false=>
   rw[if_neg bZ];unfold pre;rw[cO,decide_eq_true_iff,beq_iff_eq];exact⟨λh=>⟨h.1,h.2.1⟩,λh=>⟨h.1,h.2,λz=>by cases z⟩⟩
 |false=>
  have hc:sR row false (fV ws) b=sQ row (fV ws) b:=by
   unfold sR;rw[if_neg bZ]
  have h0:(∃q∈dZ (sR row false (fV ws) b).length,(sR row false (fV ws) b).getD q 0≠-1) ↔ ∃q,jB row ws b q:=by
   rw[hc,bO];constructor
   ·rintro⟨q,hq,h⟩
    have hq:=gj.mp hq;exact⟨q,(ie q (by omega)).mp h⟩
   ·rintro⟨q,h⟩
    have:=h.1
    exact⟨q,gj.mpr (by omega),(ie q (by omega)).mpr h⟩
  rw[h0];unfold Fd;rw[if_neg bZ];cases b with
  |true=>
   rw[if_pos rfl];unfold Hb jB;rw[cO,decide_eq_true_iff,beq_iff_eq];constructor
   ·rintro⟨q,h1,h2,h3⟩
    have h3:=h3 rfl;refine⟨by omega,?_⟩
    rw[show row.length-ws.length=q by omega]
    rw[x8 (by rw[o8];omega)]at h2
    exact h2
   ·rintro⟨h1,h2⟩
    refine⟨row.length-ws.length,by omega,?_,λ_=>by omega⟩
    rw[x8 (by rw[o8];omega)]
    exact h2
  |false=>
   rw[if_neg bZ,Jb];exact⟨λ⟨q,h⟩=>⟨q,h.1,h.2.1⟩,λ⟨q,h⟩=>⟨q,h.1,h.2,λz=>by cases z⟩⟩
theorem ml{s:S}{i j:Int}{a:FE}(h:a s=.ok (.int i,s))(hj:-(2^64)<j/\j<2^64):bo (dC .Mult) a (cI j) s=.ok (.int (i*j),s):=aR h rfl (show C3 (.int i) (.int j)=_ from jd (.inl (.inr hj)))
theorem md{s:S}{i j:Int}{a:FE}(h:a s=.ok (.int i,s))(h2:0<j):oM a (cI j) s=.ok (.int (i % j),s):=aR h rfl (show MN (.int i) (.int j)=_ from jd h2)
theorem fd{s:S}{i j:Int}{a:FE}(h:a s=.ok (.int i,s))(h2:0<j/\j<1073741824):oD a (cI j) s=.ok (.int (i/j),s):=aR h rfl (show G9 (.int i) (.int j)=_ from jd h2)
theorem ad{s:S}{i j:Int}{a b:FE}(h:a s=.ok (.int i,s))(h2:b s=.ok (.int j,s)):oA a b s=.ok (.int (i+j),s):=aR h h2 rfl
theorem qK{s:S}{x y:B1}{a b:FE}(h:a s=.ok (.str x,s))(h2:b s=.ok (.str y,s))(hl:x.length+y.length<=1000000):oA a b s=.ok (.str (x++y),s):=aR h h2 (jd hl)
theorem Pd{l:B1}{i:Int}{k:Nat}(hk:l.length=k)(h0:0<k):∃c∈l,gS (.str l) (.int (i % (k:Int)))=some (.str [c]):=by
 have h1:0<=i % (k:Int):=Af _ (by omega)
 have h2:i % (k:Int)<k:=Ag _ (by omega)
 have iW:(i % (k:Int)).toNat<l.length:=by omega
 refine⟨l[(i % (k:Int)).toNat],tm iW,?_⟩;show(atT l (i % (k:Int))).map _=_;unfold atT;rw[if_pos h1,if_pos (by omega),b8 iW]
 rfl
def sA:B1:=Uj
def sB:B1:=Uk
def sC:B1:=Ul
def xK(c:Nat):Bool:=vf c&&decide (c≠10)
theorem YT:(sA++sB++sC).all xK=true:=by decide +kernel
structure VN(a b c:Nat):Prop where
 ga:xK a=true
 gb:xK b=true
 gc:xK c=true
abbrev Gb(a b c:Nat):T:=.lst [.str [a],.str [b],.str [c]]
theorem Fi(cell:Int)(m:FV):∃a b c,VN a b c/\cN (n+1) 54 [.int cell] m=.ok (Gb a b c,m):=by
 obtain⟨i,hi⟩:∃i,i=cell*16807 % 1000003:=⟨_,rfl⟩;obtain⟨a,ha,ea⟩:=Pd (l:=sA) (i:=i) (k:=24) rfl (by decide)
 obtain⟨b,hb,eb⟩:=Pd (l:=sB) (i:=i/24) (k:=27) rfl (by decide)
 obtain⟨c,hc,ec⟩:=Pd (l:=sC) (i:=i/648) (k:=33) rfl (by decide)
 have al:=gz.mp YT;refine⟨a,b,c,⟨al a (by simp[ha]),al b (by simp[hb]),al c (by simp[hc])⟩,?_⟩
 rw[w54];subst hi;exact sEq rfl rfl rfl (bS rfl (bS (md (ml rfl (by decide)) (by decide)) (bR (dY (ts:=[.str [a],.str [b],.str [c]]) (aw (pE (t:=.str sA) rfl (md rfl (by decide)) ea) (aw (pE (t:=.str sB) rfl (md (fd rfl (by decide)) (by decide)) eb) (aw (pE (t:=.str sC) rfl (md (fd rfl (by decide)) (by decide)) ec) rfl))) rfl) rfl)))
theorem ix3{a b c:Nat}(g:VN a b c)(i:Int):∃d,xK d=true/\gS (Gb a b c) (.int (i % 3))=some (.str [d]):=by
 have h1:0<=i % 3:=Af _ (by decide)
 have h2:i % 3<3:=Ag _ (by decide)
 obtain h|h|h:i % 3=0\/i % 3=1\/i % 3=2:=by omega
 ·rw[h];exact⟨a,g.ga,rfl⟩
 ·rw[h];exact⟨b,g.gb,rfl⟩
 ·rw[h];exact⟨c,g.gc,rfl⟩
theorem Fj{gg:FG}{B:FS}{I:Nat->S->Prop}{N:Nat}:∀{ts:FK}{i:Nat}{s:S},(∀t∈ts,∀i s,i<N->I i s->∃r,gg t s.r=some r/\W (B ⟨r,s.m⟩) λp=>p.1=.nx/\I (i+1) p.2)->i+ts.length<=N->I i s->W (bU gg B ts s) λp=>p.1=.nx/\I (i+ts.length) p.2
 |[],i,s,_,_,h=>⟨_,rfl,rfl,h⟩
 |t::ts,i,s,k,hN,h=>by
  rw[bz]at hN;obtain⟨r,e1,⟨o,s1⟩,e2,e3,h1⟩:=k t (eg ..) i s (by omega) h
  cases e3;obtain⟨p,e4,h2⟩:=Fj (ts:=ts) (λt ht=>k t (ez _ ht)) (by omega) h1
  refine⟨p,?_,h2.1,by rw[bz,show i+(ts.length+1)=i+1+ts.length by omega];exact h2.2⟩
  rw[bU,e1];refine Eq.trans (bj _ _) ?_;show Res.bind (B ⟨r,s.m⟩) _=_;rw[e2];exact e4
theorem UR{i k:Int}(hk:0<k/\k<100):iz [.int (i % k)]=some (iT 0 (i % k).toNat)/\(iT 0 (i % k).toNat).length<k.toNat/\∀t∈iT 0 (i % k).toNat,∃j:Nat,j<100/\t=.int (0+(j:Nat)):=by
 have h1:0<=i % k:=Af _ (by omega)
 have h2:i % k<k:=Ag _ (by omega)
 refine⟨jd (by omega),by unfold iT;rw[bF,jg];omega,λt ht=>?_⟩
 obtain⟨j,hj,rfl⟩:=eU.mp ht;exact⟨j,by have:=gj.mp hj;omega,rfl⟩
theorem sq{s:S}{i j:Int}{a b:FE}(h:a s=.ok (.int i,s))(h2:b s=.ok (.int j,s))(hj:-(2^64)<i/\i<2^64):bo (dC .Mult) a b s=.ok (.int (i*j),s):=aR h h2 (show C3 (.int i) (.int j)=_ from jd (.inl (.inl hj)))
def VO(w:B1):Prop:=w.length<=100/\∀c∈w,c≠10
theorem Jc{c:Nat}(h:xK c=true):vf c=true/\c≠10:=by
 unfold xK at h;rw[cO]at h;exact⟨h.1,of_decide_eq_true h.2⟩
theorem Pe{a b c:Nat}(g:VN a b c)(cell:Int)(m:FV):∃w,VO w/\cN (n+1) 55 [.int cell,Gb a b c] m=.ok (.str w,m):=by
 rw[w55];obtain⟨r1,r2,r3⟩:=UR (i:=cell) (k:=5) (by decide)
 have key:W (t55 (cN n) [.int cell,Gb a b c] m) λp=>∃w,VO w/\p=(.str w,m):=by
  refine nX rfl (kQ rfl (bS rfl (bS (md (ml rfl (by decide)) (by decide)) (dm (gG (W.of (xn (aw (md rfl (by decide)) rfl) r1) ?_))))))
  refine(Fj (N:=5) (I:=λk s=>∃w i u,s=⟨[sv (.int cell),sv (Gb a b c),sv (.str w),sv (.int i),u],[]⟩/\w.length=k/\∀c∈w,c≠10) (i:=0) (λt ht k s hk hI=>?_) (by rw[pj];exact yc r2) ⟨[],_,none,rfl,rfl,λ_ z=>nomatch z⟩).mono λp hp=>?_
  ·obtain⟨w,i,u,rfl,hw,Vy⟩:=hI
   obtain⟨j,hj,rfl⟩:=r3 t ht;obtain⟨d,hd,et⟩:=ix3 g i;refine⟨_,rfl,wS (qK (x:=w) rfl (aR (t:=Gb a b c) rfl (md rfl (by decide)) et) (by show w.length+1<=_;omega)) (W.of (gF (md (ad (ad (ml rfl (by decide)) (sq rfl rfl ⟨by omega,by omega⟩)) rfl) (by decide))) ⟨rfl,w++[d],_,_,rfl,by rw[cK,hw];rfl,λc hc=>?_⟩)⟩
   rcases gn.mp hc with h|h
   ·exact Vy c h
   ·rw[dG.mp h];exact(Jc hd).2
  ·obtain⟨p1,w,i,u,e,hw,Vy⟩:=hp
   have hw:w.length=0+(iT 0 (cell % 5).toNat).length:=hw;have r2:(iT 0 (cell % 5).toNat).length<5:=r2;rw[e];exact⟨p1,bR (t:=.str w) rfl ⟨rfl,w,⟨by omega,Vy⟩,rfl⟩⟩
 obtain⟨p,e,w,hw,rfl⟩:=key;exact⟨w,hw,e⟩
inductive Eg where
 |row (i:Nat)|like (f:Bool) (ws:B1) (b:Bool)
noncomputable def Eg.df:Eg->T
 |.row i=>.tup [.str [114,111,119],.int (i:Nat)]
 |.like f ws b=>.tup [.str [108,105,107,101],.bl f,.str ws,.bl b]
def Eg.ed:Eg->Ed
 |.row i=>.rw (i:Nat)
 |.like f ws b=>.li f (fV ws) b
def Eg.ok:Eg->Prop
 |.row i=>1<=i/\i<=12
 |.like _ ws _=>ws.length<=3/\∀c∈ws,xK c=true
def dg(k:Nat):B1:=if k<10 then[48+k]else[49,38+k]
def YU(k:Nat):Bool:=decide (Hu ((k:Nat):Int)=dg k/\((k:Nat):Int).natAbs.log2<1920)&&(decide (k=0) ||(dg k).all (λc=>decide (c∈Bb))&&!pre [48] (dg k)&&decide (PySem.intText? ⟨(dg k).toArray⟩=some ((k:Nat):Int)))
theorem Fl:(dZ 13).all YU=true:=by decide +kernel
theorem ic(k:Nat):(dg k).length<=2/\dg k≠[]:=by unfold dg;split<;>simp
theorem sI{k:Nat}(h:k<=12):strN [.int (k:Nat)]=some (.str (dg k)):=by
 have:=gz.mp Fl k (gj.mpr (by omega))
 unfold YU at this;rw[cO,decide_eq_true_iff]at this;show gd _ (T.str (Hu (k:Nat)))=_;rw[this.1.1];exact jd ⟨this.1.2,by have:=(ic k).1;omega⟩
theorem US{k:Nat}(h1:1<=k)(h2:k<=12):Nm (dg k) (k:Nat):=by
 have h:=gz.mp Fl k (gj.mpr (by omega))
 unfold YU at h;rw[decide_eq_false (show ¬ k=0 by omega),J0]at h
 simp only[cO,decide_eq_true_eq]at h;obtain⟨_,⟨b,c⟩,d⟩:=h;have hl:=ic k;refine⟨λx hx=>of_decide_eq_true (gz.mp b x hx),hl.2,by simpa using c,by omega,?_⟩
 show(PySem.intText? ⟨(dg k).toArray⟩).bind _=_;rw[d];exact jd (by omega)
theorem YV{f:B1->FK->FR}{o a:FE}{s:S}{l:B1}{Q:T×S->Prop}(h:o s=.ok (.str l,s))(k:W (a s) λp=>∃t,f l [p.1]=some t/\Q (t,p.2)):W (kL f o (k1 a) s) Q:=by
 obtain⟨⟨u,s1⟩,e,t,ht,q⟩:=k;exact⟨_,PY h (aw e rfl) ht,q⟩
theorem zV{a b c:Nat}(g:VN a b c)(cell:Int)(m:FV):∃e:Eg,e.ok/\cN (n+1) 56 [.int cell,Gb a b c] m=.ok (e.df,m):=by
 rw[w56];by_cases h:cell % 3=0
 ·have h1:0<=cell/3 % 12:=Af _ (by decide)
  have h2:cell/3 % 12<12:=Ag _ (by decide)
  refine⟨.row (1+(cell/3 % 12).toNat),⟨by omega,by omega⟩,?_⟩
  have e:(((1+(cell/3 % 12).toNat:Nat)):Int)=1+cell/3 % 12:=by omega
  show _=Res.ok (T.tup [.str [114,111,119],.int (((1+(cell/3 % 12).toNat:Nat)):Int)],m);rw[e];exact sEq rfl rfl rfl (bY (mf (pE (md rfl (by decide)) rfl (by rw[r_,decide_eq_true h]))) (bR (dY (ts:=[.str [114,111,119],.int (1+cell/3 % 12)]) (aw rfl (aw (ad rfl (md (fd rfl (by decide)) (by decide))) rfl)) rfl) rfl))
 ·obtain⟨r1,r2,r3⟩:=UR (i:=cell/3) (k:=4) (by decide)
  have key:W (t56 (cN n) [.int cell,Gb a b c] m) λp=>∃e:Eg,e.ok/\p=(e.df,m):=by
   refine nX rfl (kQ rfl (bN (mf (pE (md rfl (by decide)) rfl (by rw[r_,decide_eq_false h]))) (OD ?_)))
   refine YV rfl (Ui (La (W.of (xn (aw (md (fd rfl (by decide)) (by decide)) rfl) r1) ⟨by show(iT 0 (cell/3 % 4).toNat).length<=_;have r2:(iT 0 (cell/3 % 4).toNat).length<4:=r2;omega,(Yc (I:=λm=>m=[]) (R:=λt=>∃d,xK d=true/\t=.str [d]) (λt ht m hm=>?_) _ rfl).mono λp hp=>?_⟩)))
   ·subst hm
    obtain⟨j,hj,rfl⟩:=r3 t ht;obtain⟨d,hd,ed⟩:=ix3 g (cell/(9*(0+(j:Nat))*(0+(j:Nat))+9));have hjj:(0:Int)<=9*(0+(j:Nat))*(0+(j:Nat))/\9*(0+((j:Nat):Int))*(0+(j:Nat))<=9*100*100:=⟨Int.mul_nonneg (by omega) (by omega),Int.mul_le_mul (by omega) (by omega) (by omega) (by omega)⟩
    exact⟨_,rfl,W.of (pE (t:=Gb a b c) rfl (md (i:=cell/(9*(0+(j:Nat))*(0+(j:Nat))+9)) (pE (t:=.int cell) rfl (ad (sq (sq rfl rfl ⟨by omega,by omega⟩) rfl ⟨by omega,by omega⟩) rfl) (show G9 (.int cell) (.int (9*(0+(j:Nat))*(0+(j:Nat))+9))=_ from jd ⟨by omega,by omega⟩)) (by decide)) ed) ⟨⟨d,hd,rfl⟩,rfl⟩⟩
   ·obtain⟨us,m2⟩:=p
    obtain⟨hl,hR,UN⟩:=hp;have UN:m2=[]:=UN;subst UN;obtain⟨ws,YW,hws⟩:=EG (f:=λd=>T.str [d]) hR;have YW:us=ws.map λd=>T.str [d]:=YW;subst YW;have hl:(ws.map λd=>T.str [d]).length=(iT 0 (cell/3 % 4).toNat).length:=hl;have r2:(iT 0 (cell/3 % 4).toNat).length<4:=r2;rw[bF]at hl;have hj:joinM [] [.lst (ws.map λd=>T.str [d])]=some (.str ws):=by
     have e1:(ws.map λd=>T.str [d])=(ws.map λd=>[d]).map T.str:=by rw[fQ];rfl
     have e2:(ws.map λd=>[d]).flatten=ws:=by
      have:∀l:B1,(l.map λd=>[d]).flatten=l:=λl=>by
       induction l with
       |nil=>rfl
       |cons x l ih=>show[x]++_=_;rw[ih];rfl
      exact this ws
     rw[e1,join_eq (by rw[e2];omega),e2]
    exact⟨_,hj,bR (t:=.tup [.str [108,105,107,101],.bl (decide (cell/50 % 4=1)),.str ws,.bl (decide (cell/200 % 4=1))]) (dY (ts:=[.str [108,105,107,101],.bl (decide (cell/50 % 4=1)),.str ws,.bl (decide (cell/200 % 4=1))]) (aw rfl (aw (pE (md (fd rfl (by decide)) (by decide)) rfl (r_ _ _)) (aw rfl (aw (pE (md (fd rfl (by decide)) (by decide)) rfl (r_ _ _)) rfl)))) rfl) ⟨rfl,.like (decide (cell/50 % 4=1)) ws (decide (cell/200 % 4=1)),⟨by omega,hws⟩,rfl⟩⟩
  obtain⟨p,e,x,hx,rfl⟩:=key;exact⟨x,hx,e⟩
theorem sJ{ws:B1}(h:∀c∈ws,xK c=true):∀i∈fV ws,Itm.ok i:=λi hi=>by
 obtain⟨c,hc,rfl⟩:=eU.mp hi;exact⟨(Jc (h c hc)).1,rfl⟩
noncomputable def Eg.txt:Eg->B1
 |.row i=>[114,111,119,32]++dg i
 |.like f ws b=>[47]++fT f++ws++bT b++[47]
theorem kZ(b:Bool):(fT b).length<=1/\(bT b).length<=1:=by cases b<;>decide
theorem Eg.len{e:Eg}(h:e.ok):e.txt.length<=7:=by
 cases e with
 |row i=>
  have:=(ic i).1
  show([114,111,119,32]++dg i).length<=7;rw[cK];show 4+_<=_;omega
 |like f ws b=>
  have h1:=(kZ f).1;have h2:=(kZ b).2;have h3:=h.1;simp only[Eg.txt,cK,bz,qO];omega
theorem Eg.no(e:Eg):noOwn e.df=true:=by cases e<;>rfl
section
variable{f b:Bool}{ws:B1}{s:S}{a:FE}
theorem up_eq(h:a s=.ok (.bl f,s)):bo (dC .Mult) (cS [94]) (bg lN (k1 a)) s=.ok (.str (fT f),s):=pE rfl (dY (ts:=[.bl f]) (aw h rfl) rfl) (by cases f<;>rfl)
theorem Lv(h:a s=.ok (.bl b,s)):bo (dC .Mult) (cS [36]) (bg lN (k1 a)) s=.ok (.str (bT b),s):=pE rfl (dY (ts:=[.bl b]) (aw h rfl) rfl) (by cases b<;>rfl)
end
section
variable{m:FV}{e e1 e2:Eg}{t:Bool}{k:Nat}
theorem oO(h:e.ok):cN (n+1) 57 [e.df] m=.ok (.str e.txt,m):=by
 rw[w57];cases e with
 |row i=>
  have:=(ic i).1
  exact sEq rfl rfl rfl (bY rfl (bR (qK (x:=[114,111,119,32]) rfl (dY (ts:=[.int (i:Nat)]) rfl (sI h.2)) (by show 4+_<=_;omega)) rfl))
 |like f ws b=>
  have h1:=(kZ f).1;have h2:=(kZ b).2;have h3:=h.1;refine sEq rfl rfl rfl (bN rfl (bR (qK (qK (qK (qK (x:=[47]) rfl (up_eq (f:=f) rfl) ?_) (y:=ws) rfl ?_) (Lv (b:=b) rfl) ?_) (y:=[47]) rfl ?_) rfl))<;>simp only[cK,bz,qO]<;>omega
theorem oQ(h:e.ok):cN (n+8) 58 [e.df] m=.ok (e.ed.val,m):=by
 rw[w58];cases e with
 |row i=>exact sEq rfl rfl rfl (bY rfl (bR rfl rfl))
 |like f ws b=>
  have h1:=(kZ f).1;have h2:=(kZ b).2;have h3:=h.1;have ep:kT f (fV ws) b=fT f++ws++bT b:=by rw[mi,c6]
  have pe:=hU (f:=f) (b:=b) (its:=fV ws) n (m:=[]) (sJ h.2) (by rw[bF];omega)
  rw[ep]at pe;refine sEq rfl rfl (by show(noOwn (bH f (fV ws) b)&&true)=true;rw[dF];rfl) (bN rfl (bR (kR (ts:=[bH f (fV ws) b]) (aw (cE (ts:=[.str (fT f++ws++bT b)]) (aw (qK (qK (up_eq (f:=f) rfl) (y:=ws) rfl ?_) (Lv (b:=b) rfl) ?_) rfl) pe) rfl) rfl) rfl))<;>(try simp only[cK])<;>omega
abbrev ee(k:Nat):B1:=[108,105,110,101,32]++dg k
theorem Ed.no(e:Ed):noOwn e.val=true:=by
 cases e with
 |rw i=>rfl
 |li f its b=>show(noOwn (bH f its b)&&true)=true;rw[dF];rfl
theorem LC.no(y:LC):noOwn y.val=true:=by
 cases y with
 |li f its b=>show(noOwn (bH f its b)&&true)=true;rw[dF];rfl
 |ft t e1 e2=>cases t<;>(show _=true;simp[LC.val,noOwn,aB,Ed.no])
theorem Fo(h1:e1.ok)(h2:e2.ok)(hk:k<=12):cN (n+9) 59 [e1.df,e2.df,.bl t,.int (k:Nat)] m=.ok (dI ((LC.ft t e1.ed e2.ed).val,.say (.str (ee k))),m):=by
 rw[w59]
 have:=(ic k).1
 refine sEq (by simp[aB,Eg.no,noOwn]) rfl (by show(noOwn (LC.ft t e1.ed e2.ed).val&&(true&&true))=true;rw[LC.no];rfl) (bS (kR (ts:=[e1.ed.val,e2.ed.val]) (aw (cE (ts:=[e1.df]) rfl (oQ n h1)) (aw (cE (ts:=[e2.df]) rfl (oQ n h2)) rfl)) rfl) ?_)
 have fin:∀(c:T)(r:Fs),r=[sv e1.df,sv e2.df,sv (.bl t),sv (.int (k:Nat)),sv c]->WB (aA (cD 1 2 (k2 (vF 4) (cD 16 1 (k1 (oA (cS [108,105,110,101,32]) (bg strN (k1 (vF 3))))))))) ⟨r,[]⟩ λp=>p.1=.obj 1 [c,.obj 16 [.str (ee k)]]:=λc r hr=>by
  subst hr;exact bR (kR (ts:=[c,.obj 16 [.str (ee k)]]) (aw rfl (aw (kR (ts:=[.str (ee k)]) (aw (qK (x:=[108,105,110,101,32]) rfl (dY (ts:=[.int (k:Nat)]) rfl (sI hk)) (by show 5+_<=_;omega)) rfl) rfl) rfl)) rfl) rfl
 cases t with
 |true=>exact bI rfl (kR (ts:=[.obj 8 [e1.ed.val,e2.ed.val]]) rfl rfl) (fin _ _ rfl)
 |false=>exact bN rfl (fin _ _ rfl)
end
abbrev Zt:=Bool×Eg×Eg
def Lw(z:Zt):Prop:=z.2.1.ok/\z.2.2.ok
def my(z:Zt):LC:=.ft z.1 z.2.1.ed z.2.2.ed
def gZ(p:Zt×Nat):T×Dw:=((my p.1).val,.say (.str (ee p.2)))
def Bj:Eg->RP
 |.row i=>.row (dg i) (i:Nat)
 |.like f ws b=>.like (kT f (fV ws) b) (bH f (fV ws) b)
def Bk(p:Zt×Nat):LN:=.full (if p.1.1 then .no (.ft (Bj p.1.2.1) (Bj p.1.2.2))else .pc (.ft (Bj p.1.2.1) (Bj p.1.2.2))) (.say (ee p.2))
def vM(a:Nat):Eg:=.like false [a] false
def Jd(a:Nat):LC:=.li false (fV [a]) false
def Lx(a:Nat):LN:=.full (.pc (.rp (Bj (vM a)))) .drop
def VP(a:Nat):T×Dw:=((Jd a).val,.drop)
def Xs(d:Bool)(a:Nat)(zs:List Zt):List LN:=(if d then[Lx a]else[])++zs.zipIdx.map Bk
def Gs(d:Bool)(a:Nat)(zs:List Zt):List (T×Dw):=(if d then[VP a]else[])++zs.zipIdx.map gZ
def Ys(d:Bool)(a:Nat)(zs:List Zt):List LC:=(if d then[Jd a]else[])++zs.map my
abbrev Gd(t:Bool):B1:=if t then[110,111,116,32]else[]
abbrev Je(p:Zt×Nat):B1:=Gd p.1.1++[102,114,111,109,32]++p.1.2.1.txt++[32,116,111,32]++p.1.2.2.txt++[58,32,115,97,121,32,34,108,105,110,101,32]++dg p.2++[34,10]
abbrev YX(a:Nat):B1:=(vM a).txt++[58,32,100,114,111,112,10]
theorem oR(e:Eg)(b:B1):(Bj e).txt b=e.txt++b:=by
 cases e with
 |row i=>rfl
 |like f ws c=>
  show 47::(kT f (fV ws) c++47::b)=([47]++fT f++ws++bT c++[47])++b;unfold kT;rw[zA];simp
theorem Pf(e:Eg):(Bj e).val=e.ed.val:=by cases e<;>rfl
theorem Fp{e:Eg}(h:e.ok):(Bj e).ok:=by
 cases e with
 |row i=>exact⟨US h.1 h.2,by have:=h.1;omega,by have:=h.2;omega⟩
 |like f ws b=>exact Ux (sJ h.2) (by rw[bF];have:=h.1;omega)
theorem wdB:(dZ 13).all (λk=>(ee k).all λc=>decide (c∈oh/\c≠34/\c≠10))=true:=by decide +kernel
theorem xM{k:Nat}(hk:k<=12):Yq (ee k)/\10∉dg k:=by
 have h:=gz.mp (gz.mp wdB k (gj.mpr (by omega)))
 have:=(ic k).1
 exact⟨⟨λc hc=>let q:=of_decide_eq_true (h c hc);⟨q.1,q.2.1⟩,by rw[cK];show 5+_<=40;omega⟩,λz=>(of_decide_eq_true (h 10 (mD _ z))).2.2 rfl⟩
theorem UT{e:Eg}(h:e.ok):10∉e.txt:=by
 cases e with
 |row i=>exact λz=>(gn.mp z).elim (by decide) (xM h.2).2
 |like f ws b=>
  have h0:10∉ws:=λz=>(Jc (h.2 10 z)).2 rfl;have h1:10∉fT f:=by cases f<;>decide
  have h2:10∉bT b:=by cases b<;>decide
  simp[Eg.txt,h0,h1,h2]
section
variable{a:Nat}{p:Zt×Nat}
theorem zW:(Bk p).txt []++[10]=Je p:=by
 obtain⟨⟨t,e1,e2⟩,k⟩:=p;cases t with
 |true=>
  show 110::111::116::32::102::114::111::109::32::(Bj e1).txt (32::116::111::32::(Bj e2).txt (58::32::115::97::121::32::34::(ee k++34::[])))++[10]=_;rw[oR,oR];simp[Je,Gd,ee]
 |false=>
  show 102::114::111::109::32::(Bj e1).txt (32::116::111::32::(Bj e2).txt (58::32::115::97::121::32::34::(ee k++34::[])))++[10]=_;rw[oR,oR];simp[Je,Gd,ee]
theorem Jf:(Lx a).txt []++[10]=YX a:=by
 show(Bj (vM a)).txt (58::32::100::114::111::112::[])++[10]=_;rw[oR];simp[YX]
theorem zX:(Bk p).val=dI (gZ p):=by
 obtain⟨⟨t,e1,e2⟩,k⟩:=p;cases t<;>(show T.obj _ [_,_]=_;simp[Bk,LN.cond,LN.oi,CD.val,PC.val,Pf,DD.val,gZ,dI,my,LC.val,Dw.val])
theorem Ph(h:Lw p.1)(hk:p.2<=12):Lk (Bk p):=by
 have hv:=zX (p:=p);have hc:(Bk p).cond=(my p.1).val:=by injection hv with _ hv;injection hv
 refine Le ?_ (by rw[hc];exact LC.no _) rfl
 obtain⟨⟨t,e1,e2⟩,k⟩:=p;cases t<;>exact⟨⟨Fp h.1,Fp h.2⟩,(xM hk).1⟩
theorem Pj(h:xK a=true):Lk (Lx a):=Le ⟨Fp (e:=vM a) ⟨by show 1<=3;decide,λc hc=>by rw[dG.mp hc];exact h⟩,trivial⟩ (LC.no (Jd a)) rfl
theorem Jg(h:Lw p.1)(hk:p.2<=12):(Je p).length<=60:=by
 have h1:=Eg.len h.1;have h2:=Eg.len h.2;have h3:=(ic p.2).1;have h4:(Gd p.1.1).length<=4:=by cases p.1.1<;>decide
 simp only[Je,cK,bz,qO];omega
theorem zY(h:Lw p.1)(hk:p.2<=12):((Bk p).txt []).length<=100/\10∉(Bk p).txt []:=by
 have e:=zW (p:=p);constructor
 ·have h1:=congrArg z8 e
  have h2:=Jg h hk;rw[cK]at h1;omega
 ·have e2:(Bk p).txt []=Gd p.1.1++[102,114,111,109,32]++p.1.2.1.txt++[32,116,111,32]++p.1.2.2.txt++[58,32,115,97,121,32,34,108,105,110,101,32]++dg p.2++[34]:=by
   have:Je p=(Gd p.1.1++[102,114,111,109,32]++p.1.2.1.txt++[32,116,111,32]++p.1.2.2.txt++[58,32,115,97,121,32,34,108,105,110,101,32]++dg p.2++[34])++[10]:=by simp[Je]
   rw[this]at e;exact List.append_cancel_right e
  have h1:10∉Gd p.1.1:=by cases p.1.1<;>decide
  rw[e2];simp[h1,UT h.1,UT h.2,(xM hk).2]
theorem zZ(h:xK a=true):((Lx a).txt []).length<=100/\10∉(Lx a).txt []:=by
 have:(Lx a).txt []=[47,a,47,58,32,100,114,111,112]:=rfl
 rw[this];exact⟨by simp,by simp[(Jc h).2.symm]⟩
end
theorem z3:∀{ls:Ap},ls≠[]->(ls.map λl=>l++[10]).flatten=cQ [10] ls++[10]
 |[],h=>absurd rfl h
 |[a],_=>by show(a++[10])++[]=_;rw[dz];rfl
 |a::b::r,_=>by
  show(a++[10])++((b::r).map λl=>l++[10]).flatten=a++[10]++cQ [10] (b::r)++[10];rw[z3 (by simp),c6,c6,c6]
theorem sL:∀{ls:Ap},(∀l∈ls,l.length<=100)->(ls.map λl=>l++[10]).flatten.length<=101*ls.length
 |[],_=>i6 _
 |a::r,h=>by
  have h1:=h a (eg ..);have h2:=sL (ls:=r) λl hl=>h l (ez _ hl);show((a++[10])++(r.map λl=>l++[10]).flatten).length<=101*(r.length+1);rw[cK,cK];show _+1+_<=_;omega
theorem Ly{ls:Ap}(h:∀l∈ls,l.length<=100/\10∉l)(hl:ls.length<=100):cN (n+1) 1 [.str (ls.map λl=>l++[10]).flatten] m=.ok (.tup [.lst (ls.map T.str),.bl true],m):=by
 by_cases h0:ls=[]
 ·subst h0
  rw[w1];rfl
 ·have j:=sL λl hl=>(h l hl).1
  rw[z3 h0]at j ⊢;exact IE n (λl hl=>(h l hl).2) h0 (by omega)
section
variable{d:Bool}{a:Nat}{zs:List Zt}
theorem xN{P:LN->Prop}(hd:P (Lx a))(hz:∀z∈zs,∀k,k<zs.length->P (Bk (z,k))):∀x∈Xs d a zs,P x:=λx hx=>by
 rcases gn.mp hx with h|h
 ·cases d with
  |true=>rw[dG.mp h];exact hd
  |false=>cases h
 ·obtain⟨⟨z,k⟩,hp,rfl⟩:=eU.mp h
  have hp:=List.mem_zipIdx hp;obtain⟨_,h2,h3⟩:=hp;exact hz z (by rw[h3];exact tm _) k (by omega)
theorem Pk:bV (Xs d a zs)=(Gs d a zs).map dI:=by
 have:∀l:List (Zt×Nat),bV (l.map Bk)=(l.map gZ).map dI:=λl=>by
  rw[bV,fQ,fQ];exact Ac λp _=>zX
 unfold Xs Gs;rw[gy,<- this];show Aa LN.val _=_;rw[gy];cases d<;>rfl
theorem Fq:(Xs d a zs).length<=zs.length+1:=by
 unfold Xs;rw[cK,bF,B5];cases d<;>simp<;>omega
theorem Fv(ha:xK a=true)(h:∀z∈zs,Lw z)(hl:zs.length<=10):cN (n+15) 49 [.str (((Xs d a zs).map λx=>x.txt []).map λl=>l++[10]).flatten] m=.ok (.obj 0 [.lst ((Gs d a zs).map dI)],m):=by
 rw[<- Pk];have hX:=Fq (d:=d) (a:=a) (zs:=zs);refine IF n (b:=true) (xN (Pj ha) λz hz k hk=>Ph (h z hz) (show k<=12 by omega)) (by omega) λm=>?_
 have vN:gH (Xs d a zs)=((Xs d a zs).map λx=>x.txt []).map T.str:=by rw[fQ];rfl
 rw[vN];refine Ly (n+13) (λl qX=>?_) (by rw[bF];omega)
 obtain⟨x,hx,rfl⟩:=eU.mp qX;exact xN (P:=λx=>(x.txt []).length<=100/\10∉x.txt []) (zZ ha) (λz hz k hk=>zY (h z hz) (show k<=12 by omega)) x hx
end
section
variable{rows:Ap}{k:Nat}{m:FV}{e e1 e2:Eg}{x1:T}{t:Bool}
theorem Fw(hk:k<rows.length):cN (n+1) 60 [e.df,.lst (rows.map T.str),.int (k:Nat)] m=.ok (.bl (e.ed.iZ rows k),m):=by
 cases e with
 |row i=>
  rw[show(Eg.row i).ed.iZ rows k=decide (((k:Nat):Int)+1=(i:Nat))from decide_eq_decide.mpr ⟨Eq.symm,Eq.symm⟩];exact O5 n
 |like f ws b=>
  have hr:rows[k]?=some rows[k]:=b8 hk;have hg:rows.getD k []=rows[k]:=by rw[fj,hr];rfl
  rw[show(Eg.like f ws b).ed.iZ rows k=Fd f b ws rows[k] by show sy (rows.getD k []) f (fV ws) b=_;rw[hg,Pc]]
  exact IY n hr
theorem UU(l:Fh)(k:Nat):Lu (SS x1 e.df rows l k)=.ok (!e.ed.past k,SS x1 e.df rows l k):=by
 cases e with
 |row i=>exact O8
 |like f ws b=>exact I_
theorem Jh(hL:rows.length<=1000):cN (n+2) 61 [e1.df,e2.df,.lst (rows.map T.str)] m=.ok (.lst ((ib (λk=>e1.ed.iZ rows k) (λk=>e2.ed.iZ rows k) (λk=>e2.ed.past k) false 0 rows.length).map T.bl),m):=sH e1.no e2.no hL (λk hk=>Fw n hk) (λk hk=>Fw n hk) UU
theorem oS{h1 h2 past:Nat->Bool}:∀(d k:Nat)(up:Bool),(ib h1 h2 past up k d).length=d
 |0,_,_=>rfl
 |d+1,k,up=>by rw[ib,bz,oS d]
def tz(rows:Ap)(y:LC)(j:Nat):Bool:=y.iZ rows j (Bh rows y j)
abbrev sM(rows:Ap)(z:Zt):T:=.lst ((dZ rows.length).map λj=>T.bl (tz rows (my z) j))
theorem Ji(d1 d2:Ed):ib (λk=>d1.iZ rows k) (λk=>d2.iZ rows k) (λk=>d2.past k) false 0 rows.length=(dZ rows.length).map λj=>sE rows j d1 d2 (Bh rows (.ft t d1 d2) j):=by
 refine sY λj=>?_;by_cases h:j<rows.length
 ·have:=zS (rows:=rows) t d1 d2 rows.length 0 j h
  rw[pj]at this;rw[dB,vV h];exact this
 ·rw[qQ (by rw[oS];omega),qQ (by rw[bF,jg];omega)]
theorem Pn:aN (setG 1) cX (bo (aI .NotEq) (vF 1) (vF 2)) [none,none,sv (.bl t)] ((ib (λk=>e1.ed.iZ rows k) (λk=>e2.ed.iZ rows k) (λk=>e2.ed.past k) false 0 rows.length).map T.bl) m=.ok ((dZ rows.length).map λj=>T.bl (tz rows (my (t,e1,e2)) j),m):=by
 rw[Ji (t:=t)]
 have:∀l:B1,aN (setG 1) cX (bo (aI .NotEq) (vF 1) (vF 2)) [none,none,sv (.bl t)] ((l.map λj=>sE rows j e1.ed e2.ed (Bh rows (.ft t e1.ed e2.ed) j)).map T.bl) m=.ok (l.map λj=>T.bl (tz rows (my (t,e1,e2)) j),m):=λl=>by
  induction l with
  |nil=>rfl
  |cons j l ih=>
   refine VH (b2:=[none,sv (.bl (sE rows j e1.ed e2.ed (Bh rows (.ft t e1.ed e2.ed) j))),sv (.bl t)]) rfl (aR rfl rfl ?_) ih;show some (T.bl (!(sE rows j e1.ed e2.ed (Bh rows (.ft t e1.ed e2.ed) j) == t)))=some (T.bl (LC.iZ rows j (Bh rows (.ft t e1.ed e2.ed) j) (.ft t e1.ed e2.ed)));cases t with
   |true=>show _=some (T.bl (!sE rows j e1.ed e2.ed _));cases sE rows j e1.ed e2.ed (Bh rows (.ft true e1.ed e2.ed) j)<;>rfl
   |false=>show _=some (T.bl (sE rows j e1.ed e2.ed _));cases sE rows j e1.ed e2.ed (Bh rows (.ft false e1.ed e2.ed) j)<;>rfl
 exact this _
end
section
variable{rows:Ap}{d:Bool}{a:Nat}{zs:List Zt}
theorem YY(ys:List LC)(k:Nat):cH rows k ys 0 (Ja rows ys k)=ys.map λy=>tz rows y k:=by
 refine sY λj=>?_;by_cases h:j<ys.length
 ·rw[O9 ys j k h,dB,b8 h];rfl
 ·rw[qQ (by rw[jA];omega),qQ (by rw[bF];omega)]
theorem YZ(i:Int)(b:Bool):km (qH i b)=[]:=rfl
theorem UW(t:T):km (iu t)=[t]:=rfl
theorem UY(i:Int):km (fL i)=[]:=rfl
theorem Y0(i:Int):km (ki i)=[]:=rfl
theorem Y3:km kg=[]:=rfl
theorem Y4(i:Int):km (lC i)=[]:=rfl
theorem Y5:km pW=[]:=rfl
def oU(rows:Ap)(k:Nat)(ps:List (Zt×Nat)):FK:=ps.flatMap λp=>if tz rows (my p.1) k then[.str (ee p.2)]else[]
theorem xO(h:T)(tk:Int)(k:Nat):∀(ps:List (Zt×Nat))(i:Nat),(h_ h tk i ((ps.map gZ).zip (ps.map λp=>tz rows (my p.1) k))).flatMap km=oU rows k ps++[h]
 |[],i=>by
  show([iu h]++[kg]++[fL tk]).flatMap km=_;rw[iD,iD,mJ,mJ,mJ,UW,Y3,UY];rfl
 |p::ps,i=>by
  have ih:=xO h tk k ps (i+1);rw[cU,cU,jh,h_,show(gZ p).2.vA=false from rfl,B_,if_neg bZ,iD,iD,ih,mJ,YZ];show([]++[]++(if tz rows (my p.1) k=true then[iu (.str (ee p.2))]else[]).flatMap km)++(oU rows k ps++[h])=((if tz rows (my p.1) k then[T.str (ee p.2)]else[])++oU rows k ps)++[h]
  cases tz rows (my p.1) k
  ·rfl
  ·rw[if_pos rfl,if_pos rfl,mJ,UW];rfl
def dr(rows:Ap)(d:Bool)(a:Nat)(k:Nat):Bool:=d&&tz rows (Jd a) k
def Fx(rows:Ap)(d:Bool)(a:Nat)(zs:List Zt)(k:Nat)(x:B1):FK:=if dr rows d a k then[]else oU rows k zs.zipIdx++[.str x]
theorem Po(k:Nat)(i:Int)(x:B1):(kU rows (Gs d a zs) (Ys d a zs) (Ja rows (Ys d a zs) k) k i x).flatMap km=Fx rows d a zs k x:=by
 unfold kU;rw[YY,iD,mJ,Y0];have e:(zs.map my).map (λy=>tz rows y k)=zs.zipIdx.map λp=>tz rows (my p.1) k:=by
  have:zs.zipIdx.map (λp=>tz rows (my p.1) k)=(zs.zipIdx.map Prod.fst).map λz=>tz rows (my z) k:=by rw[fQ];rfl
  rw[this,JV,fQ];rfl
 show[]++[]++(h_ _ _ 0 ((Gs d a zs).zip ((Ys d a zs).map λy=>tz rows y k))).flatMap km=_;unfold Fx dr;cases d with
 |false=>
  show(h_ _ _ 0 (([]++zs.zipIdx.map gZ).zip (([]++zs.map my).map λy=>tz rows y k))).flatMap km=_;rw[o9,o9,e,xO];rfl
 |true=>
  show(h_ _ _ 0 ((VP a::zs.zipIdx.map gZ).zip ((Jd a::zs.map my).map λy=>tz rows y k))).flatMap km=_;rw[cU,e,jh,h_,Ae];cases h:tz rows (Jd a) k with
  |true=>rfl
  |false=>
   rw[yh,if_neg bZ,if_neg bZ,if_neg bZ,dz,iD,xO];rfl
def k6(rows:Ap)(d:Bool)(a:Nat)(zs:List Zt):Nat->Ap->FK
 |_,[]=>[]
 |k,x::r=>Fx rows d a zs k x++k6 rows d a zs (k+1) r
theorem Fy:∀(r:Ap)(k:Nat),(kW rows (Gs d a zs) (Ys d a zs) (Ja rows (Ys d a zs) k) k r).flatMap km=k6 rows d a zs k r
 |[],_=>rfl
 |x::r,k=>by
  rw[kW,iD,Po,k6];exact congrArg _ (Fy r (k+1))
theorem Pp:(kX rows (Gs d a zs) (Ys d a zs)).flatMap km=k6 rows d a zs 0 rows:=by
 unfold kX
 have:=Fy (rows:=rows) (d:=d) (a:=a) (zs:=zs) rows 0
 rw[iD,iD,iD,mJ,mJ,mJ,UY,Y4,Y5];show([]++[]++(kW _ _ _ (Ja rows (Ys d a zs) 0) 0 rows).flatMap km++([]++[])++([]++[]))=_;rw[this];simp
def Bl:T->FK
 |.tup (.str nm::ys)=>if nm=[116,97,107,101]then[.tup (.str nm::ys)]else[]
 |_=>[]
theorem Fz(h:T)(tk:Int):∀(z:List ((T×Dw)×Bool))(i:Nat),(h_ h tk i z).flatMap Bl=[]
 |[],i=>rfl
 |(q,b)::z,i=>by
  have ih:=Fz h tk z (i+1);have e:(if b then q.2.says tk else[]).flatMap Bl=[]:=by
   cases b with
   |false=>rfl
   |true=>cases hq:q.2<;>rfl
  rw[h_,iD,iD,e];show[]++[]++[]++(if _ then[]else _).flatMap Bl=[]
  split
  ·rfl
  ·rw[ih];rfl
theorem FA{l:List (T×Dw)}{ys:List LC}:∀(r:Ap)(g:Int->Bool)(k:Nat),(kW rows l ys g k r).flatMap Bl=(kr k r.length).map λj=>ki ((j:Nat)+1)
 |[],_,_=>rfl
 |x::r,g,k=>by
  rw[kW,iD,FA r _ (k+1),bz,s_,cU];unfold kU;rw[iD,Fz];rfl
theorem Pq{l:List (T×Dw)}{ys:List LC}:(kX rows l ys).flatMap Bl=(kr 0 rows.length).map λj=>ki ((j:Nat)+1):=by
 unfold kX;rw[iD,iD,iD,FA];show[]++[]++_++([]++[])++([]++[])=_;simp
end
theorem z4:∀(log:FK)(m:FV),(∀e∈log,Ga e)->aN (setG 1) (bP (oE (oI (vF 1) (cI 0)) (cS [116,97,107,101]))) (vF 1) [none,none] log m=.ok (log.flatMap Bl,m)
 |[],_,_=>rfl
 |e::log,m,h=>by
  obtain⟨nm,ys,rfl,_,_⟩:=h e (eg ..);have ih:=z4 log m λe he=>h e (ez _ he);have c:bP (oE (oI (vF 1) (cI 0)) (cS [116,97,107,101])) ⟨[none,sv (.tup (.str nm::ys))],m⟩=.ok (decide (nm=[116,97,107,101]),⟨[none,sv (.tup (.str nm::ys))],m⟩):=mf (aR (aR (t:=.tup (.str nm::ys)) (u:=.int 0) rfl rfl (by
   show atT (T.str nm::ys) (((0:Nat)):Int)=_;rw[eX (by simp)];rfl)) rfl (eqS _ _))
  rw[aN];refine Eq.trans (bj _ _) ?_;show Res.bind (bP _ ⟨[none,sv (.tup (.str nm::ys))],m⟩) _=_;rw[c];refine Eq.trans (bj _ _) ?_;rw[mJ];by_cases hn:nm=[116,97,107,101]
  ·dsimp only
   rw[decide_eq_true hn,if_pos rfl];refine Eq.trans (bj _ _) ?_;show Res.bind (aN _ _ _ _ log m) _=_;rw[ih];show Res.ok (T.tup (.str nm::ys)::log.flatMap Bl,m)=Res.ok ((if nm=[116,97,107,101]then[T.tup (.str nm::ys)]else[])++log.flatMap Bl,m)
   rw[if_pos hn];rfl
  ·dsimp only
   rw[decide_eq_false hn,if_neg bZ,ih];show _=Res.ok ((if nm=[116,97,107,101]then[T.tup (.str nm::ys)]else[])++log.flatMap Bl,m)
   rw[if_neg hn];rfl
section
variable{rows:Ap}{k a:Nat}{m:FV}{d:Bool}{all:List Zt}
theorem Lz(hk:k<rows.length)(f:Nat->T):gS (.lst ((dZ rows.length).map f)) (.int (k:Nat))=some (f k):=by
 show atT ((dZ rows.length).map f) ((k:Nat):Int)=_;rw[eX (by rw[bF,jg];exact hk),dB,vV hk];rfl
theorem FF(hk:k<rows.length):∀(zs:List Zt)(j:Nat),all.drop j=zs->j+zs.length<=12->aN (setG 1) (D.tB (oI (oI (vF 3) (vF 1)) (vF 2))) (oA (cS [108,105,110,101,32]) (bg strN (k1 (vF 1)))) [none,none,sv (.int (k:Nat)),sv (.lst (all.map (sM rows)))] ((kr j zs.length).map λq=>T.int (q:Nat)) m=.ok (oU rows k (zs.zipIdx j),m)
 |[],_,_,_=>rfl
 |z::zs,j,hd,hj=>by
  rw[bz]at hj;have SI:j<all.length:=by
   have:=congrArg z8 hd
   rw[o8,bz]at this;omega
  rw[ph SI]at hd;injection hd with hz hd
  have ih:=FF hk zs (j+1) hd (by omega)
  have e1:gS (.lst (all.map (sM rows))) (.int (j:Nat))=some (sM rows z):=by
   show atT (all.map (sM rows)) ((j:Nat):Int)=_;rw[eX (by rw[bF];exact SI),dB,b8 SI,hz];rfl
  obtain⟨s,hs⟩:∃s:S,s=⟨[none,sv (.int (j:Nat)),sv (.int (k:Nat)),sv (.lst (all.map (sM rows)))],m⟩:=⟨_,rfl⟩;have v1:vF 1 s=.ok (.int (j:Nat),s):=by rw[hs];rfl
  have v2:vF 2 s=.ok (.int (k:Nat),s):=by rw[hs];rfl
  have v3:vF 3 s=.ok (.lst (all.map (sM rows)),s):=by rw[hs];rfl
  have c:D.tB (oI (oI (vF 3) (vF 1)) (vF 2)) s=.ok (tz rows (my z) k,s):=Bt (pE (pE v3 v1 e1) v2 (Lz hk _));have h2:=(ic j).1;have e2:oA (cS [108,105,110,101,32]) (bg strN (k1 (vF 1))) s=.ok (.str (ee j),s):=qK rfl (dY (ts:=[.int (j:Nat)]) (aw v1 rfl) (sI (by omega))) (by show 5+_<=_;omega)
  rw[bz,s_,cU,aN];refine Eq.trans (bj _ _) ?_;show Res.bind (D.tB _ ⟨[none,sv (.int (j:Nat)),sv (.int (k:Nat)),sv (.lst (all.map (sM rows)))],m⟩) _=_;rw[<- hs,c];refine Eq.trans (bj _ _) ?_;show _=Res.ok ((if tz rows (my z) k then[T.str (ee j)]else[])++oU rows k (zs.zipIdx (j+1)),m)
  have hm:s.m=m:=by rw[hs]
  cases tz rows (my z) k with
  |true=>
   dsimp only;rw[if_pos rfl,e2];refine Eq.trans (bj _ _) ?_;show Res.bind (aN _ _ _ _ _ s.m) _=_;rw[hm,ih];rfl
  |false=>
   dsimp only;rw[if_neg bZ,hm,ih];rfl
theorem vO:∀ps:List (Zt×Nat),(oU rows k ps).length<=ps.length
 |[]=>cC _
 |p::ps=>by
  have:=vO ps
  show((if tz rows (my p.1) k then[T.str (ee p.2)]else[])++oU rows k ps).length<=ps.length+1
  rw[cK];split<;>simp<;>omega
theorem Jj(L:Nat)(h:L<=1000):iz [.int (L:Nat)]=some ((kr 0 L).map λq=>T.int (q:Nat)):=by
 have:iz [.int (L:Nat)]=some (iT 0 (((L:Nat):Int)).toNat):=jd ⟨by omega,by omega⟩
 rw[this,qS];unfold iT;rw[B4];exact congrArg some (Ac λq _=>by rw[yi])
end
section
variable{rows:Ap}{d:Bool}{a:Nat}{zs:List Zt}{y0 y1 y2 y4 y5 y8 Ge Gg Gh Gi Gj Gk:Option C}
abbrev dS(rows:Ap)(d:Bool)(a:Nat)(y0 y1 y2 y4 y5 y8 Ge Gg Gh Gi Gj Gk x7:Option C)(df:FK)(Bu:Option C):S:=⟨[y0,y1,y2,sv (.lst (rows.map T.str)),y4,y5,sv (.lst ((dZ rows.length).map λk=>T.bl (dr rows d a k))),x7,y8,sv (.lst df),Bu,Ge,Gg,Gh,Gi,Gj,Gk],[]⟩
theorem xP(hz:zs.length<=12)(hL:rows.length<=1000):∀(r:Ap)(k:Nat)(df:FK)(x7 Bu:Option C),rows.drop k=r->(x7=some (.ol (zs.map (sM rows)))\/x7=sv (.lst (zs.map (sM rows))))->df.length+20*r.length<=100000->W (bU (setG 10) (aU (cW (D.tB (oI (vF 6) (vF 10)))) (aH 9 (oA (oA (vF 9) (cY (bB (ql iz (k1 (lQ 7))) 2 [10,7] (setG 1) (D.tB (oI (oI (vF 3) (vF 1)) (vF 2))) (oA (cS [108,105,110,101,32]) (bg strN (k1 (vF 1))))))) (bg jQ (k1 (oI (vF 3) (vF 10)))))) aE) ((kr k r.length).map λq=>T.int (q:Nat)) (dS rows d a y0 y1 y2 y4 y5 y8 Ge Gg Gh Gi Gj Gk x7 df Bu)) λp=>p.1=.nx/\∃x7 Bu,p.2=dS rows d a y0 y1 y2 y4 y5 y8 Ge Gg Gh Gi Gj Gk x7 (df++k6 rows d a zs k r) Bu
 |[],k,df,x7,Bu,_,_,_=>⟨_,rfl,rfl,x7,Bu,by rw[k6,dz]⟩
 |x::r,k,df,x7,Bu,hd,hx,hl=>by
  rw[bz]at hl;have Lm:k<rows.length:=by
   have:=congrArg z8 hd
   rw[o8,bz]at this;omega
  rw[ph Lm]at hd;injection hd with hxx hd
  have ex:gS (.lst (rows.map T.str)) (.int (k:Nat))=some (.str x):=by
   show atT (rows.map T.str) ((k:Nat):Int)=_;rw[eX (by rw[bF];exact Lm),dB,b8 Lm,hxx];rfl
  rw[bz,s_,cU];refine qE rfl ?_;show W (aU _ _ _ (dS rows d a y0 y1 y2 y4 y5 y8 Ge Gg Gh Gi Gj Gk x7 df (sv (.int (k:Nat))))) _;have c:D.tB (oI (vF 6) (vF 10)) (dS rows d a y0 y1 y2 y4 y5 y8 Ge Gg Gh Gi Gj Gk x7 df (sv (.int (k:Nat))))=.ok (dr rows d a k,dS rows d a y0 y1 y2 y4 y5 y8 Ge Gg Gh Gi Gj Gk x7 df (sv (.int (k:Nat)))):=Bt (aR (t:=.lst ((dZ rows.length).map λk=>T.bl (dr rows d a k))) (u:=.int (k:Nat)) rfl rfl (Lz Lm _));cases hdr:dr rows d a k with
  |true=>
   rw[hdr]at c;refine fJ (u7 c) ⟨_,rfl,rfl,?_⟩;have e:k6 rows d a zs k (x::r)=k6 rows d a zs (k+1) r:=by rw[k6,Fx,hdr];rfl
   rw[e];exact xP hz hL r (k+1) df x7 _ hd hx (by omega)
  |false=>
   rw[hdr]at c;have e:df++k6 rows d a zs k (x::r)=df++oU rows k zs.zipIdx++[.str x]++k6 rows d a zs (k+1) r:=by rw[k6,Fx,hdr];simp
   have hdl:=vO (rows:=rows) (k:=k) zs.zipIdx;rw[B5]at hdl;have g:=xP hz hL r (k+1) (df++oU rows k zs.zipIdx++[.str x]) (sv (.lst (zs.map (sM rows)))) (sv (.int (k:Nat))) hd (.inr rfl) (by rw[cK,cK];show _+_+1+_<=_;omega)
   rw[<- e]at g;have hc:cY (bB (ql iz (k1 (lQ 7))) 2 [10,7] (setG 1) (D.tB (oI (oI (vF 3) (vF 1)) (vF 2))) (oA (cS [108,105,110,101,32]) (bg strN (k1 (vF 1))))) (dS rows d a y0 y1 y2 y4 y5 y8 Ge Gg Gh Gi Gj Gk x7 df (sv (.int (k:Nat))))=.ok (.lst (oU rows k zs.zipIdx),dS rows d a y0 y1 y2 y4 y5 y8 Ge Gg Gh Gi Gj Gk (sv (.lst (zs.map (sM rows)))) df (sv (.int (k:Nat)))):=by
    have Hf:∀s:S,lQ 7 s=.ok (.int ((zs.map (sM rows)).length:Nat),s)->ql iz (k1 (lQ 7)) s=.ok ((kr 0 zs.length).map λq=>T.int (q:Nat),s):=λs h=>xn (ts:=[.int (zs.length:Nat)]) (aw (by rw[h,bF]) rfl) (Jj _ (by omega))
    rcases hx with rfl|rfl
    ·exact kc (lu (Hf _ rfl) (by rw[bF,yb];omega) (FF Lm zs 0 mH (by omega)))
    ·exact kc (lu (Hf _ rfl) (by rw[bF,yb];omega) (FF Lm zs 0 mH (by omega)))
   refine nW (Uo c) (W.of (gF (aR (aR (t:=.lst df) rfl hc (by rw[add_l];exact jd (by omega))) (dY (ts:=[.str x]) (aw (aR (t:=.lst (rows.map T.str)) (u:=.int (k:Nat)) rfl rfl ex) rfl) rfl) (by rw[add_l];exact jd (by rw[cK];show _+1<=_;omega)))) ⟨rfl,g⟩)
end
def LF(e:T):Prop:=∃nm ys,e=.tup (.str nm::ys)/\∀y∈ys,a_ y=true
theorem Jk{nm:B1}{ys:FK}(h2:∀y∈ys,a_ y=true):LF (.tup (.str nm::ys)):=⟨nm,ys,rfl,h2⟩
theorem P5{t:T}(h:a_ t=true):∀y∈[t],a_ y=true:=λy hy=>by rw[dG.mp hy];exact h
theorem Pu{rows:Ap}{l:List (T×Dw)}{ys:List LC}(hw:∀q∈l,∀x,q.2=.say x->a_ x=true):∀e∈kX rows l ys,LF e:=zP ⟨λ_=>Jk (P5 rfl),λ_=>Jk (P5 rfl),λi b=>Jk λy hy=>by
 rcases cu.mp hy with h|h
 ·rw[h];rfl
 ·rw[dG.mp h];rfl,λq hq x hx=>Jk (P5 (hw q hq x hx)),λ_=>Jk (P5 rfl),Jk (λ_ z=>nomatch z),λ_=>Jk (P5 rfl),Jk (λ_ z=>nomatch z)⟩
theorem fh{p:T->T->Bool}:∀{ts:FK},(∀t∈ts,p t t=true)->all2 p ts ts=true
 |[],_=>rfl
 |t::ts,h=>by
  show(p t t&&all2 p ts ts)=true;rw[h t (eg ..),fh λu hu=>h u (ez _ hu)];rfl
theorem mz{n:Nat}{t:T}(h:a_ t=true):shape n t t=true:=by
 cases t<;>first|(cases h;done)|(cases n<;>rfl)
theorem LA{n:Nat}{e:T}(h:LF e):shape (n+1) e e=true:=by
 obtain⟨nm,ys,rfl,h⟩:=h;show(shape n (.str nm) (.str nm)&&all2 (shape n) ys ys)=true;rw[mz rfl,fh λt ht=>mz (h t ht)];rfl
theorem Pw{n:Nat}{log:FK}(h:∀e∈log,LF e):shape (n+2) (.lst log) (.lst log)=true:=fh λt ht=>LA (h t ht)
theorem Jl{log:FK}(h:∀e∈log,LF e):∀t∈log.flatMap km,a_ t=true:=λt ht=>by
 obtain⟨e,he,ht⟩:=JR.mp ht;obtain⟨nm,ys,rfl,h2⟩:=h e he;have ht:t∈(if nm=[103,105,118,101]then ys.take 1 else[]):=ht
 split at ht
 ·exact h2 t (JS ht)
 ·cases ht
theorem Px{t:T}(h:shape 5 t t=true):aI .NotEq t t=some (.bl false):=by
 have:aI .NotEq t t=WW t t:=by cases t<;>rfl
 rw[this];show gd (shape 5 t t=true) (T.bl (!eqT t t))=_;rw[ny];exact jd h
theorem FH{t:T}(h:shape 5 t t=true):aI .Eq t t=some (.bl true):=by
 have:aI .Eq t t=WU t t:=by cases t<;>rfl
 rw[this];show gd (shape 5 t t=true) (T.bl (eqT t t))=_;rw[ny];exact jd h
theorem UZ{rows:Ap}{s:S}(h:vF 3 s=.ok (.lst (rows.map T.str),s))(hr:∀r∈rows,VO r)(hl:rows.length<=100):kL joinM (cS []) (k1 (cY (bB (nz (vF 3)) 2 [] (setG 1) cX (oA (vF 1) (cS [10]))))) s=.ok (.str (rows.map λl=>l++[10]).flatten,s):=by
 have j:=sL λl hl=>(hr l hl).1;refine PY (l:=[]) (ts:=[.lst ((rows.map λl=>l++[10]).map T.str)]) rfl (aw (Ur (Uq h rfl) (by rw[bF];omega) rfl ?_) rfl) (join_eq (by omega))
 have:∀l:Ap,(∀r∈l,r.length<=100)->aN (setG 1) cX (oA (vF 1) (cS [10])) [none,none] (l.map T.str) s.m=.ok ((l.map λl=>l++[10]).map T.str,s.m):=λl=>by
  induction l with
  |nil=>exact λ_=>rfl
  |cons x l ih=>exact λh=>VH (b2:=[none,sv (.str x)]) rfl (qK (x:=x) rfl rfl (by have:=h x (eg ..);show _+1<=_;omega)) (ih λr hr=>h r (ez _ hr))
 exact this rows λr h=>(hr r h).1
def cellAt(ns:Dx)(k:Nat):Int:=ns.getD k 0
theorem Jm{ns:Dx}{k:Nat}:cN (n+1) 53 [.scr ns,.int (k:Nat)] m=.ok (.int (cellAt ns k),m):=by
 rw[w53];refine sEq rfl rfl rfl ?_;by_cases h:k<ns.length
 ·refine bY (mf (pE (t:=.int (k:Nat)) (u:=.int (ns.length:Nat)) rfl rfl (by rw[EI,decide_eq_true (by omega)]))) (bR (pE (t:=.scr ns) (u:=.int (k:Nat)) rfl rfl ?_) rfl)
  show(atT ns (k:Int)).map T.int=_;rw[eX h];unfold cellAt;rw[fj,b8 h];rfl
 ·refine bN (mf (pE (t:=.int (k:Nat)) (u:=.int (ns.length:Nat)) rfl rfl (by rw[EI,decide_eq_false (by omega)]))) (bR rfl ?_)
  unfold cellAt;rw[fj,qQ (by omega)];rfl
theorem so1{s:S}{a:FE}{i:Int}(h:a s=.ok (.int i,s)):kG a s=.ok (some i,s):=by
 unfold kG;rw[h];rfl
theorem z5{α:Type}(l:List α)(a j:Nat):bA l (some ((a:Nat):Int)) (some (((a+j:Nat)):Int))=(l.drop a).take j:=by
 unfold bA;rw[e_,e_];by_cases h:a<=l.length
 ·rw[Ad h,JO,o8];omega
 ·rw[B7 (by omega),B7 (by omega),i7,ya (show l.length<=a by omega)];simp
abbrev lS(ns:Dx)(l:Fs):S:=⟨sv (.scr ns)::l,[]⟩
section
variable{d:Bool}{a:Nat}{zs:List Zt}{z:Zt}
def TX(d:Bool)(a:Nat)(zs:List Zt):B1:=(((Xs d a zs).map λx=>x.txt []).map λl=>l++[10]).flatten
theorem Jo:Xs d a (zs++[z])=Xs d a zs++[Bk (z,zs.length)]:=by
 unfold Xs;rw[JW,gy,c6,pj];rfl
theorem Jp:Gs d a (zs++[z])=Gs d a zs++[gZ (z,zs.length)]:=by
 unfold Gs;rw[JW,gy,c6,pj];rfl
theorem Jq:TX d a (zs++[z])=TX d a zs++Je (z,zs.length):=by
 unfold TX;rw[Jo,gy,gy,B0,<- zW];show _++((Bk (z,zs.length)).txt []++[10]++[])=_;rw[dz]
theorem Py:TX d a []=if d then YX a else[]:=by
 cases d with
 |true=>show((Lx a).txt []++[10])++[]=_;rw[dz,Jf];rfl
 |false=>rfl
theorem FI(ha:xK a=true)(h:∀z∈zs,Lw z)(hl:zs.length<=10):(TX d a zs).length<=2000:=by
 have hX:=Fq (d:=d) (a:=a) (zs:=zs);have j:=sL (ls:=(Xs d a zs).map λx=>x.txt []) λl qX=>by
  obtain⟨x,hx,rfl⟩:=eU.mp qX;exact xN (P:=λx=>(x.txt []).length<=100) (zZ ha).1 (λz hz k hk=>(zY (h z hz) (show k<=12 by omega)).1) x hx
 rw[bF]at j;unfold TX;omega
theorem xQ{q:T×Dw}(h:q∈Gs d a zs):q=VP a\/∃p,q=gZ p:=by
 rcases gn.mp h with h|h
 ·cases d with
  |true=>exact .inl (dG.mp h)
  |false=>cases h
 ·obtain⟨p,_,rfl⟩:=eU.mp h
  exact .inr ⟨p,rfl⟩
theorem xR:(Gs d a zs).length<=zs.length+1:=by
 unfold Gs;rw[cK,bF,B5];cases d<;>simp<;>omega
theorem Pz:(Gs d a zs).map (·.1)=(Ys d a zs).map LC.val:=by
 have e:(zs.zipIdx.map gZ).map (·.1)=(zs.map my).map LC.val:=by
  have:(zs.zipIdx.map gZ).map (·.1)=(zs.zipIdx.map Prod.fst).map λz=>(my z).val:=by rw[fQ,fQ];rfl
  rw[this,JV,fQ];rfl
 unfold Gs Ys;rw[gy,gy,e];cases d<;>rfl
theorem Eg.U0{e:Eg}(h:e.ok):e.ed.ok:=by
 cases e with
 |row i=>trivial
 |like f ws b=>exact⟨sJ h.2,by rw[bF];have:=h.1;omega⟩
theorem U1(ha:xK a=true)(h:∀z∈zs,Lw z):∀y∈Ys d a zs,LC.ok y:=λy hy=>by
 rcases gn.mp hy with hy|hy
 ·cases d with
  |true=>
   rw[dG.mp hy];exact⟨sJ λc hc=>by rw[dG.mp hc];exact ha,by show 1<=8;decide⟩
  |false=>cases hy
 ·obtain⟨z,hz,rfl⟩:=eU.mp hy
  exact⟨Eg.U0 (h z hz).1,Eg.U0 (h z hz).2⟩
theorem U3(hl:zs.length<=10):Lj (Gs d a zs):=by
 refine⟨by have:=xR (d:=d) (a:=a) (zs:=zs);omega,λq hq=>?_⟩
 rcases xQ hq with rfl|⟨⟨⟨t,e1,e2⟩,k⟩,rfl⟩
 ·rfl
 ·cases t<;>rfl
theorem U4:∀q∈Gs d a zs,noOwn q.1=true/\noOwn q.2.val=true:=λq hq=>by
 rcases xQ hq with rfl|⟨p,rfl⟩
 ·exact⟨LC.no (Jd a),rfl⟩
 ·exact⟨LC.no _,rfl⟩
theorem z6:∀q∈Gs d a zs,∀x,q.2=.say x->a_ x=true:=λq hq x hx=>by
 rcases xQ hq with rfl|⟨p,rfl⟩
 ·cases hx
 ·cases hx;rfl
end
section
variable{rows:Ap}{a:Nat}
theorem U5(rows:Ap)(a:Nat)(h:rows.length<=1000):dC .Mult (.lst [.bl false]) (.int (rows.length:Nat))=some (.lst ((dZ rows.length).map λk=>T.bl (dr rows false a k))):=by
 refine Eq.trans (show C3 (.lst [.bl false]) (.int (rows.length:Nat))=some (.lst (ck (((rows.length:Nat):Int)).toNat [T.bl false]).flatten)from jd ⟨by omega,by omega,by rw[qS,z_];omega⟩) ?_
 rw[qS,sG];refine congrArg (λl=>some (T.lst l)) ?_;refine sY λj=>?_;by_cases hj:j<rows.length
 ·rw[dB,sW,if_pos hj,dB,vV hj];rfl
 ·rw[qQ (by rw[bF,iC];omega),qQ (by rw[bF,jg];omega)]
theorem FJ(n:Nat):∀l:B1,(∀k∈l,k<rows.length)->aN (setG 1) cX (ao (cN (n+1) 60) [] (k3 (vF 2) (vF 3) (vF 1))) [none,none,sv (vM a).df,sv (.lst (rows.map T.str))] (l.map λq=>T.int (q:Nat)) []=.ok (l.map λk=>T.bl (dr rows true a k),[])
 |[],_=>rfl
 |k::l,h=>by
  have e:=Fw (e:=vM a) (rows:=rows) (m:=[]) n (h k (eg ..));exact VH (b2:=[none,sv (.int (k:Nat)),sv (vM a).df,sv (.lst (rows.map T.str))]) rfl (cE (ts:=[(vM a).df,.lst (rows.map T.str),.int (k:Nat)]) rfl e) (FJ n l λk hk=>h k (ez _ hk))
theorem FN:∀(l:B1)(m:FV),aN (setG 1) cX (bg eV (k2 (cS [116,97,107,101]) (oA (vF 1) (cI 1)))) [none,none] (l.map λq=>T.int (q:Nat)) m=.ok (l.map λj=>ki ((j:Nat)+1),m)
 |[],_=>rfl
 |k::l,m=>VH (b2:=[none,sv (.int (k:Nat))]) rfl rfl (FN l m)
end
section
variable{ns:Dx}
theorem U6{a:FE}{s s1:S}{b:Bool}(h:a s=.ok (.bl b,s1)):D.bP a s=.ok (b,s1):=by unfold D.bP;rw[h];rfl
theorem PB:cN (n+16) 62 [.scr ns] []=.ok (.bl true,[]):=by
 rw[w62];obtain⟨N,hN⟩:∃N,N=cellAt ns 0:=⟨_,rfl⟩;have e0:=Jm (n+14) (ns:=ns) (k:=0) (m:=[]);rw[<- hN]at e0;obtain⟨a,b,c,g,e1⟩:=Fi (n+14) (N/30) [];obtain⟨sg,VQ⟩:∃sg,sg=Gb a b c:=⟨_,rfl⟩;rw[<- VQ]at e1;have hm1:0<=N % 5:=Af _ (by decide)
 have UN:N % 5<5:=Ag _ (by decide)
 obtain⟨cs,hcs⟩:∃cs,cs=bA ns (some 1) (some (1+N % 5)):=⟨_,rfl⟩;have wD:cs.length<=4:=by
  have:=z5 ns 1 (N % 5).toNat
  rw[show(((1+(N % 5).toNat:Nat)):Int)=1+N % 5 by omega]at this
  have this:bA ns (some 1) (some (1+N % 5))=_:=this;rw[hcs,this,vU];omega
 obtain⟨ds,uC⟩:∃ds,ds=bA ns (some 6) (some 30):=⟨_,rfl⟩;have hdl:ds.length<=24:=by
  have this:bA ns (some 6) (some 30)=_:=z5 ns 6 24;rw[uC,this,vU];omega
 refine W.eq (nX rfl (kQ rfl (bS (cE (ts:=[.scr ns,.int 0]) rfl e0) (bS (cE (ts:=[.int (N/30)]) (aw (fd rfl (by decide)) rfl) e1) (OD (Ui (La (W.of (Uq (t:=.lst (ds.map T.int)) (Yp (t:=.scr ns) (x:=some 6) (y:=some 30) rfl rfl rfl (by rw[uC];rfl)) rfl) ⟨by rw[bF];omega,?_⟩))))))))
 refine(Yc (I:=λm=>m=[]) (R:=λt=>∃w,VO w/\t=.str w) (λt ht m hm=>?_) _ rfl).mono λp hp=>?_
 ·obtain⟨ci,_,rfl⟩:=eU.mp ht
  subst hm;obtain⟨w,hw,ew⟩:=Pe (n+14) g ci [];rw[<- VQ]at ew;exact⟨[none,sv (.int ci),sv sg],rfl,W.of (cE (ts:=[.int ci,sg]) rfl ew) ⟨⟨w,hw,rfl⟩,rfl⟩⟩
 obtain⟨us,pm⟩:=p;obtain⟨Y6,huR,Y7⟩:=hp;have Y7:pm=[]:=Y7;subst Y7;obtain⟨rows,vN,VR⟩:=EG (f:=T.str) huR;have Y6:us.length=(ds.map T.int).length:=Y6;have vN:us=rows.map T.str:=vN;subst vN;have hrl:rows.length<=24:=by rw[bF,bF]at Y6;omega
 have hr1:∀row∈rows,row.length<=1000:=λr hr=>by have:=(VR r hr).1;omega
 have ga:=g.ga;have bO:bD [.lst (rows.map T.str)]=some (.int (rows.length:Nat)):=by
  show some (T.int ((rows.map T.str).length:Nat))=_;rw[bF]
 refine bS rfl (dm (W.of rfl ⟨rfl,bS (pE (t:=.lst [.bl false]) (u:=.int (rows.length:Nat)) rfl (dY (ts:=[.lst (rows.map T.str)]) rfl bO) (U5 rows a (by omega))) ?_⟩))
 suffices fin:∀(d:Bool)(PD:Option C),WB (af (iQ 7 (lM bq)) _) (lS ns [sv (.int N),sv sg,sv (.lst (rows.map T.str)),sv (.str (TX d a [])),some (.ol ((Gs d a []).map dI)),sv (.lst ((dZ rows.length).map λk=>T.bl (dr rows d a k))),none,none,none,none,none,none,PD,none,none,none]) _ by
  refine dm ?_;by_cases hd:N/5 % 3=1
  ·have ht:∀m,cN (n+15) 57 [(vM a).df] m=.ok (.str (vM a).txt,m):=λm=>oO (e:=vM a) (n+14) ⟨by show 1<=3;decide,λc hc=>by rw[dG.mp hc];exact ga⟩
   have hp:∀m,cN (n+15) 58 [(vM a).df] m=.ok ((Jd a).val,m):=λm=>oQ (e:=vM a) (n+7) ⟨by show 1<=3;decide,λc hc=>by rw[dG.mp hc];exact ga⟩
   refine nW (mf (pE (md (fd rfl (by decide)) (by decide)) rfl (by rw[r_,decide_eq_true hd]))) (wS (t:=(vM a).df) (by rw[VQ];rfl) (wS (qK (cE (ts:=[(vM a).df]) rfl (ht _)) rfl (by show 3+7<=_;decide)) (wA (ts:=[]) (t:=dI (VP a)) rfl (kR (ts:=[(Jd a).val,.obj 13 []]) (aw (cE (ts:=[(vM a).df]) rfl (hp _)) rfl) rfl) (by decide) (W.of (gF (Ur (xn (ts:=[.int (rows.length:Nat)]) (aw (dY (ts:=[.lst (rows.map T.str)]) rfl bO) rfl) (Jj _ (by omega))) (by rw[bF,yb];omega) rfl (FJ (n+14) (kr 0 rows.length) λk hk=>by have:=List.mem_range'.mp hk;omega))) ⟨rfl,?_⟩))))
   have:=fin true (sv (vM a).df)
   rw[Py,B4]at this;exact this
  ·refine fJ (mf (pE (md (fd rfl (by decide)) (by decide)) rfl (by rw[r_,decide_eq_false hd]))) ⟨_,rfl,rfl,?_⟩
   exact fin false none
 intro d PD;obtain⟨dp,hdp⟩:∃dp:T,dp=.lst ((dZ rows.length).map λk=>T.bl (dr rows d a k)):=⟨_,rfl⟩;rw[<- hdp];refine dm (W.of rfl ⟨rfl,dm (gG (W.of (Uq (t:=.lst (cs.map T.int)) (Yp (t:=.scr ns) (x:=some 1) (y:=some (1+N % 5)) rfl rfl (so1 (ad rfl (md rfl (by decide)))) (by rw[hcs];rfl)) rfl) ?_))⟩)
 refine(Fj (N:=4) (I:=λk s=>∃zs u8 PF PH PJ,s=lS ns [sv (.int N),sv sg,sv (.lst (rows.map T.str)),sv (.str (TX d a zs)),some (.ol ((Gs d a zs).map dI)),sv dp,some (.ol (zs.map (sM rows))),u8,none,none,none,none,PD,PF,PH,PJ]/\zs.length=k/\∀z∈zs,Lw z) (i:=0) (λt ht k s hk hI=>?_) (by show 0+(cs.map T.int).length<=4;rw[bF];omega) ⟨[],none,none,none,none,rfl,rfl,λ_ z=>nomatch z⟩).mono λp hp=>⟨hp.1,?_⟩
 ·obtain⟨zs,u8,PF,PH,PJ,rfl,Nt,hzs⟩:=hI
  obtain⟨ci,_,rfl⟩:=eU.mp ht;obtain⟨x1,VS,ex1⟩:=zV (n+14) g (ci*69623 % 1000003) [];obtain⟨x2,VT,ex2⟩:=zV (n+14) g ((ci*39373 % 999983)^2 % 999979) [];rw[<- VQ]at ex1 ex2;have q1:0<=ci*39373 % 999983:=Af _ (by decide)
  have q2:ci*39373 % 999983<999983:=Ag _ (by decide)
  obtain⟨t,ht⟩:∃t,t=decide (ci % 4=3):=⟨_,rfl⟩;have hT:=FI (d:=d) ga hzs (by omega)
  have l1:=Eg.len VS;have l2:=Eg.len VT;have l3:=(ic zs.length).1;have l4:(Gd t).length<=4:=by cases t<;>decide
  have pk:∀s:S,s.r[7]?=some (some (.ol (zs.map (sM rows))))->lQ 7 s=.ok (.int (zs.length:Nat),s):=λs h=>by unfold lQ;rw[h];show Res.ok (T.int ((zs.map (sM rows)).length:Nat),s)=_;rw[bF]
  have hz1:Lw (t,x1,x2):=⟨VS,VT⟩;have hll:=Fo (n+6) (m:=[]) (t:=t) (k:=zs.length) VS VT (by omega)
  have Qq:=Jh (n+13) (m:=[]) (rows:=rows) (e1:=x1) (e2:=x2) (by omega)
  have hcg:=Pn (m:=[]) (rows:=rows) (e1:=x1) (e2:=x2) (t:=t);have hGl:=xR (d:=d) (a:=a) (zs:=zs);have eT:TX d a zs++Gd t++[102,114,111,109,32]++x1.txt++[32,116,111,32]++x2.txt++[58,32,115,97,121,32,34,108,105,110,101,32]++dg zs.length++[34,10]=TX d a (zs++[(t,x1,x2)]):=by rw[Jq];simp[Je]
  refine⟨_,rfl,wS (cE (ts:=[.int (ci*69623 % 1000003),sg]) (aw (md (ml rfl (by decide)) (by decide)) rfl) ex1) (wS (cE (ts:=[.int ((ci*39373 % 999983)^2 % 999979),sg]) (aw (md (pE (t:=.int (ci*39373 % 999983)) (u:=.int 2) (md (ml rfl (by decide)) (by decide)) rfl (show MO (.int (ci*39373 % 999983)) (.int 2)=_ from jd ⟨by decide,by decide,by omega⟩)) (by decide)) rfl) ex2) (wS (t:=.bl t) (by rw[ht];exact pE (md rfl (by decide)) rfl (r_ _ _)) ?_))⟩
  refine wS (qK (qK (qK (qK (qK (x:=TX d a zs) (y:=Gd t) rfl (by cases t<;>rfl) ?_) (y:=[102,114,111,109,32]) rfl ?_) (cE (ts:=[x1.df]) rfl (oO (n+14) VS)) ?_) (y:=[32,116,111,32]) rfl ?_) (cE (ts:=[x2.df]) rfl (oO (n+14) VT)) ?_) ?_
  any_goals ((try simp only[cK,bz,qO]);omega)
  refine wS (qK (qK (qK rfl (y:=[58,32,115,97,121,32,34,108,105,110,101,32]) rfl ?_) (dY (ts:=[.int (zs.length:Nat)]) (aw (pk _ rfl) rfl) (sI (by omega))) ?_) (y:=[34,10]) rfl ?_) ?_
  any_goals ((try simp only[cK,bz,qO]);omega)
  refine wA (ts:=(Gs d a zs).map dI) rfl (cE (ts:=[x1.df,x2.df,.bl t,.int (zs.length:Nat)]) (aw rfl (aw rfl (aw rfl (aw (pk _ rfl) rfl)))) hll) (by rw[bF];omega) (W.of (xm (i:=7) (t:=sM rows (t,x1,x2)) (HQ:=zs.map (sM rows)) (ts:=zs.map (sM rows)) rfl (Ur (Uq (cE (ts:=[x1.df,x2.df,.lst (rows.map T.str)]) rfl Qq) rfl) (by rw[bF,oS];omega) rfl hcg) rfl (by rw[bF];omega)) ⟨rfl,zs++[(t,x1,x2)],sv (.int ci),sv x1.df,sv x2.df,sv (.bl t),?_,by rw[cK,Nt];rfl,λz hz=>?_⟩)
  ·rw[<- eT,Jp,gy,gy];rfl
  ·rcases gn.mp hz with h|h
   ·exact hzs z h
   ·rw[dG.mp h];exact hz1
 obtain⟨_,zs,u8,PF,PH,PJ,e,Nt,hz⟩:=hp;have Nt:zs.length=0+(cs.map T.int).length:=Nt;rw[bF]at Nt;have h4:zs.length<=4:=by omega
 rw[e];have hT:=FI (d:=d) ga hz (by omega)
 have hG:=xR (d:=d) (a:=a) (zs:=zs);have ko:=xP (rows:=rows) (d:=d) (a:=a) (zs:=zs) (y0:=sv (.scr ns)) (y1:=sv (.int N)) (y2:=sv sg) (y4:=sv (.str (TX d a zs))) (y5:=some (.ol ((Gs d a zs).map dI))) (y8:=u8) (Ge:=none) (Gg:=none) (Gh:=PD) (Gi:=PF) (Gj:=PH) (Gk:=PJ) (by omega) (by omega) rows 0 [] (some (.ol (zs.map (sM rows)))) none mH (.inl rfl) (by show 0+_<=_;omega)
 rw[o9]at ko;obtain⟨df,U7⟩:∃df,df=k6 rows d a zs 0 rows:=⟨_,rfl⟩;rw[<- U7]at ko;refine bS (t:=.lst []) rfl (dm (gG (W.of (xn (ts:=[.int (rows.length:Nat)]) (aw (dY (ts:=[.lst (rows.map T.str)]) rfl bO) rfl) (Jj _ (by omega))) ?_)))
 unfold dS at ko;rw[<- hdp]at ko;refine W.mono ko λp hp=>⟨hp.1,?_⟩;obtain⟨_,x7,Bu,e⟩:=hp;rw[e];have Y8:=Pu (rows:=rows) (l:=Gs d a zs) (ys:=Ys d a zs) z6;have U8:=zQ (rows:=rows) (l:=Gs d a zs) (ys:=Ys d a zs) λq hq x hx=>by
  have:=z6 q hq x hx
  cases x<;>first|rfl|cases this
 have hW:=Fc (n+2) (m:=[]) (ys:=Ys d a zs) (rows:=rows) (b:=true) (U3 (d:=d) (a:=a) (zs:=zs) (by omega)) U4 Pz (U1 ga hz) (by omega) (by omega) hr1 λm=>Ly (n+13) (λl hl=>⟨(VR l hl).1,λz=>(VR l hl).2 10 z rfl⟩) (by omega)
 have VU:=Fv n (m:=[]) (d:=d) ga hz (by omega)
 have Y9:=Pp (rows:=rows) (d:=d) (a:=a) (zs:=zs);have sO:=Pq (rows:=rows) (l:=Gs d a zs) (ys:=Ys d a zs);rw[<- U7]at Y9;obtain⟨lg,YJ⟩:∃lg,lg=kX rows (Gs d a zs) (Ys d a zs):=⟨_,rfl⟩;rw[<- YJ]at hW Y8 U8 Y9 sO;have Y_:=Jl Y8;have Mu:lg.length<=1000000:=by
  have:=oK (rows:=rows) (l:=Gs d a zs) (ys:=Ys d a zs) rows (λ_=>false) 0
  have hm:(3*(Gs d a zs).length+4)*rows.length<=20*24:=yf (by omega) hrl
  rw[YJ];unfold kX;simp only[cK,bz,qO];omega
 rw[Y9]at hW Y_;obtain⟨P,hP⟩:∃P:T,P=.obj 0 [.lst ((Gs d a zs).map dI)]:=⟨_,rfl⟩;rw[<- hP]at VU hW;obtain⟨told,oV⟩:∃told:T,told=.tup [.lst df,.dq [] [],.lst [],.lst lg]:=⟨_,rfl⟩;rw[<- oV]at hW;obtain⟨w,hw⟩:∃w,w=(rows.map λl=>l++[10]).flatten:=⟨_,rfl⟩;rw[<- hw]at hW;have hrt:∀s:S,vF 3 s=.ok (.lst (rows.map T.str),s)->kL joinM (cS []) (k1 (cY (bB (nz (vF 3)) 2 [] (setG 1) cX (oA (vF 1) (cS [10]))))) s=.ok (.str w,s):=λs h=>by rw[hw];exact UZ h VR (by omega)
 have Wu:shape 5 told told=true:=by
  rw[oV];show(all2 (shape 3) df df&&(true&&(true&&(shape 4 (.lst lg) (.lst lg)&&true))))=true;rw[fh λt ht=>mz (Y_ t ht),Pw Y8];rfl
 obtain⟨tx,htx⟩:∃tx,tx=TX d a zs:=⟨_,rfl⟩;have VU:cN (n+15) 49 [.str tx] []=.ok (P,[]):=by rw[htx];exact VU
 rw[<- htx];refine bS (cE (ts:=[P,.str w]) (aw (cE (ts:=[.str tx]) rfl VU) (aw (hrt _ rfl) rfl)) hW) ?_;obtain⟨pt,hpt⟩:∃pt,pt=(Gs d a zs).map dI:=⟨_,rfl⟩;rw[<- hpt]at hP ⊢;obtain⟨S9,FP⟩:∃S9:S,S9=lS ns [sv (.int N),sv sg,sv (.lst (rows.map T.str)),sv (.str tx),sv (.lst pt),sv dp,x7,u8,sv (.lst df),Bu,sv told,none,PD,PF,PH,PJ]:=⟨_,rfl⟩;have hm9:S9.m=[]:=by rw[FP]
 have v3:vF 3 S9=.ok (.lst (rows.map T.str),S9):=by rw[FP];rfl
 have v9:vF 9 S9=.ok (.lst df,S9):=by rw[FP];rfl
 have v11:vF 11 S9=.ok (told,S9):=by rw[FP];rfl
 have wp:du (AO 0) (vF 5) (lS ns [sv (.int N),sv sg,sv (.lst (rows.map T.str)),sv (.str tx),some (.ol pt),sv dp,x7,u8,sv (.lst df),Bu,sv told,none,PD,PF,PH,PJ])=.ok (P,S9):=by rw[hP,FP];rfl
 have w2:ao (cN (n+15) 33) [] (k2 (du (AO 0) (vF 5)) (kL joinM (cS []) (k1 (cY (bB (nz (vF 3)) 2 [] (setG 1) cX (oA (vF 1) (cS [10]))))))) (lS ns [sv (.int N),sv sg,sv (.lst (rows.map T.str)),sv (.str tx),some (.ol pt),sv dp,x7,u8,sv (.lst df),Bu,sv told,none,PD,PF,PH,PJ])=.ok (told,S9):=by
  refine Eq.trans (eL (ts:=[P,.str w]) (s':=S9) (m':=[]) (aw wp (aw (hrt S9 v3) rfl)) (by rw[hm9];exact hW)) ?_
  rw[FP]
 refine Uh (s':=S9) (U6 (aR w2 v11 (Px Wu))) ?_;have k0:oI (vF 11) (cI 0) S9=.ok (.lst df,S9):=aR v11 rfl (by rw[oV];rfl)
 have k3':oI (vF 11) (cI 3) S9=.ok (.lst lg,S9):=aR v11 rfl (by rw[oV];rfl)
 refine Uh (s':=S9) (VG (s1:=S9) (u7 (jx v11 (by rw[oV];rfl))) (VG (s1:=S9) (U6 (aR (t:=.int 4) (u:=.int 4) (dY (ts:=[told]) (aw v11 rfl) (by rw[oV];rfl)) rfl rfl)) (u7 (jx k3' rfl)))) ?_
 refine bS (Ur (Uq k3' rfl) Mu rfl (by rw[hm9];exact z4 lg [] U8)) ?_
 obtain⟨S8,P6⟩:∃S8:S,S8=i_ S9 12 (.val (.lst (lg.flatMap Bl))):=⟨_,rfl⟩;show WB _ (i_ S9 12 (.val (.lst (lg.flatMap Bl)))) _;rw[<- P6];have hm8:S8.m=[]:=by rw[P6,FP];rfl
 have v3:vF 3 S8=.ok (.lst (rows.map T.str),S8):=by rw[P6,FP];rfl
 have v9:vF 9 S8=.ok (.lst df,S8):=by rw[P6,FP];rfl
 have v11:vF 11 S8=.ok (told,S8):=by rw[P6,FP];rfl
 have v12:vF 12 S8=.ok (.lst (lg.flatMap Bl),S8):=by rw[P6,FP];rfl
 have k0:oI (vF 11) (cI 0) S8=.ok (.lst df,S8):=aR v11 rfl (by rw[oV];rfl)
 have t1:du (Nf "list") (oI (vF 11) (cI 0)) S8=.ok (.bl true,S8):=o1E k0 rfl;have egv:aI .Eq (.lst df) (.lst df)=some (.bl true):=FH (fh λt ht=>mz (Y_ t ht));have etk:aI .Eq (.lst (lg.flatMap Bl)) (.lst ((kr 0 rows.length).map λj=>ki ((j:Nat)+1)))=some (.bl true):=by
  rw[sO];refine FH (fh λt ht=>?_);obtain⟨j,_,rfl⟩:=eU.mp ht;exact LA (Jk (P5 rfl))
 refine A9 (t:=.bl true) (s':=S8) (vg (x:=true) (y:=true) t1 λ_=>vg (x:=true) (y:=true) (aR k0 v9 egv) λ_=>aR v12 (Ur (xn (ts:=[.int (rows.length:Nat)]) (aw (dY (ts:=[.lst (rows.map T.str)]) (aw v3 rfl) bO) rfl) (Jj _ (by omega))) (by rw[bF,yb];omega) rfl (by rw[hm8];exact FN (kr 0 rows.length) [])) etk) ⟨rfl,?_⟩
 show(_,S8.m).1=_;rfl
end
end K33
namespace K33
open PySem D L2
variable(n:Nat){m:List _root_.D.Ob}
set_option maxHeartbeats 0
theorem Jr:∀P,Ox (KH.K P) M Ft It=true:=λP=>by kernel_rfl
theorem Js:∀P,M.cs.all (Io (KH.K P))=true:=λP=>by kernel_rfl
theorem Jt:∀P,Ft.map (K6 (KH.K P))=Ft.map λe=>(K6 (KH.K P) e).map (Ez e):=λP=>by kernel_rfl
set_option maxHeartbeats 0
def BnL:List Fe->Prop
 |[]=>True
 |e::r=>Bn e/\BnL r
theorem LB:∀{l:List Fe},BnL l->∀e∈l,Bn e
 |e::r,h,x,hx=>by
  rcases cu.mp hx with z|z
  ·rw[z];exact h.1
  ·exact LB h.2 x z
theorem lz0{P:B2->Prop}(h:P []):∀us:B2,us.length=0->P us
 |[],_=>h
 |_::_,e=>by cases e
theorem U9{n:Nat}{P:B2->Prop}(h:∀a,∀us:B2,us.length=n->P (a::us)):∀us:B2,us.length=n+1->P us
 |[],e=>by cases e
 |a::us,e=>h a us (lE.inj e)
theorem lz1{P:B2->Prop}(h:∀a,P [a]):∀us:B2,us.length=1->P us:=U9 λa=>lz0 (h a)
theorem lz2{P:B2->Prop}(h:∀a b,P [a,b]):∀us:B2,us.length=2->P us:=U9 λa=>lz1 (h a)
theorem lz3{P:B2->Prop}(h:∀a b c,P [a,b,c]):∀us:B2,us.length=3->P us:=U9 λa=>lz2 (h a)
theorem lz4{P:B2->Prop}(h:∀a b c d,P [a,b,c,d]):∀us:B2,us.length=4->P us:=U9 λa=>lz3 (h a)
theorem lz5{P:B2->Prop}(h:∀a b c d e,P [a,b,c,d,e]):∀us:B2,us.length=5->P us:=U9 λa=>lz4 (h a)
theorem Bm:Bn ⟨none,"stretch","stretch",top 64,["one","row","start","ends","begin"],["one","row","start"],[],true,[.int 0]⟩:=λ_ _ _ _ _ _ s a o gq n us ho hd hl FQ=>by
 obtain⟨d,rfl⟩:=List.length_eq_one_iff.mp (show gq.length=1 from hl);have h:(us++[d]).length=3:=FQ;rw[cK]at h
 match us,lE.inj h with
 |x::us,h=>
  match us,lE.inj h with
  |y::us,h=>
   cases List.eq_nil_of_length_eq_zero (lE.inj h);exact .of_defaults rfl ho hd rfl rfl
theorem bn:∀e∈Ft,Bn e:=LB (by
 repeat' first|exact trivial|refine And.intro ?_ ?_
 all_goals first|exact λ_ _ _ _ _ _=>lz1 λ_=>rfl|exact λ_ _ _ _ _ _=>lz2 λ_ _=>rfl|exact λ_ _ _ _ _ _=>lz3 λ_ _ _=>rfl|exact λ_ _ _ _ _ _=>lz4 λ_ _ _ _=>rfl|exact λ_ _ _ _ _ _=>lz5 λ_ _ _ _ _=>rfl|exact Bm)
end K33
end
open PySem PySem.W PyProof.Rows
set_option maxRecDepth 100000 in
set_option maxHeartbeats 0 in
theorem PySem.Challenge.cw_rowblade_k33_stretches_over_rows_holds : PySem.Challenge.rw_rowblade_k33_stretches_over_rows.Holds := by
 w_on
 refine holds_law (by
  unfold OpenLaw.wellSaid OpenRow.wellSaid OpenRow.partSaid looksOpen
  repeat' (with_reducible refine look_both ?_ ?_)
  all_goals decide +kernel) λaaj=>?_
 refine holds_open (q:=KH.vw) (loose:=KH.lz) (Xt:=KH.Xt) (XP:=XL KH.vw []) (Yf:=Hook.obs (kHook KH.K KH.as KH.PQ)) (Ya:=Hook.val (kHook KH.K KH.as KH.PQ)) (YP:=Hook.says (kHook KH.K KH.as KH.PQ)) (N:=22032) KH.left (Hook.of (kHook KH.K KH.as KH.PQ)) (Hook.keeps (kHook KH.K KH.as KH.PQ)) (λs e=>xl_of s (Bool.and_eq_true_iff.mp e).1) XL.keeps (by rfl) (by rfl) (by rfl) (λs e=>recFacts_of (Bool.and_eq_true_iff.mp e).2) (by rfl) (by first|assumption|decide +kernel) (by decide +kernel) ⟨rfl,rfl,rfl,rfl,rfl,by decide +kernel⟩ ?hw ?hc
 (case hw=>w_witness2)
 k_fill
 refine _root_.D.Ub (l:=PySem.Challenge.rw_rowblade_k33_stretches_over_rows) (m:=63) (n:=16) (K:=KH.K) (M:=K33.M) (Ft:=K33.Ft) (It:=K33.It) (i:=62) rfl (by decide) rfl ⟨rfl,by decide,by decide⟩ (λw h Y=>PySem.W.kIn_of Y) rfl rfl rfl rfl rfl (λP=>⟨⟨K33.Jr P,K33.Jt P,K33.bn⟩,K33.Js P⟩) λns _ hb=>⟨[],K33.PB 0⟩
