import PyProof.Rows.All
import Wide.All
import OpenK.AllK
import Wide.FinOn
import Lean
import PyProof.EqAt
import PyProof.EqKinds
import PyProof.TupleCall
import PyProof.Rows.EnumRows
import PyProof.EnumMake
import KE.KIntText
import KE.KEqDict
import KE.KTryMore
import KE.KDictOf
import PyProof.DictValues
import PyProof.MinMaxWalk
import PyProof.ConsumeS
import PySem.Challenge.RW_rowblade_k41_rows_of_pieces
set_option Elab.async false
set_option linter.all false
set_option maxRecDepth 100000
set_option compiler.extract_closed false
noncomputable section
abbrev Ap:=List (List Nat)
abbrev B1:=List Nat
abbrev B2:=List PySem.Value
abbrev Bi:=List PySem.Str
abbrev Bz:=List PySem.Expr
abbrev BM:=List PySem.Addr
abbrev D1:=Option PySem.Value
abbrev D2:=Option Int
abbrev Dx:=List Int
abbrev DD:=List PySem.Stmt
abbrev Ee:=List Bool
namespace Z0
end Z0
open PySem.W renaming Frag→aS,findIn→dO,kitOne→gG,kia_one→jG,nsIn→kZ,keepIn→mR,emptyDict→oX,instObj→qo,mroIn→wx,fnOf→wy,plainGet→yq,isFn→yr,makesIn→yt,specialIn→yu,takesIn→yv,lookIn→Cz,hasDictIn→CA,callWith_K→CD,callWith_K0→CF,methodCall_KW→CG,exmOne→uA,methodObj→yw,plainGet_of→yx,plainOver→yy,takerIn→yz,codeIn→yC,kitAny→yD,excIn→yE,handedIn→Ga,kitx_list→Gb,kitx_dict→Gd,kitx_own→Ge,cellsFrom_some→Gg,callWith_of→Gh,Dflts→Gi
open Option renaming bind_eq_some_iff→ba,map_eq_some_iff→eL,some→jH,isSome_iff_exists→yF,isSome_map→yG,getD_none→Gj,none→Gk
open Bool renaming and_eq_true→bL,false_ne_true→fF,and_eq_true_iff→sC,or_eq_true→CH,and_true→CI,false_and→yH,eq_iff_iff→yI,beq_eq_decide_eq→yJ,true_and→yK,and_false→Gn,eq_false_or_eq_true→Gp,false_eq_true→Gq,not_eq_true'→Gs,not_true→Gu
open Nat renaming le_refl→cC,ne_of_lt→cL,lt_of_lt_of_le→gy,le_trans→il,zero_le→kh,sub_self→ki,lt_irrefl→mS,lt_succ_self→sD,le_add_right→sE,le_of_eq→yL,ne_of_gt→CJ,lt_of_le_of_lt→CK,succ→uB,le_of_lt→yM,le_succ→yN,lt_succ_of_lt→yO,zero_add→yP,succ_mul→Gv,lt_trans→Gw,min_self→Gx
open List renaming length_map→dB,getElem?_eq_some_iff→eT,size_toArray→eU,getElem?_set_ne→gF,length_append→gH,replicate→cj,prefix_rfl→cA,range→cD,mem_cons→cH,length_cons→cT,getElem?_set_self→c9,all_cons→c_,mem_cons_self→dj,mem_cons_of_mem→dm,length_set→dH,map_cons→dY,getElem?_eq_getElem→eM,append_nil→fh,getElem?_append_right→fj,getElem?_map→fk,all_eq_true→gz,getElem?_append_left→gI,mem_of_getElem?→ir,lookup_cons→iH,map_append→jI,lookup→kj,nodup_cons→km,flatten→ko,mem_append_right→k6,zip_cons_cons→k7,any_cons→mT,not_mem_nil→mU,map_map→mV,length_range→oY,mem_append→qp,mem_singleton→qq,replicate_succ→sF,nil_append→sG,mem_map→sH,length_replicate→wz,flatten_cons→wA,find?_cons→wB,getElem?_replicate→yQ,map→yR,drop_zero→yS,isEmpty_iff→yT,mem_range→CL,mem_filterMap→CM,length_singleton→CN,getD_eq_getElem?_getD→CO,length_nil→CP,ext_getElem?→CQ,map_congr_left→CT,length_zip→CU,prefix_append→CV,length_eq_zero_iff→CW,contains_iff_mem→uC,append_cons→uD,filterMap_cons→yU,mem_append_left→yV,of_mem_zip→yW,length_take→yX,length_drop→yY,foldl→yZ,append_assoc→y9,map_nil→y_,getElem?_range→za,range_succ_eq_map→zb,any_eq_true→zc,drop_eq_getElem_cons→zd,nodup_append→ze,length_reverse→zf,getElem?_eq_none→zg,set_set→zh,mem_filter→Gy,forIn_cons→Gz,all_map→GA,any_map→GC,take_append_drop→GD,take_of_length_le→GF,idxOf?→GG,findIdx?_eq_some_iff_getElem→GH,zip_nil_right→GI,drop_length→GJ,reverse_cons→GK,all_nil→GL,flatMap_append→GN,range'→GO,length_range'→GP
open Int renaming ofNat→kq,zero_add→GQ
open PyProof.Rows renaming callWith_type1→sI,boot_list→wC,boot_isinstance→zj,envOfC→zk,callWith_builtin1→GR,recsOf→GS,drecsOf→GU,boot_enumerate→GW,evalArgs_kw2→GX,boot_str→GY,boot_int→GZ
namespace Z1
end Z1
abbrev b7:=List (PySem.Addr×PySem.Obj)
abbrev aQ(x:PySem.Str):Prop:=(x == ("__debug__":PySem.Str))=false
abbrev dZ(x:PySem.Str):Prop:=(x == ("__classdict__":PySem.Str))=false
namespace L2
open PySem PySem.Spec PyProof.Rows
abbrev Key:=Sum Int Str
def nI:Key->Value->Bool
 |.inl k,v=>Value.isInt k v
 |.inr x,v=>Value.isStrOf x v
def Sf(w:World):Key->Int
 |.inl k=>hashInt k
 |.inr x=>hashStr w x
theorem bz:∀{k:Key}{v:Value},nI k v=true->(∃i t,k=Sum.inl i/\v=Value.int i t)\/(∃x t,k=Sum.inr x/\v=Value.str x t)
 |.inl i,v,h=>by
  obtain⟨t,e⟩:=Value.isInt_shape (k:=i) (v:=v) h;exact .inl ⟨i,t,rfl,e⟩
 |.inr x,v,h=>by
  obtain⟨t,e⟩:=Value.isStrOf_shape (x:=x) (v:=v) h;exact .inr ⟨x,t,rfl,e⟩
theorem wD(i:Int)(t:Tok):nI (.inl i) (.int i t)=true:=by simp[nI,Value.isInt]
theorem wF(x:Str)(t:Tok):nI (.inr x) (.str x t)=true:=by simp[nI,Value.isStrOf]
theorem Iv(a b:Int):decide ((Sum.inl a:Key)=Sum.inl b)=(a == b):=by
 by_cases e:a=b
 ·subst e;simp
 ·have h:¬ (Sum.inl a:Key)=Sum.inl b:=λq=>e (Sum.inl.inj q)
  rw[decide_eq_false h];exact(beq_eq_false_iff_ne.mpr e).symm
theorem Iw(a b:Str):decide ((Sum.inr a:Key)=Sum.inr b)=decide (a=b):=by
 by_cases e:a=b
 ·subst e;simp
 ·have h:¬ (Sum.inr a:Key)=Sum.inr b:=λq=>e (Sum.inr.inj q)
  rw[decide_eq_false h,decide_eq_false e]
theorem Iz(a:Int)(b:Str):decide ((Sum.inl a:Key)=Sum.inr b)=false:=decide_eq_false (λq=>nomatch q)
theorem IA(a:Str)(b:Int):decide ((Sum.inr a:Key)=Sum.inl b)=false:=decide_eq_false (λq=>nomatch q)
def aN(prog:Program)(w:World):PySem.KeyKind prog w Key where
 is:=nI
 hash:=Sf w
 inj:=λv a b ha hb=>by
  rcases bz ha with⟨i,t,rfl,rfl⟩|⟨x,t,rfl,rfl⟩
  ·rcases bz hb with⟨j,u,rfl,e⟩|⟨y,u,rfl,e⟩
   ·injection e with e1 _;rw[e1]
   ·exact nomatch e
  ·rcases bz hb with⟨j,u,rfl,e⟩|⟨y,u,rfl,e⟩
   ·exact nomatch e
   ·injection e with e1 _;rw[e1]
 byValue:=λk v h=>by
  rcases bz h with⟨i,t,rfl,rfl⟩|⟨x,t,rfl,rfl⟩<;>rfl
 pyHash:=λhv h=>by
  rcases bz hv with⟨i,t,rfl,rfl⟩|⟨x,t,rfl,rfl⟩
  ·exact wpAny_pyHash_int h
  ·exact wpAny_pyHash_str h
 eqBool:=λhu hv h=>by
  rcases bz hu with⟨i,t,rfl,rfl⟩|⟨x,t,rfl,rfl⟩
  ·rcases bz hv with⟨j,u,rfl,rfl⟩|⟨y,u,rfl,rfl⟩
   ·rw[Iv]at h;exact wpAny_eqBool_int h
   ·rw[Iz]at h;exact SeqAt.EqAt.int_str i t y u _ _ _ _ h
  ·rcases bz hv with⟨j,u,rfl,rfl⟩|⟨y,u,rfl,rfl⟩
   ·rw[IA]at h;exact SeqAt.EqAt.str_int x t j u _ _ _ _ h
   ·rw[Iw]at h;exact wpAny_eqBool_str h
 «strs»:=λk x t v h=>by
  rcases bz h with⟨i,u,rfl,e⟩|⟨y,u,rfl,e⟩
  ·exact nomatch e
  ·injection e with e1 _
   subst e1;cases v<;>rfl
theorem qr(prog:Program)(w:World)(i:Int)(t:Tok):(aN prog w).is (.inl i) (.int i t)=true:=wD i t
theorem qt(prog:Program)(w:World)(x:Str)(t:Tok):(aN prog w).is (.inr x) (.str x t)=true:=wF x t
inductive V where
 |non|bl (b:Bool)|int (i:Int)|str (x:Str)|byt (b:Array UInt8)|flt (b:UInt64)|ref (a:Addr)|ty (n:String)
 deriving DecidableEq
def RelV:V->Value->Prop
 |.non,u=>u=Value.none
 |.bl b,u=>u=Value.bool b
 |.int i,u=>∃t,u=Value.int i t
 |.str x,u=>∃t,u=Value.str x t
 |.byt b,u=>∃t,u=Value.bytes b t
 |.flt b,u=>∃t,u=Value.float b t
 |.ref a,u=>u=Value.ref a
 |.ty n,u=>u=Value.type n
abbrev Vals:List V->B2->Prop:=Paired RelV
theorem Vals.length{xs:List V}{us:B2}(r:Vals xs us):xs.length=us.length:=Paired.length r
theorem Vals.get:∀{xs:List V}{us:B2}{i:Nat}{x:V},Vals xs us->xs[i]?=some x->∃u,us[i]?=some u/\RelV x u
 |_,_,_,_,.nil,e=>by simp at e
 |_,_,0,_,.cons r _,e=>by simp at e;subst e;exact⟨_,rfl,r⟩
 |_,_,i+1,x,.cons _ t,e=>by
  obtain⟨u,h1,h2⟩:=Vals.get (i:=i) (x:=x) t (by simpa using e)
  exact⟨u,by simpa using h1,h2⟩
theorem Vals.set{x:V}{u:Value}(r:RelV x u):∀{xs:List V}{us:B2}(i:Nat),Vals xs us->Vals (xs.set i x) (us.set i u)
 |_,_,_,.nil=>.nil
 |_,_,0,.cons _ t=>.cons r t
 |_,_,i+1,.cons q t=>.cons q (Vals.set r i t)
theorem Vals.append:∀{xs ys:List V}{us ws:B2},Vals xs us->Vals ys ws->Vals (xs++ys) (us++ws)
 |_,_,_,_,.nil,s=>s
 |_,_,_,_,.cons r t,s=>.cons r (Vals.append t s)
theorem Vals.take:∀{xs:List V}{us:B2}(n:Nat),Vals xs us->Vals (xs.take n) (us.take n)
 |_,_,0,_=>.nil
 |_,_,_+1,.nil=>.nil
 |_,_,n+1,.cons r t=>.cons r (Vals.take n t)
theorem Vals.drop:∀{xs:List V}{us:B2}(n:Nat),Vals xs us->Vals (xs.drop n) (us.drop n)
 |_,_,0,r=>r
 |_,_,_+1,.nil=>.nil
 |_,_,n+1,.cons _ t=>Vals.drop n t
def gA:Option V->D1->Prop
 |some v,some u=>RelV v u
 |none,none=>True
 |_,_=>False
def KV{κ:Type}:List (κ×V)->List (κ×Value)->Prop:=Paired λ(p:κ×V) (q:κ×Value)=>p.1=q.1/\RelV p.2 q.2
def kV:Key->V
 |.inl i=>.int i
 |.inr x=>.str x
inductive HO where
 |lst (xs:List V)
 |tup (xs:List V)
 |dK (aw:List (Key×V))|dT (aw:List (List Key×V))
 |set (S:Int->Bool) (n:Nat)
 |ins (C dx:Addr) (fs:List (Str×V))
 |own (x:Addr)
 |xd (fs:List (Str×V))
 |met (f x:Addr)
 |mK (lo hi:Int)
 |gJ (o:Obj) (u:HO)
 |tbl (ps:Array Value)
 |ext (φ:Heap->Prop)
abbrev Hp:=Addr->Option HO
def upd(H:Hp)(a:Addr)(o:HO):Hp:=λb=>if b=a then some o else H b
theorem af{H:Hp}{a:Addr}{o:HO}:upd H a o a=some o:=by unfold upd;rw[if_pos rfl]
theorem ak{H:Hp}{a b:Addr}{o:HO}(h:b≠a):upd H a o b=H b:=by unfold upd;rw[if_neg h]
theorem oZ{H:Hp}{a:Addr}{o u:HO}:upd (upd H a o) a u=upd H a u:=by
 funext b;unfold upd;split<;>rfl
theorem M5{H:Hp}{a b:Addr}{o u:HO}(h:H a=some o)(h':H b=some u)(d:o≠u):a≠b:=by
 intro e;subst e;rw[h]at h';exact d (jH.inj h')
theorem aC{H:Hp}{a b:Addr}{o:HO}(h:H a=some o)(h':H b=none):a≠b:=by
 intro e;subst e;rw[h]at h';cases h'
section
variable(P:Program)(w:World)
def bA(H:Hp)(h:Heap)(a:Addr):HO->Prop
 |.lst xs=>xs.length<=sizeLine/\∃(av:B2)(n:Nat),Vals xs av/\h.get? a=some {cls:=.type "list",data:=.seq av.toArray n}
 |.tup xs=>xs.length<=sizeLine/\∃av:B2,Vals xs av/\IsTup h a av.toArray
 |.dK aw=>aw.length<=sizeLine/\(a == sysModules)=false/\∃vs,KV aw vs/\h.DictOf (aN P w) a vs
 |.dT aw=>aw.length<=sizeLine/\(a == sysModules)=false/\∃xs:List (List Key×Addr×Value),
   Paired (λ(p:List Key×V) (q:List Key×Addr×Value)=>p.1=q.1/\H q.2.1=some (.tup (p.1.map kV))/\RelV p.2 q.2.2) aw xs /\
   ∃o es ep,h.get? a=some o/\o.ExactDict/\o.data=.dict es ep/\es.toList=xs.map (entryOfKey (tupleKind (aN P w)))/\(xs.map (·.1)).Nodup
 |.set S n=>h.SetOf (intKind P w) a S n
 |.ins C dx fs=>H dx=some (.own a)/\fs.length<=1000/\dx≠a/\h.get? a=some (qo C dx) /\
   ∃mA,h.Ns1 dx mA/\(∀f,gA (fs.lookup f) (mA f))/\PySem.Within mA (fs.map (·.1))
 |.own _=>∃o,h.get? a=some o
 |.xd fs=>∃mA,h.Ns1 a mA/\∀f,gA (fs.lookup f) (mA f)
 |.mK lo hi=>∃t u v,h.get? a=some {cls:=.type "range",data:=.fields #[.int lo t,.int hi u,.int 1 v]}
 |.gJ o u=>h.get? a=some o/\bA H h a u
 |.tbl ps=>h.get? a=some {cls:=.none,data:=.fields ps}
 |.met f x=>h.get? a=some (yw (.ref f) (.ref x))
 |.ext φ=>φ h/\(∃o,h.get? a=some o)/\∀h1 h2:Heap,φ h1->(∀o,h1.get? a=some o->h2.get? a=some o)->φ h2
def iI(H:Hp)(h:Heap):Prop:=∀a o,H a=some o->bA P w H h a o
end
variable{C a dx f x:Addr}{A:Around}{b e o:Expr}{h h':Heap}{H H':Hp}{ae:b7}{es:Bz}{p pos:Pos}{P:Program}{s:Shared}{E:Value->Shared->Prop}{w:World}
section
variable{o:HO}
theorem bA.lt(x:bA P w H h a o):a<h.objs.size:=by
 cases o with
 |lst xs=>obtain⟨_,_,_,_,e⟩:=x;exact Heap.lt_size e
 |tup xs=>obtain⟨_,_,_,p⟩:=x;exact p.lt
 |dK aw=>obtain⟨_,_,_,_,o,_,_,e,_⟩:=x;exact Heap.lt_size e
 |dT aw=>obtain⟨_,_,_,_,o,_,_,e,_⟩:=x;exact Heap.lt_size e
 |set S n=>obtain⟨o,_,_,_,e,_⟩:=x;exact Heap.lt_size e
 |ins C dx fs=>obtain⟨_,_,_,e,_⟩:=x;exact Heap.lt_size e
 |own y=>obtain⟨_,e⟩:=x;exact Heap.lt_size e
 |xd fs=>obtain⟨_,⟨_,_,_,e,_⟩,_⟩:=x;exact Heap.lt_size e
 |mK lo hi=>obtain⟨_,_,_,e⟩:=x;exact Heap.lt_size e
 |gJ ob u=>obtain⟨e,_⟩:=x;exact Heap.lt_size e
 |tbl ps=>exact Heap.lt_size (show h.get? a=some _ from x)
 |met f y=>exact Heap.lt_size (show h.get? a=some _ from x)
 |ext φ=>obtain⟨_,⟨_,e⟩,_⟩:=x;exact Heap.lt_size e
theorem Paired.IB{α β:Type}{F G:α->β->Prop}:∀{l₁:List α}{l₂:List β},Paired F l₁ l₂->(∀a b,F a b->G a b)->Paired G l₁ l₂
 |_,_,.nil,_=>.nil
 |_,_,.cons r t,f=>.cons (f _ _ r) (Paired.IB t f)
theorem bA.o9(x:bA P w H h a o)(k:∀b u,(b=a\/H b=some (.own a))->h.get? b=some u->h'.get? b=some u)
  (ho:∀b,H b=some (.own a)->H' b=some (.own a)) (ht:∀b xs,H b=some (.tup xs)->H' b=some (.tup xs)):bA P w H' h' a o:=by
 induction o with
 |lst xs=>obtain⟨z,av,n,r,e⟩:=x;exact⟨z,av,n,r,k _ _ (.inl rfl) e⟩
 |tup xs=>obtain⟨z,av,r,ob,e,c⟩:=x;exact⟨z,av,r,ob,k _ _ (.inl rfl) e,c⟩
 |dK aw=>obtain⟨z,y,vs,r,ob,es,ep,e,c⟩:=x;exact⟨z,y,vs,r,ob,es,ep,k _ _ (.inl rfl) e,c⟩
 |dT aw=>
  obtain⟨z,y,xs,r,ob,es,ep,e,c⟩:=x;exact⟨z,y,xs,Paired.IB r λp q z=>⟨z.1,ht _ _ z.2.1,z.2.2⟩,ob,es,ep,k _ _ (.inl rfl) e,c⟩
 |set S n=>obtain⟨ob,es,ep,t,e,c⟩:=x;exact⟨ob,es,ep,t,k _ _ (.inl rfl) e,c⟩
 |ins C dx fs=>
  obtain⟨d,z,ne,e,mA,⟨od,es,ep,e2,c⟩,r⟩:=x;exact⟨ho _ d,z,ne,k _ _ (.inl rfl) e,mA,⟨od,es,ep,k _ _ (.inr d) e2,c⟩,r⟩
 |own y=>obtain⟨ob,e⟩:=x;exact⟨ob,k _ _ (.inl rfl) e⟩
 |xd fs=>obtain⟨mA,⟨od,es,ep,e,c⟩,r⟩:=x;exact⟨mA,⟨od,es,ep,k _ _ (.inl rfl) e,c⟩,r⟩
 |mK lo hi=>obtain⟨t,u,v,e⟩:=x;exact⟨t,u,v,k _ _ (.inl rfl) e⟩
 |gJ ob u ih=>obtain⟨e,q⟩:=x;exact⟨k _ _ (.inl rfl) e,ih q⟩
 |tbl ps=>
  have e:h.get? a=some {cls:=.none,data:=.fields ps}:=x;show h'.get? a=some {cls:=.none,data:=.fields ps};exact k a _ (.inl rfl) e
 |met f y=>
  have e:h.get? a=some (yw (.ref f) (.ref y)):=x;show h'.get? a=some (yw (.ref f) (.ref y));exact k a _ (.inl rfl) e
 |ext φ=>obtain⟨p,⟨o,e⟩,st⟩:=x;exact⟨st _ _ p λo q=>k _ _ (.inl rfl) q,⟨o,k _ _ (.inl rfl) e⟩,st⟩
theorem iI.lt(x:iI P w H h)(e:H a=some o):a<h.objs.size:=(x a o e).lt
theorem iI.fresh(x:iI P w H h)(e:h.objs.size<=a):H a=none:=by
 cases q:H a with
 |none=>rfl
 |some u=>exact absurd (gy (x.lt q) e) (mS _)
theorem iI.kept(x:iI P w H h)(k:∀b u,h.get? b=some u->h'.get? b=some u):iI P w H h':=λa o e=>
 (x a o e).o9 (λb u _ q=>k b u q) (λ_ q=>q) λ_ _ q=>q
theorem iI.laid(x:iI P w H h)(k:∀b u,h.get? b=some u->h'.get? b=some u)(hp:h.objs.size<=a)(new:bA P w (upd H a o) h' a o):iI P w (upd H a o) h':=λb u e=>by
 have hn:=x.fresh hp;by_cases hb:b=a
 ·subst hb;rw[af]at e;cases e;exact new
 ·rw[ak hb]at e
  exact(x b u e).o9 (λc v _ q=>k c v q) (λc q=>by rw[ak (aC q hn)];exact q) λc xs q=>by rw[ak (aC q hn)];exact q
end
def Rd(H:Hp)(a:Addr)(u:HO):Prop:=H a=some u\/∃o,H a=some (.gJ o u)
theorem Rd.ok{P:Program}{w:World}{H:Hp}{h:Heap}{a:Addr}{u:HO}(r:Rd H a u)(x:iI P w H h):bA P w H h a u:=by
 rcases r with r|⟨o,r⟩
 ·exact x a u r
 ·obtain⟨_,q⟩:=x a _ r
  exact q
def M6:Option HO->Prop
 |some (.lst _)=>True
 |some (.dK _)=>True
 |some (.dT _)=>True
 |some (.set _ _)=>True
 |some (.ins _ _ _)=>True
 |some (.ext _)=>True
 |_=>False
section
variable{e:Addr}{o':HO}
theorem iI.write(ok:iI P w H h)(mu:M6 (H x))(he:e=x\/H e=some (.own x))(k:∀b u,b≠e->h.get? b=some u->h'.get? b=some u)(MA:∃u,h'.get? e=some u)
  (new:bA P w (upd H x o') h' x o'):iI P w (upd H x o') h':=λb u q=>by
 have M7:∀c y,H c=some (.own y)->c≠x:=λc y r z=>by subst z;rw[r]at mu;exact mu
 have Sg:∀c xs,H c=some (.tup xs)->c≠x:=λc xs r z=>by subst z;rw[r]at mu;exact mu
 by_cases hb:b=x
 ·subst hb;rw[af]at q;cases q;exact new
 ·rw[ak hb]at q
  by_cases hbe:b=e
  ·have q':H b=some (.own x):=by
    rcases he with z|z
    ·exact absurd (hbe.trans z) hb
    ·rw[hbe];exact z
   rw[q]at q';cases q';obtain⟨v,hv⟩:=MA;exact⟨v,by rw[hbe];exact hv⟩
  ·refine(ok b u q).o9 (λc v hc r=>k c v ?_ r) (λc r=>by rw[ak (M7 c b r)];exact r) λc xs r=>by rw[ak (Sg c xs r)];exact r
   rcases hc with rfl|hc
   ·exact hbe
   ·rintro rfl
    rcases he with z|z
    ·exact M7 c b hc z
    ·rw[hc]at z;cases z;exact hb rfl
end
structure Un(fs ex:BM)(H H':Hp)(h h':Heap):Prop where
 keep:∀b o,h.get? b=some o->H b=none->b∉fs->b∉ex->h'.get? b=some o
 slot:∀b o,h.get? b=some o->H b=none->b∈fs->b∉ex->∃sl,h'.get? b=some {o with slots:=sl}
 free:∀b o,h.get? b=some o->H b=none->b∉ex->H' b=none
 there:∀b o,h.get? b=some o->b∉ex->∃o',h'.get? b=some o'
 mW:∀b xs,H b=some (.tup xs)->H' b=some (.tup xs)
 k8:∀b o u,H b=some (.gJ o u)->H' b=some (.gJ o u)
 mX:∀b ps,H b=some (.tbl ps)->∃more,H' b=some (.tbl (ps++more))
section
variable{fs nJ ex ex':BM}{H1 H2:Hp}{h1 h2:Heap}{e:Addr}{o:HO}
theorem Un.any(u:Un fs ex H H1 h h1){b:Addr}{ob:Obj}(q:h.get? b=some ob)(n:H b=none)(hx:b∉ex):∃sl,h1.get? b=some {ob with slots:=sl}:=by
 by_cases hb:b∈fs
 ·exact u.slot b ob q n hb hx
 ·exact⟨ob.slots,u.keep b ob q n hb hx⟩
theorem Un.kept(k:∀b u,h.get? b=some u->h'.get? b=some u):Un fs ex H H h h':=
 ⟨λb ob q _ _ _=>k b ob q,λb ob q _ _ _=>⟨ob.slots,k b ob q⟩,λ_ _ _ n _=>n,λb ob q _=>⟨ob,k b ob q⟩,λ_ _ q=>q,λ_ _ _ q=>q,λ_ ps q=>⟨#[],by rw[q];simp⟩⟩
theorem Un.refl:Un fs ex H H h h:=Un.kept λ_ _ q=>q
theorem Un.laid(k:∀b u,h.get? b=some u->h'.get? b=some u)(hp:h.objs.size<=a)(hn:H a=none):Un fs ex H (upd H a o) h h' where
 keep:=λb u q _ _ _=>k b u q
 slot:=λb u q _ _ _=>⟨u.slots,k b u q⟩
 free:=λb u q n _=>by rw[ak (cL (gy (Heap.lt_size q) hp))];exact n
 there:=λb u q _=>⟨u,k b u q⟩
 mW:=λb xs q=>by rw[ak (aC q hn)];exact q
 k8:=λb u xs q=>by rw[ak (aC q hn)];exact q
 mX:=λb ps q=>⟨#[],by rw[ak (aC q hn),q];simp⟩
theorem Un.write(mu:M6 (H x))(he:e=x\/H e=some (.own x))(k:∀b u,b≠e->h.get? b=some u->h'.get? b=some u)(MA:∃u,h'.get? e=some u):Un fs ex H (upd H x o) h h':=by
 have hx:∀b,H b=none->b≠x:=λb n z=>by subst z;rw[n]at mu;exact mu
 have hb:∀b,H b=none->b≠e:=λb n z=>by
  subst z;rcases he with r|r
  ·exact hx b n r
  ·rw[n]at r;cases r
 have hm:∀b u,H b=some u->¬ M6 (some u)->b≠x:=λb u q nm z=>by subst z;rw[q]at mu;exact nm mu
 refine⟨λb u q n _ _=>k b u (hb b n) q,λb u q n _ _=>⟨u.slots,k b u (hb b n) q⟩,λb u q n _=>by rw[ak (hx b n)];exact n,λb u q _=>?_,
  λb xs q=>by rw[ak (hm b _ q λz=>z)];exact q,λb u xs q=>by rw[ak (hm b _ q λz=>z)];exact q,λb ps q=>⟨#[],by rw[ak (hm b _ q λz=>z),q];simp⟩⟩
 by_cases hbe:b=e
 ·subst hbe;exact MA
 ·exact⟨u,k b u hbe q⟩
end
def Cq(h:Heap)(H:Hp):BM:=(cD h.objs.size).filter λa=>(H a).isSome
def o_(h:Heap)(H:Hp):Heap:=PySem.W.hideAll h (Cq h H)
theorem wG(h:Heap)(H:Hp):(o_ h H).objs.size=h.objs.size:=PySem.W.hideAll_size _ _
theorem zl{h:Heap}{H:Hp}{b:Addr}{o:Obj}(e:h.get? b=some o)(n:H b=none):(o_ h H).get? b=some o:=
 PySem.W.hideAll_get _ e λhm=>by
  have q:(H b).isSome=true:=(Gy.mp hm).2;rw[n]at q;simp at q
theorem CY{h:Heap}{H:Hp}{b:Addr}{o:Obj}(e:(o_ h H).get? b=some o):h.get? b=some o/\H b=none:=by
 have e':h.get? b=some o:=PySem.W.of_hideAll (Cq h H) e;refine⟨e',?_⟩;cases q:H b with
 |none=>rfl
 |some x=>
  have hm:b∈Cq h H:=Gy.mpr ⟨CL.mpr (Heap.lt_size e'),by simp[q]⟩
  have z:(o_ h H).get? b=none:=PySem.W.hideAll_none (Cq h H) hm;rw[z]at e;cases e
def CZ(g h:Heap)(L:Addr):b7:=(cD h.objs.size).filterMap λa=>if a=L\/(g.get? a).isSome=true then none else(h.get? a).map λo=>(a,o)
def rest(g h:Heap)(L d:Addr):b7:=(CZ g h L).filter λp=>decide (p.1≠d)
structure Mod(K:aS)(mg:Str->D1)(base:Heap):Prop where
 kin:K.In base
 glob:base.Ns mainGlobals mg
 blt:∃mb,base.Ns builtinsNs mb/\∀x:Str,x ≠ "__name__" -> mb x=bootBuiltins x
 nolimit:base.NoLimit
structure Cx where
 prog:Program
 w:World
 K:aS
 mg:Str->D1
 base:Heap
 A:Around
 N:Bi
 s₀:Shared
 H₀:Hp
 env:Env
 outer:List Env
 stack:List Env
 ex:BM
 fn:Str->Bool
 calm:Bool
 pn:b7
 xe:Value->Shared->Prop
def mL(l:List Env):BM:=l.filterMap (·.frame)
abbrev Cx.fs(X:Cx):BM:=mL X.outer
def kI(sc:Scope)(x:Str):Prop:=sc.names.lookup x=some .local\/sc.names.lookup x=some .cell\/sc.names.lookup x=some .free
def Loc(sc:Scope)(x:Str):Prop:=sc.names.lookup x=some .local\/sc.names.lookup x=some .cell
def Look(env:Env)(h:Heap)(m:Str->D1)(x:Str)(u:Value):Prop:=
 (env.kindOf x=some .local/\m x=some u)\/((env.kindOf x=some .cell\/env.kindOf x=some .free)/\∃c,env.cells.lookup x=some c/\h.IsCell c (some u))
structure Cx.Ok(X:Cx):Prop where
 mod:Mod X.K X.mg X.base
 kind:X.env.scope.kind=.function
 glob:X.env.globals=mainGlobals
 blt:X.env.builtins=builtinsNs
 above:X.s₀.heap.objs.size<=X.env.locals
 inj:∀x y c,X.env.cells.lookup x=some c->X.env.cells.lookup y=some c->x=y
 has:∀x,(X.env.kindOf x=some .cell\/X.env.kindOf x=some .free)->∃c,X.env.cells.lookup x=some c
 cab:∀x c,X.fn x=true->X.env.cells.lookup x=some c->X.s₀.heap.objs.size<=c
 hd:X.calm=true->X.A.handled=none
 frames:X.A.frames=some X.stack
 stk:X.stack=X.outer\/(X.stack=X.env::X.outer/\X.env.frame=some X.env.locals)
 exf:∀b∈X.ex,b≠X.env.locals/\∀x c,X.env.cells.lookup x=some c->c≠b
 bs:∀b o,X.base.get? b=some o->X.s₀.heap.get? b=some o/\X.H₀ b=none
 bsz:X.base.objs.size<=X.s₀.heap.objs.size
 noex:∀b o,X.base.get? b=some o->b∉X.ex
 exfs:∀b∈X.ex,b∉X.fs
 i9:X.s₀.heap.FunFrames X.base X.outer
 frf:∀b∈X.fs,X.H₀ b=none
structure Inv(X:Cx)(ae:b7)(σ:List (Option V))(H:Hp)(s:Shared):Prop where
 ok:X.Ok
 os:s.os=X.s₀.os
 bare:AllBare s.gens
 base:Un X.fs X.ex X.H₀ H X.s₀.heap s.heap
 loc:∃m,s.heap.Ns X.env.locals m/\∀(i:Nat)(x:Str)(v:V),X.N[i]?=some x->σ[i]?=some (some v)->kI X.env.scope x->∃u,RelV v u/\Look X.env s.heap m x u
 cell:∀x c,X.env.cells.lookup x=some c->∃v,s.heap.IsCell c v
 free:H X.env.locals=none
 freeC:∀x c,X.env.cells.lookup x=some c->H c=none
 pin:∀p∈X.pn++ae,s.heap.get? p.1=some p.2/\H p.1=none/\p.1≠X.env.locals/\p.1∉X.fs/\∀v,p.2.data≠.cell v
 aV:iI X.prog X.w H s.heap
 len:σ.length=X.N.length
section
variable{X:Cx}{σ:List (Option V)}
theorem Cx.Ok.Sh(ok:X.Ok){b:Addr}{o:Obj}(e:X.base.get? b=some o):b∉X.fs:=λhb=>by
 have:=(ok.i9.mem hb).1
 rw[e]at this;cases this
theorem Inv.bs(I:Inv X ae σ H s):∀b o,X.base.get? b=some o->s.heap.get? b=some o/\H b=none:=λb o e=>
 ⟨I.base.keep b o (I.ok.bs b o e).1 (I.ok.bs b o e).2 (I.ok.Sh e) (I.ok.noex b o e),I.base.free b o (I.ok.bs b o e).1 (I.ok.bs b o e).2 (I.ok.noex b o e)⟩
theorem Inv.bk(I:Inv X ae σ H s):∀b o,X.base.get? b=some o->s.heap.get? b=some o:=λb o e=>(I.bs b o e).1
theorem Inv.mod(I:Inv X ae σ H s):Mod X.K X.mg X.base:=I.ok.mod
theorem Inv.gK(I:Inv X ae σ H s):X.K.In s.heap:=I.ok.mod.kin.keeps I.bk
theorem Inv.lt(I:Inv X ae σ H s):X.env.locals<s.heap.objs.size:=let⟨_,hn,_⟩:=I.loc;hn.lt
theorem Inv.sz(I:Inv X ae σ H s):X.s₀.heap.objs.size<=s.heap.objs.size:=il I.ok.above (yM I.lt)
theorem Inv.Si(I:Inv X ae σ H s){a:Addr}(h:s.heap.objs.size<=a):a∉X.fs:=λhb=>by
 obtain⟨_,o,ho,_⟩:=I.ok.i9.mem hb;exact absurd (gy (Heap.lt_size ho) (il I.sz h)) (mS _)
theorem Inv.C0(I:Inv X ae σ H s):∀x c,X.env.cells.lookup x=some c->c≠X.env.locals:=λx c e z=>by
 obtain⟨v,o,ho,hd⟩:=I.cell x c e;obtain⟨m,⟨o',es,ep,yc,G0,_⟩,_⟩:=I.loc;rw[z,yc]at ho;cases ho;rw[G0]at hd;cases hd
theorem Inv.i9(I:Inv X ae σ H s):s.heap.FunFrames X.base X.outer:=by
 have all:∀(l:List Env),(∀b∈mL l,b∈X.fs)->X.s₀.heap.FunFrames X.base l->s.heap.FunFrames X.base l:=by
  intro l
  induction l with
  |nil=>intro _ _;trivial
  |cons env r ih=>
   intro hs hl;obtain⟨hk,⟨L,o,hf,hn,ho,hd⟩,hr⟩:=hl;have hL:L∈X.fs:=hs L (by unfold mL;rw[yU,hf];exact dj)
   obtain⟨sl,e⟩:=I.base.slot L o ho (I.ok.frf L hL) hL λz=>I.ok.exfs L z hL;exact⟨hk,⟨L,_,hf,hn,e,hd⟩,ih (λb hb=>hs b (by unfold mL;rw[yU,hf];exact dm _ hb)) hr⟩
 exact all X.outer (λ_ hb=>hb) I.ok.i9
theorem Inv.stack(I:Inv X ae σ H s):s.heap.FunFrames X.base X.stack:=by
 rcases I.ok.stk with e|⟨e,hf⟩
 ·rw[e];exact I.i9
 ·rw[e]
  obtain⟨m,hn,_⟩:=I.loc;refine .cons (by rw[I.ok.kind];decide) hf hn ?_ I.i9
  exact Heap.get?_none_of_le (il I.ok.bsz I.ok.above)
theorem Inv.k9(I:Inv X ae σ H s):∀b∈mL X.stack,b∈X.env.locals::X.fs:=λb hb=>by
 rcases I.ok.stk with e|⟨e,hf⟩
 ·rw[e]at hb;exact dm _ hb
 ·rw[e]at hb
  unfold mL at hb;rw[yU,hf]at hb;exact hb
theorem Inv.pe(I:Inv X ae σ H s):∀b∈mL X.stack,H b=none:=λb hb=>by
 rcases cH.mp (I.k9 b hb)with e|hb
 ·rw[e];exact I.free
 ·obtain⟨_,o,ho,_⟩:=I.ok.i9.mem hb
  exact I.base.free b o ho (I.ok.frf b hb) λz=>I.ok.exfs b z hb
theorem Inv.step{g':Array GenState}{t':Nat}{d':Drawn}{ch:BM}(I:Inv X ae σ H s)
  (yd:∀b∈ch,(b∈X.ex\/X.s₀.heap.objs.size<=b)/\b≠X.env.locals/\(∀x c,X.env.cells.lookup x=some c->c≠b)/\∀p∈X.pn++ae,p.1≠b)
  (keep:∀b o,b≠X.env.locals->b∉X.fs->b∉ch->s.heap.get? b=some o->H b=none->h'.get? b=some o)
  (slot:∀b o,b≠X.env.locals->b∈X.fs->b∉ch->s.heap.get? b=some o->H b=none->∃sl,h'.get? b=some {o with slots:=sl}) (free:∀b o,b∉ch->s.heap.get? b=some o->H b=none->H' b=none)
  (there:∀b o,b∉ch->s.heap.get? b=some o->∃o',h'.get? b=some o')
  (mW:∀b xs,H b=some (.tup xs)->H' b=some (.tup xs)) (k8:∀b o u,H b=some (.gJ o u)->H' b=some (.gJ o u)) (mX:∀b ps,H b=some (.tbl ps)->∃more,H' b=some (.tbl (ps++more)))
  (ns:∀m,s.heap.Ns X.env.locals m->h'.Ns X.env.locals m) (aV:iI X.prog X.w H' h') (hg:AllBare g') :
  Inv X ae σ H' {s with heap:=h',gens:=g',drawn:=d',toks:=t'}:=by
 have VR:∀b o,X.s₀.heap.get? b=some o->b≠X.env.locals:=λb o e=>cL (gy (Heap.lt_size e) I.ok.above);have RB:∀b o,X.s₀.heap.get? b=some o->b∉X.ex->b∉ch:=λb o e hx hb=>by
  rcases(yd b hb).1 with z|z
  ·exact hx z
  ·exact absurd (gy (Heap.lt_size e) z) (mS _)
 have cellK:∀x c,X.env.cells.lookup x=some c->∀v,s.heap.IsCell c v->h'.IsCell c v:=λx c e v zz=>by
  obtain⟨o,ho,hd⟩:=zz;have M8:c∉ch:=λz=>(yd c z).2.2.1 x c e rfl;by_cases hc:c∈X.fs
  ·obtain⟨sl,q⟩:=slot c o (I.C0 x c e) hc M8 ho (I.freeC x c e)
   exact⟨_,q,hd⟩
  ·exact⟨o,keep c o (I.C0 x c e) hc M8 ho (I.freeC x c e),hd⟩
 refine⟨I.ok,I.os,hg,⟨λb o e n hb hx=>?_,λb o e n hb hx=>?_,λb o e n hx=>?_,λb o e hx=>?_,λb xs e=>mW b xs (I.base.mW b xs e),λb o xs e=>k8 b o xs (I.base.k8 b o xs e),λb ps e=>?_⟩,?_,λx c e=>?_,?_,λx c e=>?_,λp hp=>?_,aV,I.len⟩
 ·exact keep b o (VR b o e) hb (RB b o e hx) (I.base.keep b o e n hb hx) (I.base.free b o e n hx)
 ·obtain⟨sl,e1⟩:=I.base.slot b o e n hb hx
  obtain⟨G2,e2⟩:=slot b _ (VR b o e) hb (RB b o e hx) e1 (I.base.free b o e n hx);exact⟨G2,e2⟩
 ·obtain⟨o',e1⟩:=I.base.there b o e hx
  exact free b o' (RB b o e hx) e1 (I.base.free b o e n hx)
 ·obtain⟨o',e1⟩:=I.base.there b o e hx
  exact there b o' (RB b o e hx) e1
 ·obtain⟨m1,e1⟩:=I.base.mX b ps e
  obtain⟨m2,e2⟩:=mX b _ e1;exact⟨m1++m2,by rw[e2,Array.append_assoc]⟩
 ·obtain⟨m,hn,hl⟩:=I.loc
  refine⟨m,ns m hn,λi x v e1 e2 e3=>?_⟩;obtain⟨u,r,l⟩:=hl i x v e1 e2 e3;refine⟨u,r,?_⟩;rcases l with l|⟨k,c,e,z⟩
  ·exact .inl l
  ·exact .inr ⟨k,c,e,cellK x c e _ z⟩
 ·obtain⟨v,z⟩:=I.cell x c e
  exact⟨v,cellK x c e v z⟩
 ·obtain⟨m,⟨o,_,_,ho,_⟩,_⟩:=I.loc
  exact free _ o (λz=>(yd _ z).2.1 rfl) ho I.free
 ·obtain⟨v,o,ho,hd⟩:=I.cell x c e
  exact free c o (λz=>(yd c z).2.2.1 x c e rfl) ho (I.freeC x c e)
 ·obtain⟨e,n,ne,nf,d⟩:=I.pin p hp
  have M8:p.1∉ch:=λz=>(yd p.1 z).2.2.2 p hp rfl;exact⟨keep p.1 p.2 ne nf M8 e n,free p.1 p.2 M8 e n,ne,nf,d⟩
theorem Inv.un{t':Nat}(I:Inv X ae σ H s)(u:Un X.fs [] H H' s.heap h')(aV:iI X.prog X.w H' h'):Inv X ae σ H' {s with heap:=h',toks:=t'}:=by
 obtain⟨m,⟨o,es,ep,ho,r⟩,_⟩:=id I.loc;obtain⟨sl,hL⟩:=u.any ho I.free (by simp)
 exact I.step (g':=s.gens) (d':=s.drawn) (ch:=[]) (λ_ z=>nomatch z) (λb o _ hb _ e n=>u.keep b o e n hb (by simp)) (λb o _ hb _ e n=>u.slot b o e n hb (by simp)) (λb o _ e n=>u.free b o e n (by simp)) (λb o _ e=>u.there b o e (by simp)) u.mW u.k8 u.mX (λm' hm=>by
  obtain⟨o',M9,Sj,yc,r'⟩:=hm;rw[ho]at yc;cases yc;exact⟨_,M9,Sj,hL,r'⟩) aV I.bare
theorem Inv.call{g':Array GenState}{t':Nat}{d':Drawn}{ch:BM}(I:Inv X ae σ H s)(u:Un (mL X.stack) ch H H' s.heap h')(aV:iI X.prog X.w H' h')(hg:AllBare g')
  (yd:∀b∈ch,(b∈X.ex\/X.s₀.heap.objs.size<=b)/\b≠X.env.locals/\(∀x c,X.env.cells.lookup x=some c->c≠b)/\∀p∈X.pn++ae,p.1≠b) :
  Inv X ae σ H' {s with heap:=h',gens:=g',drawn:=d',toks:=t'}:=by
 obtain⟨m,⟨o,es,ep,ho,r⟩,_⟩:=id I.loc;obtain⟨sl,hL⟩:=u.any ho I.free λz=>(yd _ z).2.1 rfl;exact I.step (ch:=ch) yd (λb o hL hb hc e n=>u.keep b o e n (λz=>(cH.mp (I.k9 b z)).elim hL hb) hc) (λb o _ _ hc e n=>u.any e n hc) (λb o hc e n=>u.free b o e n hc) (λb o hc e=>u.there b o e hc) u.mW u.k8 u.mX (λm' hm=>by
  obtain⟨o',M9,Sj,yc,r'⟩:=hm;rw[ho]at yc;cases yc;exact⟨_,M9,Sj,hL,r'⟩) aV hg
theorem Inv.turned{t':Nat}{it:Addr}(I:Inv X ae σ H s)(k:∀b o,b≠it->s.heap.get? b=some o->h'.get? b=some o)(hn:H it=none)(hL:it≠X.env.locals)
  (h1:it∈X.ex\/X.s₀.heap.objs.size<=it) (h2:∀x c,X.env.cells.lookup x=some c->c≠it) (h3:∀p∈X.pn++ae,p.1≠it):Inv X ae σ H {s with heap:=h',toks:=t'}:=by
 have VS:∀b u,H b=some u->b≠it:=λb u e z=>by rw[z,hn]at e;cases e
 refine I.step (g':=s.gens) (d':=s.drawn) (ch:=[it]) (λb hb=>?_) (λb o _ _ hc e _=>k b o (λz=>hc (by simp[z])) e) (λb o _ _ hc e _=>⟨o.slots,k b o (λz=>hc (by simp[z])) e⟩) (λ_ _ _ _ n=>n)
  (λb o hc e=>⟨o,k b o (λz=>hc (by simp[z])) e⟩) (λ_ _ e=>e) (λ_ _ _ e=>e) (λb ps e=>⟨#[],by rw[e];simp⟩) (λm hm=>?_) (λb u e=>?_) I.bare
 ·have e:b=it:=by simpa using hb
  subst e;exact⟨h1,hL,h2,h3⟩
 ·obtain⟨o,es,ep,ho,r⟩:=hm
  exact⟨o,es,ep,k _ o (Ne.symm hL) ho,r⟩
 ·refine(I.aV b u e).o9 (λc v hc q=>k c v ?_ q) (λ_ q=>q) λ_ _ q=>q
  rcases hc with z|z
  ·rw[z];exact VS b u e
  ·exact VS c _ z
theorem Inv.tok(I:Inv X ae σ H s)(t:Nat):Inv X ae σ H {s with toks:=t}:=I.un (h':=s.heap) (t':=t) Un.refl I.aV
theorem Inv.kept{t':Nat}(I:Inv X ae σ H s)(k:∀b u,s.heap.get? b=some u->h'.get? b=some u):Inv X ae σ H {s with heap:=h',toks:=t'}:=I.un (Un.kept k) (I.aV.kept k)
theorem Inv.laid{a:Addr}{o:HO}{t':Nat}(I:Inv X ae σ H s)(k:∀b u,s.heap.get? b=some u->h'.get? b=some u)(hp:s.heap.objs.size<=a)(new:bA X.prog X.w (upd H a o) h' a o) :
  Inv X ae σ (upd H a o) {s with heap:=h',toks:=t'}:=I.un (Un.laid k hp (I.aV.fresh hp)) (I.aV.laid k hp new)
theorem Inv.write{x e:Addr}{o:HO}{t':Nat}(I:Inv X ae σ H s)(mu:M6 (H x))(he:e=x\/H e=some (.own x))(k:∀b u,b≠e->s.heap.get? b=some u->h'.get? b=some u)(MA:∃u,h'.get? e=some u)
  (new:bA X.prog X.w (upd H x o) h' x o):Inv X ae σ (upd H x o) {s with heap:=h',toks:=t'}:=I.un (Un.write mu he k MA) (I.aV.write mu he k MA new)
theorem Inv.weak{σ':List (Option V)}(I:Inv X ae σ H s)(hl:σ'.length=σ.length)(w:∀(i:Nat)v,σ'[i]?=some (some v)->σ[i]?=some (some v)):Inv X ae σ' H s:=
 ⟨I.ok,I.os,I.bare,I.base,let⟨m,hn,IC⟩:=I.loc;⟨m,hn,λi x v e1 e2 e3=>IC i x v e1 (w i v e2) e3⟩,I.cell,I.free,I.freeC,I.pin,I.aV,hl.trans I.len⟩
theorem Inv.ph{G4:b7}(I:Inv X ae σ H s)(h:∀p∈G4,s.heap.get? p.1=some p.2/\H p.1=none/\p.1≠X.env.locals/\p.1∉X.fs/\∀v,p.2.data≠.cell v):Inv X G4 σ H s:=
 ⟨I.ok,I.os,I.bare,I.base,I.loc,I.cell,I.free,I.freeC,λp hp=>(qp.mp hp).elim (λz=>I.pin p (yV _ z)) (h p),I.aV,I.len⟩
theorem k_{N:Bi}(hN:N.Nodup){i j:Nat}{x:Str}(a:N[i]?=some x)(b:N[j]?=some x):i=j:=by
 obtain⟨h1,e1⟩:=eT.mp a;obtain⟨h2,e2⟩:=eT.mp b;exact(List.getElem_inj hN).mp (e1.trans e2.symm)
theorem nK{M:Model}{A:Around}{E:Value->Shared->Prop}{i:Nat}{x:Str}{v:V}{u:Value}{Q:Unit->Shared->Prop}(I:Inv X ae σ H s)(hN:X.N.Nodup)(hi:X.N[i]?=some x)(hx:Loc X.env.scope x)(r:RelV v u)
  (h:∀s',Inv X ae (σ.set i (some v)) H s'->(∃a,Heap.SameBut a s.heap s'.heap/\(a=X.env.locals\/X.env.cells.lookup x=some a))->Q () s') (hf:X.fn x=true\/X.env.scope.names.lookup x=some .local:=by first|exact .inl rfl|exact .inr rfl|assumption):wpAny M A (storeName X.env x u) Q E s:=by
 obtain⟨m,hn,hl⟩:=id I.loc;have ID:(X.env.scope.kind == .class ||(X.env.scope.kind == .module&&X.env.locals != X.env.globals))=false:=by rw[I.ok.kind];rfl
 have hiσ:i<σ.length:=by rw[I.len];exact(eT.mp hi).1
 have C0:=I.C0;have tracked:∀{a:Addr}{h':Heap},(∃o,s.heap.get? a=some o/\H a=none)->Heap.SameBut a s.heap h'->iI X.prog X.w H h':=λ{a h'} ha hs b ob e=>by
  obtain⟨_,_,nL⟩:=ha;refine(I.aV b ob e).o9 (λc w' hc q=>(hs.2 c ?_).trans q) (λ_ q=>q) λ_ _ q=>q
  rintro rfl
  rcases hc with rfl|hc
  ·rw[nL]at e;cases e
  ·rw[nL]at hc;cases hc
 rcases hx with hk|hk
 ·refine wpAny_storeName_local hk hn (λh' Sk hs=>?_) ID
  obtain⟨oL,_,_,VT,_⟩:=id hn;refine h _ ⟨I.ok,I.os,I.bare,⟨λb o e n hb hx=>?_,λb o e n hb hx=>?_,I.base.free,λb o e hx=>?_,I.base.mW,I.base.k8,I.base.mX⟩,⟨_,Sk,λj y v' e1 e2 e3=>?_⟩,λy c e=>?_,I.free,I.freeC,λp hp=>?_,tracked ⟨oL,VT,I.free⟩ hs,by simpa using I.len⟩ ⟨_,hs,.inl rfl⟩
  ·exact(hs.2 b (cL (gy (Heap.lt_size e) I.ok.above))).trans (I.base.keep b o e n hb hx)
  ·obtain⟨sl,e1⟩:=I.base.slot b o e n hb hx
   exact⟨sl,(hs.2 b (cL (gy (Heap.lt_size e) I.ok.above))).trans e1⟩
  ·obtain⟨o',e1⟩:=I.base.there b o e hx
   exact⟨o',(hs.2 b (cL (gy (Heap.lt_size e) I.ok.above))).trans e1⟩
  ·by_cases hj:j=i
   ·subst hj
    rw[hi]at e1;cases e1;rw[c9 hiσ]at e2;cases e2;exact⟨u,r,.inl ⟨hk,by simp⟩⟩
   ·rw[gF (Ne.symm hj)]at e2
    obtain⟨u',r',q⟩:=hl j y v' e1 e2 e3;refine⟨u',r',?_⟩;rcases q with⟨k,e⟩|⟨k,c,e,z⟩
    ·refine .inl ⟨k,?_⟩
     have:y≠x:=λe=>hj (k_ hN e1 (e▸hi))
     simp[this,e]
    ·exact .inr ⟨k,c,e,z.sameBut hs (C0 y c e)⟩
  ·obtain⟨w',z⟩:=I.cell y c e
   exact⟨w',z.sameBut hs (C0 y c e)⟩
  ·obtain⟨e,n,ne,nf,d⟩:=I.pin p hp
   exact⟨(hs.2 p.1 ne).trans e,n,ne,nf,d⟩
 ·have M_:X.fn x=true:=by
   rcases hf with z|z
   ·exact z
   ·rw[z]at hk;cases hk
  obtain⟨c,hc⟩:=I.ok.has x (.inl hk);obtain⟨w',z⟩:=I.cell x c hc;refine wpAny_storeName_cell I.ok.kind hk hc z (λh' VU hs=>?_);obtain⟨oc,VW,Sl⟩:=id z;refine h {s with heap:=h'} ⟨I.ok,I.os,I.bare,⟨λb o e n hb hx=>?_,λb o e n hb hx=>?_,I.base.free,λb o e hx=>?_,I.base.mW,I.base.k8,I.base.mX⟩,⟨m,hn.sameBut hs (Ne.symm (C0 x c hc)),λj y v' e1 e2 e3=>?_⟩,λy c' e=>?_,I.free,I.freeC,λp hp=>?_,tracked ⟨oc,VW,I.freeC x c hc⟩ hs,by simpa using I.len⟩ ⟨c,hs,.inr hc⟩
  ·exact(hs.2 b (cL (gy (Heap.lt_size e) (I.ok.cab x c M_ hc)))).trans (I.base.keep b o e n hb hx)
  ·obtain⟨sl,e1⟩:=I.base.slot b o e n hb hx
   exact⟨sl,(hs.2 b (cL (gy (Heap.lt_size e) (I.ok.cab x c M_ hc)))).trans e1⟩
  ·obtain⟨o',e1⟩:=I.base.there b o e hx
   exact⟨o',(hs.2 b (cL (gy (Heap.lt_size e) (I.ok.cab x c M_ hc)))).trans e1⟩
  ·by_cases hj:j=i
   ·subst hj
    rw[hi]at e1;cases e1;rw[c9 hiσ]at e2;cases e2;exact⟨u,r,.inr ⟨.inl hk,c,hc,VU⟩⟩
   ·rw[gF (Ne.symm hj)]at e2
    obtain⟨u',r',q⟩:=hl j y v' e1 e2 e3;refine⟨u',r',?_⟩;rcases q with q|⟨k,c',e,z'⟩
    ·exact .inl q
    ·refine .inr ⟨k,c',e,z'.sameBut hs ?_⟩
     rintro rfl
     exact hj (k_ hN e1 (I.ok.inj _ _ _ e hc▸hi))
  ·by_cases MB:c'=c
   ·subst MB;exact⟨_,VU⟩
   ·obtain⟨w2,z2⟩:=I.cell y c' e
    exact⟨w2,z2.sameBut hs MB⟩
  ·obtain⟨e,n,ne,nf,d⟩:=I.pin p hp
   refine⟨(hs.2 p.1 ?_).trans e,n,ne,nf,d⟩;intro q;rw[q,VW]at e;have q':oc=p.2:=jH.inj e;exact d w' (by rw[<- q'];exact Sl)
theorem i_{M:Model}{A:Around}{E:Value->Shared->Prop}{i:Nat}{x:Str}{v:V}{u:Value}{Q:Unit->Shared->Prop}(I:Inv X ae σ H s)(hN:X.N.Nodup)(hi:X.N[i]?=some x)(hx:Loc X.env.scope x)(r:RelV v u)
  (h:∀s',Inv X ae (σ.set i (some v)) H s'->Q () s') (hf:X.fn x=true\/X.env.scope.names.lookup x=some .local:=by first|exact .inl rfl|exact .inr rfl|assumption):wpAny M A (storeName X.env x u) Q E s:=
 nK I hN hi hx r (λs' I' _=>h s' I') hf
theorem Inv.zm{s':Shared}{ch:BM}(I:Inv X ae σ H s)(ho:s'.os=s.os)(u:Un (mL X.stack) ch H H' s.heap s'.heap)(aV:iI X.prog X.w H' s'.heap)(hg:AllBare s'.gens)
  (yd:∀b∈ch,(b∈X.ex\/X.s₀.heap.objs.size<=b)/\b≠X.env.locals/\(∀x c,X.env.cells.lookup x=some c->c≠b)/\∀p∈X.pn++ae,p.1≠b):Inv X ae σ H' s':=by
 obtain⟨h',g',d',t',o'⟩:=s';have e:o'=s.os:=ho;subst e;exact I.call (g':=g') (t':=t') (d':=d') u aV hg yd
end
abbrev XK:=Value->Option Addr->Hp->Prop
abbrev St:=List (Option V)
abbrev VK:=V->Hp->Prop
abbrev TE:=St->Hp->VK->Prop
abbrev TT:=St->Hp->(Bool->Hp->Prop)->Prop
abbrev TA:=St->Hp->(List V->Hp->Prop)->Prop
structure Ends where
 nx:St->Hp->Prop
 rt:VK
 bk:St->Hp->Prop:=λ_ _=>False
 ct:St->Hp->Prop:=λ_ _=>False
abbrev TS:=Ends->St->Hp->Prop
def EP(X:Cx)(ae:b7)(σ:St)(Q:VK)(u:Value)(s':Shared):Prop:=∃v H',Inv X ae σ H' s'/\RelV v u/\Q v H'
def TP(X:Cx)(ae:b7)(σ:St)(Q:Bool->Hp->Prop)(b:Bool)(s':Shared):Prop:=∃H',Inv X ae σ H' s'/\Q b H'
def AP(X:Cx)(ae:b7)(σ:St)(Q:List V->Hp->Prop)(us:B2)(s':Shared):Prop:=∃vs H',Inv X ae σ H' s'/\Vals vs us/\Q vs H'
def SP(X:Cx)(ae:b7)(D:Ends)(f:Flow)(s':Shared):Prop:=
 match f with
 |.next=>∃σ' H',Inv X ae σ' H' s'/\D.nx σ' H'
 |.brk=>∃σ' H',Inv X ae σ' H' s'/\D.bk σ' H'
 |.cont=>∃σ' H',Inv X ae σ' H' s'/\D.ct σ' H'
 |.ret u=>∃v σ' H',Inv X ae σ' H' s'/\RelV v u/\D.rt v H'
def PE(X:Cx)(e:Expr)(t:TE):Prop:=
 ∀(ae:b7)(s:Shared)(σ:St)(H:Hp)(Q:VK),Inv X ae σ H s->t σ H Q->wpAny (model X.prog X.w) X.A (eval e X.env) (EP X ae σ Q) X.xe s
def PT(X:Cx)(e:Expr)(t:TT):Prop:=
 ∀(ae:b7)(s:Shared)(σ:St)(H:Hp)(Q:Bool->Hp->Prop),Inv X ae σ H s->t σ H Q->wpAny (model X.prog X.w) X.A (isTrue e X.env (eval e X.env)) (TP X ae σ Q) X.xe s
def PW(X:Cx)(e:Expr)(t:TT):Prop:=
 ∀(gj:Sem Value)(ae:b7)(s:Shared)(σ:St)(H:Hp)(Q:Bool->Hp->Prop),Inv X ae σ H s->t σ H Q->wpAny (model X.prog X.w) X.A (isTrue e X.env gj) (TP X ae σ Q) X.xe s
theorem PW.pt{X:Cx}{e:Expr}{t:TT}(h:PW X e t):PT X e t:=h _
def PA(X:Cx)(es:Bz)(t:TA):Prop:=
 ∀(pos:Pos)(ae:b7)(s:Shared)(σ:St)(H:Hp)(Q:List V->Hp->Prop),Inv X ae σ H s->t σ H Q->wpAny (model X.prog X.w) X.A (spliced (backTo pos (starEach es X.env))) (AP X ae σ Q) X.xe s
def PS(X:Cx)(st:Stmt)(t:TS):Prop:=
 ∀(ae:b7)(s:Shared)(σ:St)(H:Hp)(D:Ends),Inv X ae σ H s->t D σ H->wpAny (model X.prog X.w) X.A (exec st X.env) (SP X ae D) X.xe s
def fm(X:Cx)(st:DD)(t:TS):Prop:=
 ∀(ae:b7)(s:Shared)(σ:St)(H:Hp)(D:Ends),Inv X ae σ H s->t D σ H->wpAny (model X.prog X.w) X.A (execs st X.env) (SP X ae D) X.xe s
theorem bo{α:Type}{t:Sem α}{Q Q':α->Shared->Prop}{M:Model}{A:Around}{E:Value->Shared->Prop}{s:Shared}(h:wpAny M A t Q E s)(hQ:∀a s,Q a s->Q' a s):wpAny M A t Q' E s:=wpAny_mono h hQ λ_ _ x=>x
section
variable{X:Cx}
def sJ(i:Nat):TE:=λσ H Q=>∃v,σ[i]?=some (some v)/\Q v H
def tC(v:V):TE:=λ_ H Q=>Q v H
theorem bG{i:Nat}{x:Str}{pos:Pos}(hN:X.N[i]?=some x)(hv:kI X.env.scope x)(hd:aQ x:=by decide)(eO:dZ x:=by decide):PE X (.Name x pos) (sJ i):=by
 intro ae s σ H Q I h;obtain⟨v,e,h⟩:=h;obtain⟨m,hn,hl⟩:=I.loc;obtain⟨u,r,l⟩:=hl i x v hN e hv;have fin:EP X ae σ Q u s:=⟨v,H,I,r,h⟩;rcases l with⟨hk,hm⟩|⟨hk,c,hc,hcell⟩
 ·exact wpAny_Name (wpAny_loadName_local I.ok.kind hk hn hm fin) hd
 ·rcases hk with hk|hk
  ·exact wpAny_Name (wpAny_loadName_cell I.ok.kind hk hc hcell fin) hd
  ·exact wpAny_Name (wpAny_loadName_free I.ok.kind hk hc hcell fin eO) hd
theorem zo{i j pos}:PE X (.Constant (.int i) j pos) (tC (.int i)):=λ_ _ _ H _ I h=>wpAny_Constant_int ⟨.int i,H,I.tok _,⟨_,rfl⟩,h⟩
theorem G5{b j pos}:PE X (.Constant (.bool b) j pos) (tC (.bl b)):=λ_ _ _ H _ I h=>Constant_bool ⟨.bl b,H,I,rfl,h⟩
theorem IE{j pos}:PE X (.Constant .none j pos) (tC .non):=λ_ _ _ H _ I h=>Constant_none ⟨.non,H,I,rfl,h⟩
theorem pj{x j pos}:PE X (.Constant (.str x) j pos) (tC (.str x)):=λ_ _ _ H _ I h=>Calls.Constant_str ⟨.str x,H,I.tok _,⟨_,rfl⟩,h⟩
def Gl(X:Cx)(x:Str):Prop:=X.env.kindOf x=some .globalImplicit
theorem fX{E:Value->Shared->Prop}{ae:b7}{s:Shared}{σ:St}{H:Hp}{x:Str}{u:Value}{pos:Pos}{Q:Value->Shared->Prop}(I:Inv X ae σ H s)(hg:Gl X x)(hm:X.mg x=some u)(h:Q u s)
  (hd:aQ x:=by decide):wpAny (model X.prog X.w) X.A (eval (.Name x pos) X.env) Q E s:=
 Calls.Name_function_global I.ok.kind hg (Calls.loadGlobal_global (by rw[I.ok.glob];exact I.mod.glob.keeps I.bk) hm h) hd
theorem dI{E:Value->Shared->Prop}{ae:b7}{s:Shared}{σ:St}{H:Hp}{x:Str}{u:Value}{pos:Pos}{Q:Value->Shared->Prop}(I:Inv X ae σ H s)(hg:Gl X x)(hm:X.mg x=none)(hv:bootBuiltins x=some u)(h:Q u s)
  (hn:x ≠ "__name__" := by decide) (hd:aQ x:=by decide):wpAny (model X.prog X.w) X.A (eval (.Name x pos) X.env) Q E s:=by
 obtain⟨mb,h1,h2⟩:=I.mod.blt;exact Calls.Name_function_global I.ok.kind hg (Calls.loadGlobal_builtin (by rw[I.ok.glob];exact I.mod.glob.keeps I.bk) hm (by rw[I.ok.blt];exact h1.keeps I.bk) ((h2 x hn).trans hv) h) hd
theorem kJ{x:Str}{v:V}{u:Value}{pos:Pos}(hg:Gl X x)(hm:X.mg x=some u)(r:RelV v u)(hd:aQ x:=by decide):PE X (.Name x pos) (tC v):=
 λ_ _ _ H _ I h=>fX I hg hm ⟨v,H,I,r,h⟩ hd
theorem uE{x:Str}{v:V}{u:Value}{pos:Pos}(hg:Gl X x)(hm:X.mg x=none)(hv:bootBuiltins x=some u)(r:RelV v u)(hn:x ≠ "__name__" := by decide)(hd:aQ x:=by decide):PE X (.Name x pos) (tC v):=
 λ_ _ _ H _ I h=>dI I hg hm hv ⟨v,H,I,r,h⟩ hn hd
variable{a:Expr}{ta tb:TE}
def tB(t:TE):TT:=λσ H Q=>t σ H λx H1=>∃c,x=.bl c/\Q c H1
variable{tA RC:TT}{rest:Bz}
def Sm(t u:TT):TT:=λσ H Q=>t σ H λc H1=>if c=true then u σ H1 Q else Q false H1
def XD(t u:TT):TT:=λσ H Q=>t σ H λc H1=>if c=true then Q true H1 else u σ H1 Q
def Sn(t:TT):TT:=λσ H Q=>t σ H λc H1=>Q (!c) H1
theorem C3(ha:PT X a tA):PW X (.BoolOp .And [a] pos) tA:=by
 intro wh ae s σ H Q I h;refine isTrue_and (bo (ha ae s σ H Q I h) λc s1 e=>?_);cases c with
 |true=>exact isTrue_and_nil e
 |false=>exact e
theorem IF(ha:PT X a tA):PW X (.BoolOp .Or [a] pos) tA:=by
 intro wh ae s σ H Q I h;refine isTrue_or (bo (ha ae s σ H Q I h) λc s1 e=>?_);cases c with
 |false=>exact isTrue_or_nil e
 |true=>exact e
theorem IG(ha:PT X a tA)(hb:PW X (.BoolOp .And (b::rest) pos) RC):PW X (.BoolOp .And (a::b::rest) pos) (Sm tA RC):=by
 intro wh ae s σ H Q I h;refine isTrue_and (bo (ha ae s σ H _ I h) λc s1 zz=>?_);obtain⟨H1,I1,q1⟩:=zz;cases c with
 |true=>exact hb wh ae s1 σ H1 Q I1 q1
 |false=>exact⟨H1,I1,q1⟩
theorem Na(ha:PT X a tA)(hb:PW X (.BoolOp .Or (b::rest) pos) RC):PW X (.BoolOp .Or (a::b::rest) pos) (XD tA RC):=by
 intro wh ae s σ H Q I h;refine isTrue_or (bo (ha ae s σ H _ I h) λc s1 zz=>?_);obtain⟨H1,I1,q1⟩:=zz;cases c with
 |true=>exact⟨H1,I1,q1⟩
 |false=>exact hb wh ae s1 σ H1 Q I1 q1
theorem II(ha:PT X a tA):PT X (.UnaryOp .Not a pos) (Sn tA):=by
 intro ae s σ H Q I h;exact isTrue_not (ha ae s σ H (λc H1=>Q (!c) H1) I h)
def Nb(ta tb:TE):TE:=λσ H Q=>ta σ H λx H1=>∃c,x=.bl c/\if c=true then tb σ H1 Q else Q (.bl false) H1
def So(ta tb:TE):TE:=λσ H Q=>ta σ H λx H1=>∃c,x=.bl c/\if c=true then Q (.bl true) H1 else tb σ H1 Q
def Nc(ta:TE):TE:=λσ H Q=>ta σ H λx H1=>∃c,x=.bl c/\Q (.bl (!c)) H1
theorem IJ{op}{t:TE}(h:PE X a t):PE X (.BoolOp op [a] pos) t:=λae s σ H Q I hw=>BoolOp_one (h ae s σ H Q I hw)
theorem IK(ha:PE X a ta)(hb:PE X (.BoolOp .And (b::rest) pos) tb):PE X (.BoolOp .And (a::b::rest) pos) (Nb ta tb):=by
 intro ae s σ H Q I h;refine BoolOp_and (bo (ha ae s σ H _ I h) λv s1 zz=>?_);obtain⟨x,H1,I1,r1,q1⟩:=zz;obtain⟨c,rfl,q1⟩:=q1;cases r1;refine wpAny_truthy_bool ?_;cases c with
 |true=>exact hb ae s1 σ H1 Q I1 q1
 |false=>exact⟨.bl false,H1,I1,rfl,q1⟩
theorem Nd(ha:PE X a ta)(hb:PE X (.BoolOp .Or (b::rest) pos) tb):PE X (.BoolOp .Or (a::b::rest) pos) (So ta tb):=by
 intro ae s σ H Q I h;refine BoolOp_or (bo (ha ae s σ H _ I h) λv s1 zz=>?_);obtain⟨x,H1,I1,r1,q1⟩:=zz;obtain⟨c,rfl,q1⟩:=q1;cases r1;refine wpAny_truthy_bool ?_;cases c with
 |false=>exact hb ae s1 σ H1 Q I1 q1
 |true=>exact⟨.bl true,H1,I1,rfl,q1⟩
theorem IL(ha:PE X a ta):PE X (.UnaryOp .Not a pos) (Nc ta):=by
 intro ae s σ H Q I h;refine UnaryOp_ (bo (ha ae s σ H _ I h) λv s1 zz=>?_);obtain⟨x,H1,I1,r1,q1⟩:=zz;obtain⟨c,rfl,q1⟩:=q1;cases r1;exact not_of (wpAny_truthy_bool ⟨.bl (!c),H1,I1,rfl,q1⟩)
def XE(t:TT)(ta tb:TE):TE:=λσ H Q=>t σ H λc H1=>if c=true then ta σ H1 Q else tb σ H1 Q
theorem qu{c:Expr}(hc:PT X c tA)(ha:PE X a ta)(hb:PE X b tb):PE X (.IfExp c a b pos) (XE tA ta tb):=by
 intro ae s σ H Q I h;refine wpAny_IfExp (bo (hc ae s σ H _ I h) λd s1 zz=>?_);obtain⟨H1,I1,q1⟩:=zz;cases d with
 |true=>exact ha ae s1 σ H1 Q I1 q1
 |false=>exact hb ae s1 σ H1 Q I1 q1
end
def bW(K:aS)(H:Hp)(a:Addr)(xs:List V):Prop:=
 Rd H a (.lst xs) \/
  ∃(o:Obj)(av:Array Value)(n:Nat),K.lookup a=some o/\o.cls=.type "list" /\ o.dict=none/\o.data=.seq av n/\av.size<=sizeLine/\Vals xs av.toList
def jZ(K:aS)(H:Hp)(a:Addr)(xs:List V):Prop:=
 Rd H a (.tup xs) \/
  ∃(o:Obj)(av:Array Value)(n:Nat),K.lookup a=some o/\o.cls=.type "tuple" /\ o.data=.seq av n/\av.size<=sizeLine/\Vals xs av.toList
def Sq:Value->Option V
 |.none=>some .non
 |.bool b=>some (.bl b)
 |.int i _=>some (.int i)
 |.str x _=>some (.str x)
 |.bytes b _=>some (.byt b)
 |.float b _=>some (.flt b)
 |.ref a=>some (.ref a)
 |.type n=>some (.ty n)
 |_=>none
theorem RelV.abs{x:V}{u:Value}(r:RelV x u):Sq u=some x:=by
 cases x with
 |non=>cases r;rfl
 |bl _=>cases r;rfl
 |int _=>obtain⟨t,rfl⟩:=r;rfl
 |str _=>obtain⟨t,rfl⟩:=r;rfl
 |byt _=>obtain⟨t,rfl⟩:=r;rfl
 |flt _=>obtain⟨t,rfl⟩:=r;rfl
 |ref _=>cases r;rfl
 |ty _=>cases r;rfl
theorem RelV.inj{x y:V}{u:Value}(r:RelV x u)(q:RelV y u):x=y:=jH.inj (r.abs.symm.trans q.abs)
theorem Vals.inj:∀{xs ys:List V}{us:B2},Vals xs us->Vals ys us->xs=ys
 |_,_,_,.nil,.nil=>rfl
 |_,_,_,.cons r t,.cons r' t'=>by rw[r.inj r',Vals.inj t t']
section
variable{X:Cx}{σ:St}{xs ys:List V}
theorem bW.of{K:aS}(h:H a=some (.lst xs)):bW K H a xs:=.inl (.inl h)
theorem jZ.of{K:aS}(h:H a=some (.tup xs)):jZ K H a xs:=.inl (.inl h)
theorem Inv.list(I:Inv X ae σ H s)(h:bW X.K H a xs):∃av:B2,Vals xs av/\PlainL s.heap a av.toArray/\xs.length<=sizeLine:=by
 rcases h with h|⟨o,av,n,hk,hc,hd,hs,hz,r⟩
 ·obtain⟨z,av,n,r,e⟩:=h.ok I.aV
  exact⟨av,r,⟨_,n,e,rfl,rfl,rfl⟩,z⟩
 ·refine⟨av.toList,r,⟨o,n,I.gK a o hk,hc,hd,by simpa using hs⟩,?_⟩
  have e:=r.length;simp only[Array.length_toList]at e;omega
theorem Inv.tuple(I:Inv X ae σ H s)(h:jZ X.K H a xs):∃av:B2,Vals xs av/\IsTup s.heap a av.toArray/\xs.length<=sizeLine:=by
 rcases h with h|⟨o,av,n,hk,hc,hs,hz,r⟩
 ·obtain⟨z,av,r,p⟩:=h.ok I.aV
  exact⟨av,r,p,z⟩
 ·refine⟨av.toList,r,⟨o,I.gK a o hk,hc,n,by simpa using hs⟩,?_⟩
  have e:=r.length;simp only[Array.length_toList]at e;omega
theorem Inv.zp(I:Inv X ae σ H s)(h:bW X.K H a xs)(h':bW X.K H a ys):xs=ys:=by
 obtain⟨av,r,⟨o,n,e,_,_,d⟩,_⟩:=I.list h;obtain⟨its',r',⟨o',n',e',_,_,d'⟩,_⟩:=I.list h';rw[e]at e';cases e';rw[d]at d';injection d' with d1 _
 have:av=its':=by simpa using congrArg Array.toList d1
 subst this;exact r.inj r'
theorem Inv.nM(I:Inv X ae σ H s)(h:jZ X.K H a xs)(h':jZ X.K H a ys):xs=ys:=by
 obtain⟨av,r,⟨o,e,_,n,d⟩,_⟩:=I.tuple h;obtain⟨its',r',⟨o',e',_,n',d'⟩,_⟩:=I.tuple h';rw[e]at e';cases e';rw[d]at d';injection d' with d1 _
 have:av=its':=by simpa using congrArg Array.toList d1
 subst this;exact r.inj r'
end
abbrev Cx.mY(X:Cx)(E:Value->Shared->Prop):Cx:={X with xe:=E}
abbrev Cx.zq(X:Cx):Cx:=X.mY λ_ _=>False
theorem Cx.Ok.mY{X:Cx}(ok:X.Ok)(E:Value->Shared->Prop):(X.mY E).Ok:=
 ⟨ok.mod,ok.kind,ok.glob,ok.blt,ok.above,ok.inj,ok.has,ok.cab,ok.hd,ok.frames,ok.stk,ok.exf,ok.bs,ok.bsz,ok.noex,ok.exfs,ok.i9,ok.frf⟩
theorem Cx.Ok.gM{X:Cx}{E:Value->Shared->Prop}(ok:(X.mY E).Ok):X.Ok:=
 ⟨ok.mod,ok.kind,ok.glob,ok.blt,ok.above,ok.inj,ok.has,ok.cab,ok.hd,ok.frames,ok.stk,ok.exf,ok.bs,ok.bsz,ok.noex,ok.exfs,ok.i9,ok.frf⟩
section
variable{X:Cx}{σ:St}
theorem Inv.mY(I:Inv X ae σ H s)(E:Value->Shared->Prop):Inv (X.mY E) ae σ H s:=⟨I.ok.mY E,I.os,I.bare,I.base,I.loc,I.cell,I.free,I.freeC,I.pin,I.aV,I.len⟩
theorem Inv.gM(I:Inv (X.mY E) ae σ H s):Inv X ae σ H s:=⟨I.ok.gM,I.os,I.bare,I.base,I.loc,I.cell,I.free,I.freeC,I.pin,I.aV,I.len⟩
theorem SP.gM{D:Ends}{f:Flow}{s':Shared}(h:SP (X.mY E) ae D f s'):SP X ae D f s':=by
 cases f with
 |next=>obtain⟨σ',H',I,q⟩:=h;exact⟨σ',H',I.gM,q⟩
 |brk=>obtain⟨σ',H',I,q⟩:=h;exact⟨σ',H',I.gM,q⟩
 |cont=>obtain⟨σ',H',I,q⟩:=h;exact⟨σ',H',I.gM,q⟩
 |ret u=>obtain⟨v,σ',H',I,r,q⟩:=h;exact⟨v,σ',H',I.gM,r,q⟩
theorem fm.zq{st:DD}{t:TS}(h:fm X.zq st t):fm X st t:=λae s σ H D I hw=>
 wpAny_mono (h ae s σ H D (I.mY _) hw) (λ_ _ q=>q.gM) λ_ _ z=>False.elim z
end
section
variable{X:Cx}{st:Stmt}{rest:DD}{t u:TS}{te:TE}
def zr:TS:=λD σ H=>D.nx σ H
def Nf(t u:TS):TS:=λD σ H=>t {D with nx:=u D} σ H
theorem pA:fm X [] zr:=λ_ _ σ H _ I h=>wpAny_execs_nil ⟨σ,H,I,h⟩
theorem fG(h1:PS X st t)(h2:fm X rest u):fm X (st::rest) (Nf t u):=by
 intro ae s σ H D I h;refine wpAny_execs_cons (bo (h1 ae s σ H {D with nx:=u D} I h) λf s1 q=>?_)
 cases f with
 |next=>
  obtain⟨σ',H',I',q⟩:=q;exact h2 ae s1 σ' H' D I' q
 |ret v=>exact q
 |brk=>exact q
 |cont=>exact q
theorem kK(h1:PS X st t):fm X [st] t:=by
 intro ae s σ H D I h;refine wpAny_execs_cons (bo (h1 ae s σ H D I h) λf s1 q=>?_);cases f with
 |next=>exact wpAny_execs_nil q
 |ret v=>exact q
 |brk=>exact q
 |cont=>exact q
def IM:TS:=λD σ H=>D.bk σ H
def Ng:TS:=λD σ H=>D.ct σ H
theorem C4:PS X (.Pass pos) zr:=λ_ _ σ H _ I h=>wpAny_Pass ⟨σ,H,I,h⟩
theorem zt:PS X (.Break pos) IM:=λ_ _ σ H _ I h=>wpAny_Break ⟨σ,H,I,h⟩
theorem qv:PS X (.Continue pos) Ng:=λ_ _ σ H _ I h=>wpAny_Continue ⟨σ,H,I,h⟩
theorem Inv.quiet{ae:b7}{σ:St}{H:Hp}{s:Shared}(I:Inv X ae σ H s):interactive X.env=false:=by simp[interactive,I.ok.kind]
def Nh(te:TE):TS:=λD σ H=>te σ H λ_ H1=>D.nx σ H1
theorem kL(he:PE X e te)(hs:swapsWith e none pos.line X.env=pure false:=by rfl):PS X (.Expr e pos) (Nh te):=by
 intro ae s σ H D I h;exact wpAny_Expr_any (bo (he ae s σ H _ I h) λv s1 ⟨x,H1,I1,r1,q1⟩=>⟨σ,H1,I1,q1⟩) I.quiet hs
def Ss(te:TE):TS:=λD σ H=>te σ H D.rt
theorem IP(he:PE X e te):PS X (.Return (some e) pos) (Ss te):=by
 intro ae s σ H D I h;exact wpAny_Return_some (bo (he ae s σ H _ I h) λv s1 ⟨x,H1,I1,r1,q1⟩=>⟨x,σ,H1,I1,r1,q1⟩)
def Ni:TS:=λD _ H=>D.rt .non H
theorem C5:PS X (.Return none pos) Ni:=λ_ _ σ H _ I h=>wpAny_Return_none ⟨.non,σ,H,I,rfl,h⟩
def Su(c:TT)(t u:TS):TS:=λD σ H=>c σ H λb H1=>if b=true then t D σ H1 else u D σ H1
theorem G6{c:Expr}{a b:DD}{tc:TT}(hc:PT X c tc)(ha:fm X a t)(hb:fm X b u):PS X (.If c a b pos) (Su tc t u):=by
 intro ae s σ H D I h;refine wpAny_If (bo (hc ae s σ H _ I h) λd s1 zz=>?_);obtain⟨H1,I1,q1⟩:=zz;cases d with
 |true=>exact ha ae s1 σ H1 D I1 q1
 |false=>exact hb ae s1 σ H1 D I1 q1
end
abbrev TG:=V->St->Hp->(St->Hp->Prop)->Prop
abbrev Cr:=List V->St->Hp->(St->Hp->Prop)->Prop
def PG(X:Cx)(target:Expr)(t:TG):Prop:=
 ∀(ae:b7)(s:Shared)(σ:St)(H:Hp)(v:V)(u:Value)(Q:St->Hp->Prop),Inv X ae σ H s->RelV v u->t v σ H Q ->
  wpAny (model X.prog X.w) X.A (assign target X.env u) (λ_ s'=>∃σ' H',Inv X ae σ' H' s'/\Q σ' H') X.xe s
def MC(X:Cx)(ts:Bz)(t:Cr):Prop:=
 ∀(ae:b7)(s:Shared)(σ:St)(H:Hp)(vs:List V)(us:B2)(Q:St->Hp->Prop),Inv X ae σ H s->Vals vs us->t vs σ H Q ->
  wpAny (model X.prog X.w) X.A (assignInOrder ((assignEach ts X.env).map (·.2)) us) (λ_ s'=>∃σ' H',Inv X ae σ' H' s'/\Q σ' H') X.xe s
abbrev IQ:=V->V->V->Hp->(Hp->Prop)->Prop
def Nj(X:Cx)(t:IQ):Prop:=
 ∀(ae:b7)(s:Shared)(σ:St)(H:Hp)(o i v:V)(ov iv u:Value)(Q:Hp->Prop),Inv X ae σ H s->RelV o ov->RelV i iv->RelV v u->t o i v H Q ->
  wpAny (model X.prog X.w) X.A (setItem ov iv u) (λ_ s'=>∃H',Inv X ae σ H' s'/\Q H') X.xe s
abbrev RD:=V->V->Hp->VK->Prop
def VX(X:Cx)(op:Operator)(t:RD):Prop:=
 ∀(ae:b7)(s:Shared)(σ:St)(H:Hp)(x y:V)(v u:Value)(Q:VK),Inv X ae σ H s->RelV x v->RelV y u->t x y H Q ->
  wpAny (model X.prog X.w) X.A (inplaceOp op v u) (EP X ae σ Q) X.xe s
section
variable{X:Cx}
def uF(i:Nat):TG:=λv σ H Q=>Q (σ.set i (some v)) H
theorem pC{i:Nat}{x:Str}(hN:X.N.Nodup)(hi:X.N[i]?=some x)(hx:Loc X.env.scope x)(hf:X.fn x=true\/X.env.scope.names.lookup x=some .local:=by first|exact .inl rfl|exact .inr rfl|assumption):PG X (.Name x pos) (uF i):=by
 intro ae s σ H v u Q I r h;exact wpAny_assign_Name (i_ I hN hi hx r (λs' I'=>⟨_,H,I',h⟩) hf)
def Nk:Cr:=λvs σ H Q=>vs=[]/\Q σ H
def G7(t:TG)(u:Cr):Cr:=λvs σ H Q=>∃v r,vs=v::r/\t v σ H λσ' H'=>u r σ' H' Q
theorem C6:MC X [] Nk:=by
 intro ae s σ H vs us Q I r h;obtain⟨e,h⟩:=h;subst e;cases r;exact assignInOrder_nil ⟨σ,H,I,h⟩
theorem zu{e:Expr}{es:Bz}{t:TG}{u:Cr}(h1:PG X e t)(h2:MC X es u)
  (hs:(assignEach (e::es) X.env).map (·.2)=assign e X.env::(assignEach es X.env).map (·.2):=by rfl):MC X (e::es) (G7 t u):=by
 intro ae s σ H vs us Q I r h;obtain⟨v,vr,e1,h⟩:=h;subst e1;cases r with
 |cons r rr=>
  rw[hs];refine assignInOrder_cons (bo (h1 ae s σ H _ _ _ I r h) λ_ s1 zz=>?_);obtain⟨σ1,H1,I1,q1⟩:=zz;exact h2 ae s1 σ1 H1 _ _ Q I1 rr q1
def IS(K:aS)(n:Nat)(t:Cr):TG:=λv σ H Q=>∃a xs,v=.ref a/\jZ K H a xs/\xs.length=n/\t xs σ H Q
theorem zw{es:Bz}{k:Nat}{t:Cr}{n:Nat}(hc:X.calm=true)(h:MC X es t)
  (hn:(assignEach es X.env).length=n:=by rfl) (uG:(assignEach es X.env).findIdx? (·.1)=none:=by rfl):PG X (.Tuple es k pos) (IS X.K n t):=by
 intro ae s σ H v u Q I r hw;obtain⟨a,xs,e1,hq,hl,hw⟩:=hw;subst e1;cases r;obtain⟨av,rv,ht,hz⟩:=I.tuple hq;refine assign_Tuple_tuple (I.ok.hd hc) ht (by simp[hn,<- hl,rv.length]) uG λh' hx=>?_
 have I1:Inv X ae σ H {s with heap:=h'}:=I.kept (t':=s.toks) λb o e=>hx b o (cL (Heap.lt_size e)) e
 exact h ae _ σ H xs _ Q I1 (by simpa using rv) hw
def Sv(to ti:TE)(t:IQ):TG:=λv σ H Q=>to σ H λo H1=>ti σ H1 λi H2=>t o i v H2 λH3=>Q σ H3
theorem IT{o i:Expr}{to ti:TE}{t:IQ}(ho:PE X o to)(hi:PE X i ti)(hs:Nj X t)
  (ha:∀v,assign (.Subscript o i pos) X.env v=(do
   let ov <- holding [v] (eval o X.env)
   let iv <- holding [v,ov] (eval i X.env)
   standAt pos
   holding [v,ov,iv] (setItem ov iv v)
   release [v,ov,iv] []):=by intro _;rfl):PG X (.Subscript o i pos) (Sv to ti t):=by
 intro ae s σ H v u Q I r h;rw[ha];refine wpAny_bind (wpAny_holding (bo (ho ae s σ H _ I h) λov s1 zz=>?_));obtain⟨x,H1,I1,r1,q1⟩:=zz;refine wpAny_bind (wpAny_holding (bo (hi ae s1 σ H1 _ I1 q1) λiv s2 zz=>?_));obtain⟨y,H2,I2,r2,q2⟩:=zz;refine wpAny_bind (wpAny_standAt (wpAny_bind (wpAny_holding (bo (hs ae s2 σ H2 x y v ov iv u _ I2 r1 r2 r q2) λ_ s3 zz=>?_))));obtain⟨H3,I3,q3⟩:=zz;exact wpAny_release ⟨σ,H3,I3,q3⟩
def Nl(te:TE)(g:TG):TS:=λD σ H=>te σ H λx H1=>g x σ H1 D.nx
theorem zx{tg e:Expr}{te:TE}{g:TG}(he:PE X e te)(hg:PG X tg g)(hs:swapsWithSole [tg] e pos.line X.env=pure false:=by rfl)(hw:swappedStores [tg] e X.env=pure none:=by rfl)
  (h1:(assignEach [tg] X.env).map (·.2)=[assign tg X.env]:=by rfl):PS X (.Assign [tg] e pos) (Nl te g):=by
 intro ae s σ H D I h;refine wpAny_Assign_stores (bo (he ae s σ H _ I h) λv s1 ⟨x,H1,I1,r1,q1⟩=>?_) hs hw;rw[h1];exact bo (hg ae s1 σ H1 x v _ I1 r1 q1) λ_ s2 q=>q
theorem iJ{i:Nat}{x:Str}{e:Expr}{te:TE}{bM:Pos}(hN:X.N.Nodup)(hi:X.N[i]?=some x)(hx:Loc X.env.scope x)(he:PE X e te)(hs:swapsWith e (some (.Name x bM)) pos.line X.env=pure false:=by rfl)(hf:X.fn x=true\/X.env.scope.names.lookup x=some .local:=by first|exact .inl rfl|exact .inr rfl|assumption) :
  PS X (.Assign [.Name x bM] e pos) (Nl te (uF i)):=by
 intro ae s σ H D I h;refine wpAny_Assign_Name (bo (he ae s σ H _ I h) λv s1 ⟨y,H1,I1,r1,q1⟩=>?_) hs;exact i_ I1 hN hi hx r1 (λs2 I2=>⟨_,H1,I2,q1⟩) hf
def Sw(i:Nat)(te:TE)(ti:RD):TS:=λD σ H=>∃x,σ[i]?=some (some x)/\te σ H λy H1=>ti x y H1 λz H2=>D.nx (σ.set i (some z)) H2
theorem IU{i:Nat}{x:Str}{e:Expr}{te:TE}{op:Operator}{ti:RD}{bM:Pos}(hN:X.N.Nodup)(hi:X.N[i]?=some x)(hx:Loc X.env.scope x)(he:PE X e te)(ho:VX X op ti)(hf:X.fn x=true\/X.env.scope.names.lookup x=some .local:=by first|exact .inl rfl|exact .inr rfl|assumption) :
  PS X (.AugAssign (.Name x bM) op e pos) (Sw i te ti):=by
 intro ae s σ H D I h;obtain⟨v,e1,h⟩:=h;obtain⟨m,hn,hl⟩:=I.loc;have XF:kI X.env.scope x:=by rcases hx with k|k;exact .inl k;exact .inr (.inl k)
 obtain⟨u,r,l⟩:=hl i x v hi e1 XF;refine wpAny_AugAssign_Name ?_;have go:wpAny (model X.prog X.w) X.A (eval e X.env) (λw s₂=>wpAny (model X.prog X.w) X.A (inplaceOp op u w) (λr s₃=>wpAny (model X.prog X.w) X.A (storeName X.env x r) (λ_=>SP X ae D .next) X.xe s₃) X.xe s₂) X.xe s:=by
  refine bo (he ae s σ H _ I h) λw s1 zz=>?_;obtain⟨y,H1,I1,r1,q1⟩:=zz;refine bo (ho ae s1 σ H1 v y u w _ I1 r r1 q1) λz s2 zz=>?_;obtain⟨zv,H2,I2,r2,q2⟩:=zz;exact i_ I2 hN hi hx r2 (λs3 I3=>⟨_,H2,I3,q2⟩) hf
 rcases l with⟨hk,hm⟩|⟨hk,c,hc,hcell⟩
 ·exact wpAny_loadName_local I.ok.kind hk hn hm go
 ·rcases hk with hk|hk
  ·exact wpAny_loadName_cell I.ok.kind hk hc hcell go
  ·rcases hx with k|k
   ·have:X.env.scope.names.lookup x=some .free:=hk
    rw[k]at this;cases this
   ·have:X.env.scope.names.lookup x=some .free:=hk
    rw[k]at this;cases this
def XG(f:Int->Int->Int):RD:=λx y H Q=>∃i j,x=.int i/\y=.int j/\Q (.int (f i j)) H
theorem IV:VX X .Add (XG λi j=>i+j):=by
 intro ae s σ H x y v u Q I r1 r2 h;obtain⟨i,j,e1,e2,q⟩:=h;subst e1;subst e2;obtain⟨t,rfl⟩:=r1;obtain⟨t',rfl⟩:=r2;exact iadd_int ⟨.int _,H,I.tok _,⟨_,rfl⟩,q⟩
end
section
variable{X:Cx}
def IW(c:TT)(tb:TS):TS:=λD σ H=>∃W:Nat->St->Hp->Prop,(∃m,W m σ H)/\∀m σ H,W m σ H ->
 c σ H λb H1=>if b=true then ∃N:St->Hp->Prop,(∀σ' H',N σ' H'->∃m',m'<m/\W m' σ' H')/\tb {D with nx:=N,ct:=N,bk:=D.nx} σ H1 else D.nx σ H1
theorem zy{c:Expr}{body:DD}{tc:TT}{tb:TS}(hp:PassesOwn (model X.prog X.w) X.A X.env X.xe)(hc:PT X c tc)(hb:fm X body tb):PS X (.While c body [] pos) (IW tc tb):=by
 intro ae s σ H D I h;obtain⟨W,⟨m0,w0⟩,turn⟩:=h;refine wpAny_While (codeAny_whileLoop (λn s'=>∃σ' H',Inv X ae σ' H' s'/\W n σ' H') ?_ m0 ⟨σ,H,I,w0⟩)
 rintro n s1 ⟨σ1,H1,I1,w1⟩
 refine wpAny_passesOwn hp (bo (hc ae s1 σ1 H1 _ I1 (turn n σ1 H1 w1)) λb s2 zz=>?_);obtain⟨H2,I2,q2⟩:=zz;cases b with
 |true=>
  obtain⟨N,hN,q2⟩:=q2;rw[if_pos rfl];refine wpAny_passesOwn hp (bo (hb ae s2 σ1 H2 _ I2 q2) λf s3 q3=>?_);cases f with
  |next=>
   obtain⟨σ3,H3,I3,n3⟩:=q3;obtain⟨m',hm,w3⟩:=hN σ3 H3 n3;exact⟨m',hm,σ3,H3,I3,w3⟩
  |cont=>
   obtain⟨σ3,H3,I3,n3⟩:=q3;obtain⟨m',hm,w3⟩:=hN σ3 H3 n3;exact⟨m',hm,σ3,H3,I3,w3⟩
  |brk=>exact q3
  |ret v=>exact q3
 |false=>
  rw[if_neg fF];exact wpAny_execs_nil ⟨σ1,H2,I2,q2⟩
end
structure It where
 go:Nat->Hp->Prop
 yld:Nat->Hp->V->Hp->Prop
 stop:Nat->Hp->Prop
def lh(X:Cx)(ae:b7)(H:Hp)(b:Addr):Prop:=
 H b=none/\b≠X.env.locals/\b∉X.fs/\(b∈X.ex\/X.s₀.heap.objs.size<=b)/\(∀x c,X.env.cells.lookup x=some c->c≠b)/\∀p∈X.pn++ae,p.1≠b
theorem Inv.pD{X:Cx}{ae:b7}{σ:St}{H H':Hp}{s:Shared}{b:Addr}(I:Inv X ae σ H s)(hb:s.heap.objs.size<=b)(hn:H' b=none):lh X ae H' b:=by
 refine⟨hn,CJ (gy I.lt hb),I.Si hb,.inr (il I.sz hb),λx c e z=>?_,λp hp z=>?_⟩
 ·obtain⟨v,q⟩:=I.cell x c e
  exact absurd (gy q.lt (by rw[z];exact hb)) (mS _)
 ·exact absurd (gy (Heap.lt_size (I.pin p hp).1) (by rw[z];exact hb)) (mS _)
structure Turn(P:Program)(w:World)(K:aS)(tg:Expr)(J:It)(fp:BM)(it:Addr)(tn:Nat->Heap->Prop):Prop where
 mem:it∈fp
 obj:∀i h,tn i h->∀b∈fp,∃o,h.get? b=some o/\∀v,o.data≠.cell v
 keep:∀i h h',tn i h->(∀b∈fp,∀o,h.get? b=some o->h'.get? b=some o)->tn i h'
 item:∀(X:Cx),X.prog=P->X.w=w->X.K=K->X.calm=true->∀(i:Nat)(ae:b7)(s:Shared)(σ:St)(H:Hp)(E:Value->Shared->Prop),Inv X ae σ H s->(∀b∈fp,lh X ae H b)->tn i s.heap->J.go i H ->
  wpAny (model P w) X.A (pyNext (.ref it)) (λr s1=>∃u,r=some u /\
   wpAny (model P w) X.A (letOwnedTupleGo tg (.ref it) u) (λ_ s2=>∃x H',Inv X ae σ H' s2/\RelV x u/\J.yld i H x H'/\tn (i+1) s2.heap/\∀b∈fp,H' b=none) E s1) E s
 done:∀(X:Cx),X.prog=P->X.w=w->X.K=K->X.calm=true->∀(i:Nat)(ae:b7)(s:Shared)(σ:St)(H:Hp)(E:Value->Shared->Prop),Inv X ae σ H s->(∀b∈fp,lh X ae H b)->tn i s.heap->J.stop i H ->
  wpAny (model P w) X.A (pyNext (.ref it)) (λr s1=>r=none/\Inv X ae σ H s1) E s
 self:∀(A:Around)(i:Nat)(s:Shared)(Q:Value->Shared->Prop)(E:Value->Shared->Prop),tn i s.heap->Q (.ref it) s->wpAny (model P w) A (pyIter (.ref it)) Q E s
abbrev TI:=St->Hp->(It->Hp->Prop)->Prop
def VY(X:Cx)(ae:b7)(σ:St)(tg:Expr)(R:It->Hp->Prop)(Sx:Value)(s2:Shared):Prop:=
 ∃(it:Addr)(fp:BM)(tn:Nat->Heap->Prop)(J:It)(H':Hp),Sx=.ref it/\Inv X ae σ H' s2/\Turn X.prog X.w X.K tg J fp it tn/\tn 0 s2.heap/\(∀b∈fp,lh X ae H' b)/\R J H'
def PI(X:Cx)(tg iter:Expr)(wi:TI):Prop:=
 ∀(ae:b7)(s:Shared)(σ:St)(H:Hp)(R:It->Hp->Prop),Inv X ae σ H s->wi σ H R ->
  wpAny (model X.prog X.w) X.A (eval iter X.env) (λv s1=>wpAny (model X.prog X.w) X.A (pyIter v) (VY X ae σ tg R) X.xe s1) X.xe s
theorem qw{M:Model}{A:Around}{E:Value->Shared->Prop}{s:Shared}{tg:Expr}{it:Addr}{u:Value}{o:Obj}{n:String}{vs:Array Value}{Q:Unit->Shared->Prop}(ho:s.heap.get? it=some o)(hc:o.cls=.type n)(hd:o.data=.fields vs)
  (hn:["enumerate","zip","dict_itemiterator","dict_reverseitemiterator","odict_iterator","itertools.zip_longest","itertools.pairwise"].contains n=false) (hQ:Q () s):wpAny M A (letOwnedTupleGo tg (.ref it) u) Q E s:=by
 unfold letOwnedTupleGo;cases tg<;>first
  |exact wpAny_pure hQ
  | (cases u<;>first
    |exact wpAny_pure hQ
    | (refine wpAny_bind (wpAny_load ho ?_)
       rw[hc,hd];show wpAny M A (if(["enumerate","zip","dict_itemiterator","dict_reverseitemiterator","odict_iterator","itertools.zip_longest","itertools.pairwise"].contains n&&vs[0]? == some (rawInt _))=true then _ else _) Q E s
       rw[if_neg (by intro h;rw[hn,yH]at h;cases h)]
       exact wpAny_pure hQ))
def RE(K:aS)(a:Addr):It:=
 ⟨λi H=>∃xs x,bW K H a xs/\xs[i]?=some x,λi H x H'=>H'=H/\∀xs,bW K H a xs->xs[i]?=some x,λi H=>∃xs,bW K H a xs/\xs.length<=i⟩
def Sy(K:aS)(a:Addr):It:=
 ⟨λi H=>∃xs x,jZ K H a xs/\xs[i]?=some x,λi H x H'=>H'=H/\∀xs,jZ K H a xs->xs[i]?=some x,λi H=>∃xs,jZ K H a xs/\xs.length<=i⟩
def Nm(lo:Int)(n:Nat):It:=⟨λi _=>i<n,λi H x H'=>H'=H/\x=.int (lo+i),λi _=>n<=i⟩
theorem wH{P:Program}{w:World}{K:aS}{tg:Expr}(a it:Addr):Turn P w K tg (RE K a) [it] it (λi h=>h.IsListIter it a i) where
 mem:=by simp
 obj:=λi h st b hb=>by
  have e:b=it:=by simpa using hb
  subst e;obtain⟨o,e,c,d⟩:=st;exact⟨o,e,λv z=>by rw[d]at z;cases z⟩
 keep:=λi h h' st k=>st.at λo e=>k it (by simp) o e
 item:=by
  intro X hP hw hK hc i ae s σ H E I hf st hg;subst hP hw hK;obtain⟨xs,x,hq,hx⟩:=hg;obtain⟨av,rv,p,hz⟩:=I.list hq;obtain⟨u,hu,ru⟩:=rv.get hx;obtain⟨f0,f1,f2,f3,f4,f5⟩:=hf it (by simp)
  refine wpAny_pyNext_list_item st p.isList (x:=u) (by simpa using hu) λh' mZ sb=>?_
  have I1:Inv X ae σ H {s with heap:=h'}:=I.turned (t':=s.toks) (λb o hb e=>(sb.2 b hb).trans e) f0 f1 f3 f4 f5
  obtain⟨o,e,c,d⟩:=id mZ;exact⟨u,rfl,qw (s:={s with heap:=h'}) e c d (by decide) ⟨x,H,I1,ru,⟨rfl,λys hy=>by rw[I.zp hy hq];exact hx⟩,mZ,λb hb=>(hf b hb).1⟩⟩
 done:=by
  intro X hP hw hK hc i ae s σ H E I hf st hg;subst hP hw hK;obtain⟨xs,hq,hx⟩:=hg;obtain⟨av,rv,p,hz⟩:=I.list hq;obtain⟨f0,f1,f2,f3,f4,f5⟩:=hf it (by simp)
  have hl:=rv.length;exact wpAny_pyNext_list_end (I.ok.hd hc) st p.isList (by simp;omega) λh' eb=>⟨rfl,I.turned (t':=s.toks) (λb o hb e=>eb b o hb e) f0 f1 f3 f4 f5⟩
 self:=λ_ _ _ _ _ st h=>wpAny_pyIter_listiter st h
theorem sL{P:Program}{w:World}{K:aS}{tg:Expr}(a it:Addr):Turn P w K tg (Sy K a) [it] it (λi h=>h.IsTupleIter it a i) where
 mem:=by simp
 obj:=λi h st b hb=>by
  have e:b=it:=by simpa using hb
  subst e;obtain⟨o,e,c,d⟩:=st;exact⟨o,e,λv z=>by rw[d]at z;cases z⟩
 keep:=λi h h' st k=>st.at λo e=>k it (by simp) o e
 item:=by
  intro X hP hw hK hc i ae s σ H E I hf st hg;subst hP hw hK;obtain⟨xs,x,hq,hx⟩:=hg;obtain⟨av,rv,p,hz⟩:=I.tuple hq;obtain⟨u,hu,ru⟩:=rv.get hx;obtain⟨f0,f1,f2,f3,f4,f5⟩:=hf it (by simp)
  refine wpAny_pyNext_tuple_item st (show s.heap.IsTuple a av.toArray from p) (x:=u) (by simpa using hu) λh' mZ sb=>?_
  have I1:Inv X ae σ H {s with heap:=h'}:=I.turned (t':=s.toks) (λb o hb e=>(sb.2 b hb).trans e) f0 f1 f3 f4 f5
  obtain⟨o,e,c,d⟩:=id mZ;exact⟨u,rfl,qw (s:={s with heap:=h'}) e c d (by decide) ⟨x,H,I1,ru,⟨rfl,λys hy=>by rw[I.nM hy hq];exact hx⟩,mZ,λb hb=>(hf b hb).1⟩⟩
 done:=by
  intro X hP hw hK hc i ae s σ H E I hf st hg;subst hP hw hK;obtain⟨xs,hq,hx⟩:=hg;obtain⟨av,rv,p,hz⟩:=I.tuple hq;obtain⟨f0,f1,f2,f3,f4,f5⟩:=hf it (by simp)
  have hl:=rv.length;exact wpAny_pyNext_tuple_end (I.ok.hd hc) st (show s.heap.IsTuple a av.toArray from p) (by simp;omega) λh' eb=>⟨rfl,I.turned (t':=s.toks) (λb o hb e=>eb b o hb e) f0 f1 f3 f4 f5⟩
 self:=λ_ _ _ _ _ st h=>wpAny_pyIter_tupleiter st h
theorem sM{P:Program}{w:World}{K:aS}{tg:Expr}(it:Addr)(lo:Int)(n:Nat):Turn P w K tg (Nm lo n) [it] it (λi h=>IsRangeIter h it (lo+(i:Nat)*1) ((n:Int)-(i:Nat)) 1) where
 mem:=by simp
 obj:=λi h st b hb=>by
  have e:b=it:=by simpa using hb
  subst e;exact⟨_,st,λv z=>by
   have z':Data.fields _=Data.cell v:=z;cases z'⟩
 keep:=λi h h' st k=>k it (by simp) _ st
 item:=by
  intro X hP hw hK hc i ae s σ H E I hf st hg;subst hP hw hK;obtain⟨f0,f1,f2,f3,f4,f5⟩:=hf it (by simp)
  have W:=Walks.range (prog:=X.prog) (w:=X.w) (I.ok.hd hc) it lo 1 n;refine W.item i s _ _ hg st λv h' tk hv mZ kk=>?_;obtain⟨t,rfl⟩:=hv;have I1:Inv X ae σ H {s with heap:=h',toks:=tk}:=I.turned (λb o hb e=>kk b o (by simpa using hb) e) f0 f1 f3 f4 f5
  refine⟨_,rfl,qw (s:={s with heap:=h',toks:=tk}) (n := "range_iterator") mZ rfl rfl (by decide) ⟨.int (lo+i),H,I1,⟨t,?_⟩,⟨rfl,rfl⟩,mZ,λb hb=>(hf b hb).1⟩⟩
  rw[Int.mul_one]
 done:=by
  intro X hP hw hK hc i ae s σ H E I hf st hg;subst hP hw hK;obtain⟨f0,f1,f2,f3,f4,f5⟩:=hf it (by simp)
  exact wpAny_pyNext_range_end (I.ok.hd hc) st (by have:n<=i:=hg;omega) λh' eb=>⟨rfl,I.turned (t':=s.toks) (λb o hb e=>eb b o hb e) f0 f1 f3 f4 f5⟩
 self:=λ_ _ _ _ _ st h=>wpAny_pyIter_rangeiter st h
section
variable{X:Cx}{tg:Expr}
def Nn(K:aS)(tl:TE):TI:=λσ H R=>tl σ H λx H1=>∃a,x=.ref a/\(∃xs,bW K H1 a xs)/\R (RE K a) H1
def Sz(K:aS)(tl:TE):TI:=λσ H R=>tl σ H λx H1=>∃a,x=.ref a/\(∃xs,jZ K H1 a xs)/\R (Sy K a) H1
theorem C7{l:Expr}{tl:TE}(hl:PE X l tl):PI X tg l (Nn X.K tl):=by
 intro ae s σ H R I h;refine bo (hl ae s σ H _ I h) λv s1 zz=>?_;obtain⟨x,H1,I1,r1,q1⟩:=zz;obtain⟨a,e,⟨xs,hq⟩,q⟩:=q1;subst e;cases r1;obtain⟨av,rv,p,hz⟩:=I1.list hq;refine wpAny_pyIter_list p.isList ?_;refine⟨s1.heap.objs.size,[s1.heap.objs.size],_,_,H1,rfl,I1.kept (t':=s1.toks) λb o e=>Heap.get?_push_of_some _ e,wH a _,⟨_,Heap.get?_push_size _ rfl,rfl,rfl⟩,λb hb=>?_,q⟩;have e:b=s1.heap.objs.size:=by simpa using hb
 subst e;exact I1.pD (cC _) (I1.aV.fresh (cC _))
theorem IX{l:Expr}{tl:TE}(hl:PE X l tl):PI X tg l (Sz X.K tl):=by
 intro ae s σ H R I h;refine bo (hl ae s σ H _ I h) λv s1 zz=>?_;obtain⟨x,H1,I1,r1,q1⟩:=zz;obtain⟨a,e,⟨xs,hq⟩,q⟩:=q1;subst e;cases r1;obtain⟨av,rv,p,hz⟩:=I1.tuple hq;refine wpAny_pyIter_tuple (show s1.heap.IsTuple a av.toArray from p) ?_;refine⟨s1.heap.objs.size,[s1.heap.objs.size],_,_,H1,rfl,I1.kept (t':=s1.toks) λb o e=>Heap.get?_push_of_some _ e,sL a _,⟨_,Heap.get?_push_size _ rfl,rfl,rfl⟩,λb hb=>?_,q⟩;have e:b=s1.heap.objs.size:=by simpa using hb
 subst e;exact I1.pD (cC _) (I1.aV.fresh (cC _))
theorem qy{ae:b7}{σ:St}{H:Hp}{s:Shared}{R:It->Hp->Prop}{E:Value->Shared->Prop}{lo hi:Int}{t u v:Tok}{tk:Nat}(I:Inv X ae σ H s)(h1:-(2^62)<=lo)(h2:lo<2^62)(h3:-(2^62)<=hi)(h4:hi<2^62)
  (q:R (Nm lo (hi-lo).toNat) H):wpAny (model X.prog X.w) X.A (pyIter (.ref s.heap.objs.size)) (VY X ae σ tg R) E {s with heap:=s.heap.push {cls:=.type "range",data:=.fields #[.int lo t,.int hi u,.int 1 v]},toks:=tk}:=by
 refine wpAny_pyIter_range (IsRange.new ..) (small_one h1 h2 h3 h4) ?_;have I1:Inv X ae σ H {s with heap:=s.heap.push {cls:=.type "range",data:=.fields #[.int lo t,.int hi u,.int 1 v]},toks:=tk}:=I.kept λb o e=>Heap.get?_push_of_some _ e
 refine⟨(s.heap.push {cls:=.type "range",data:=.fields #[.int lo t,.int hi u,.int 1 v]}).objs.size,[(s.heap.push {cls:=.type "range",data:=.fields #[.int lo t,.int hi u,.int 1 v]}).objs.size],_,_,H,rfl,
  I1.kept (t':=tk) λb o e=>Heap.get?_push_of_some _ e,sM _ lo (hi-lo).toNat,?_,λb hb=>?_,q⟩
 ·have e1:lo+((0:Nat):Int)*1=lo:=by simp
  have e2:(((hi-lo).toNat:Nat):Int)-((0:Nat):Int)=Builtin.Range.rangeSize lo hi 1:=by rw[rangeSize_one];split<;>omega
  show IsRangeIter _ _ (lo+((0:Nat):Int)*1) ((((hi-lo).toNat:Nat):Int)-((0:Nat):Int)) 1;rw[e1,e2];exact Heap.get?_push_size _ rfl
 ·have e:b=(s.heap.push {cls:=.type "range",data:=.fields #[.int lo t,.int hi u,.int 1 v]}).objs.size:=by simpa using hb
  subst e;exact I1.pD (cC _) (I1.aV.fresh (cC _))
def Np(ta:TA):TI:=λσ H R=>ta σ H λvs H1=>∃j:Int,vs=[.int j]/\-(2^62)<=j/\j<2^62/\R (Nm 0 j.toNat) H1
def Nq(ta:TA):TI:=λσ H R=>ta σ H λvs H1=>∃i j:Int,vs=[.int i,.int j]/\(-(2^62)<=i/\i<2^62/\-(2^62)<=j/\j<2^62)/\R (Nm i (j-i).toNat) H1
theorem wI{a:Expr}{ta:TA}{p pos:Pos}(hg:Gl X "range")(hm:X.mg "range" = none)(ha:PA X [a] ta)(hs:starEach [a] X.env=[(false,eval a X.env)]:=by rfl):PI X tg (.Call (.Name "range" p) [a] [] pos) (Np ta):=by
 intro ae s σ H R I h;refine Call_ (dI I hg hm boot_range (sI (bo (ha pos ae s σ H _ I h) λus s1 ⟨vs,H1,I1,r1,q1⟩=>?_) hs rfl));obtain⟨j,e,q1,q2,q⟩:=q1;subst e;cases r1 with
 |cons r rr=>
  cases rr;obtain⟨t,rfl⟩:=r;exact call_range_1 (qy I1 (by omega) (by omega) q1 q2 (by simpa using q))
theorem wJ{a b:Expr}{ta:TA}{p pos:Pos}(hg:Gl X "range")(hm:X.mg "range" = none)(ha:PA X [a,b] ta)(hs:starEach [a,b] X.env=[(false,eval a X.env),(false,eval b X.env)]:=by rfl)(lj:starEach [b] X.env=[(false,eval b X.env)]:=by rfl) :
  PI X tg (.Call (.Name "range" p) [a,b] [] pos) (Nq ta):=by
 intro ae s σ H R I h;refine Call_ (dI I hg hm boot_range (sI (bo (ha pos ae s σ H _ I h) λus s1 ⟨vs,H1,I1,r1,q1⟩=>?_) (by rw[hs,lj]) (by rw[lj];rfl)))
 obtain⟨i,j,e,⟨q1,q2,q3,q4⟩,q⟩:=q1;subst e;cases r1 with
 |cons r rr=>
  cases rr with
  |cons r' rr=>
   cases rr;obtain⟨t,rfl⟩:=r;obtain⟨t',rfl⟩:=r';exact call_range_2 (qy I1 q1 q2 q3 q4 q)
def SA(wi:TI)(g:TG)(tb:TS):TS:=λD σ H=>wi σ H λJ H1=>∃W:Nat->Nat->St->Hp->Prop,(∃m,W 0 m σ H1)/\∀i m σ H,W i m σ H ->
 (J.stop i H/\D.nx σ H)\/(J.go i H/\∃N:St->Hp->Prop,(∀σ' H',N σ' H'->∃m',m'<m/\W (i+1) m' σ' H')/\∀x H',J.yld i H x H'->g x σ H' λσ2 H2=>tb {D with nx:=N,ct:=N,bk:=D.nx} σ2 H2)
def lq(fp:BM)(h:Heap):b7:=fp.filterMap λb=>(h.get? b).map λo=>(b,o)
theorem fY{fp:BM}{h:Heap}{b:Addr}{o:Obj}(hb:b∈fp)(e:h.get? b=some o):(b,o)∈lq fp h:=CM.mpr ⟨b,hb,by rw[e];rfl⟩
theorem wK{fp:BM}{h:Heap}{p:Addr×Obj}(hp:p∈lq fp h):p.1∈fp/\h.get? p.1=some p.2:=by
 obtain⟨b,hb,e⟩:=CM.mp hp;cases q:h.get? b with
 |none=>rw[q]at e;cases e
 |some o=>
  rw[q]at e;have e':(b,o)=p:=jH.inj e;subst e';exact⟨hb,q⟩
theorem Inv.pinned{ae:b7}{σ:St}{H:Hp}{s:Shared}{fp:BM}(I:Inv X ae σ H s)(hf:∀b∈fp,lh X ae H b)(ho:∀b∈fp,∃o,s.heap.get? b=some o/\∀v,o.data≠.cell v):Inv X (ae++lq fp s.heap) σ H s:=
 I.ph λp hp=>(qp.mp hp).elim (λz=>I.pin p (k6 _ z)) λz=>by
  obtain⟨hb,e⟩:=wK z;obtain⟨f0,f1,f2,_⟩:=hf p.1 hb;obtain⟨o,e',d⟩:=ho p.1 hb;rw[e]at e';cases e';exact⟨e,f0,f1,f2,d⟩
theorem Inv.ja{ae pl:b7}{σ:St}{H:Hp}{s:Shared}(I:Inv X (ae++pl) σ H s):Inv X ae σ H s:=I.ph λp hp=>I.pin p (k6 _ (yV _ hp))
theorem IY{iter:Expr}{body:DD}{wi:TI}{g:TG}{tb:TS}{pos:Pos}(hp:PassesOwn (model X.prog X.w) X.A X.env X.xe)(hc:X.calm=true)(hi:PI X tg iter wi)(hg:PG X tg g)(hb:fm X body tb)
  (hs:∀x,foldedSetIterable iter X.env x=pure x:=by intro _;rfl):PS X (.For tg iter body [] pos) (SA wi g tb):=by
 intro ae s σ H D I h;refine wpAny_For (bo (hi ae s σ H _ I h) λv s1 h1=>bo h1 λSx s2 h2=>?_) hs;obtain⟨it,fp,tn,J,H2,e,I2,T,C8,f2,W,⟨m0,w0⟩,turn⟩:=h2;subst e;have sN:∀{H':Hp},(∀b∈fp,H' b=none)->∀b∈fp,lh X ae H' b:=λhn b hb=>⟨hn b hb,(f2 b hb).2⟩;refine codeAny_forLoop_any (λn s'=>∃i σ' H',Inv X ae σ' H' s'/\tn i s'.heap/\(∀b∈fp,H' b=none)/\W i n σ' H') ?_ m0 ⟨0,σ,H2,I2,C8,λb hb=>(f2 b hb).1,w0⟩
 rintro n s3 ⟨i,σ3,H3,I3,st3,fr3,w3⟩
 rcases turn i n σ3 H3 w3 with⟨stop,qn⟩|⟨go,N,hN,step⟩
 ·refine wpAny_passesOwn hp (bo (T.done X rfl rfl rfl hc i ae s3 σ3 H3 X.xe I3 (sN fr3) st3 stop) λr s4 zz=>?_)
  obtain⟨hr,I4⟩:=zz;subst hr;exact wpAny_execs_nil ⟨σ3,H3,I4,qn⟩
 ·refine wpAny_passesOwn hp (bo (T.item X rfl rfl rfl hc i ae s3 σ3 H3 X.xe I3 (sN fr3) st3 go) λr s4 zz=>?_)
  obtain⟨u,hr,h4⟩:=zz;subst hr;refine wpAny_passesOwn hp (bo h4 λ_ s5 zz=>?_);obtain⟨x,H5,I5,r5,y5,C9,RG⟩:=zz;have XH:=I5.pinned (sN RG) (T.obj _ _ C9);refine wpAny_passesOwn hp (bo (hg _ s5 σ3 H5 x u _ XH r5 (step x H5 y5)) λ_ s6 zz=>?_);obtain⟨σ6,H6,I6,q6⟩:=zz;refine wpAny_passesOwn hp (bo (hb _ s6 σ6 H6 _ I6 q6) λf s7 q7=>?_);have again:∀{σ7:St}{H7:Hp},Inv X (ae++lq fp s5.heap) σ7 H7 s7->N σ7 H7->∃m,m<n/\∃i σ' H',Inv X ae σ' H' s7/\tn i s7.heap/\(∀b∈fp,H' b=none)/\W i m σ' H':=λ{σ7 H7} I7 n7=>by
   obtain⟨m',hm,w7⟩:=hN σ7 H7 n7;refine⟨m',hm,i+1,σ7,H7,I7.ja,T.keep _ _ _ C9 λb hb o e=>(I7.pin (b,o) (k6 _ (k6 _ (fY hb e)))).1,λb hb=>?_,w7⟩;obtain⟨o,e,d⟩:=T.obj _ _ C9 b hb;exact(I7.pin (b,o) (k6 _ (k6 _ (fY hb e)))).2.1
  cases f with
  |next=>obtain⟨σ7,H7,I7,n7⟩:=q7;exact again I7 n7
  |cont=>obtain⟨σ7,H7,I7,n7⟩:=q7;exact again I7 n7
  |brk=>obtain⟨σ7,H7,I7,q7⟩:=q7;exact⟨σ7,H7,I7.ja,q7⟩
  |ret v=>obtain⟨x7,σ7,H7,I7,r7,q7⟩:=q7;exact⟨x7,σ7,H7,I7.ja,r7,q7⟩
end
abbrev R2:=V->V->Hp->VK->Prop
def eQ(X:Cx)(f:Value->Value->Sem Value)(r:R2):Prop:=
 ∀(ae:b7)(s:Shared)(σ:St)(H:Hp)(x y:V)(v u:Value)(Q:VK),Inv X ae σ H s->RelV x v->RelV y u->r x y H Q ->
  wpAny (model X.prog X.w) X.A (f v u) (EP X ae σ Q) X.xe s
def SD(X:Cx)(f:Value->Sem Value)(r:V->Hp->VK->Prop):Prop:=
 ∀(ae:b7)(s:Shared)(σ:St)(H:Hp)(x:V)(v:Value)(Q:VK),Inv X ae σ H s->RelV x v->r x H Q ->
  wpAny (model X.prog X.w) X.A (f v) (EP X ae σ Q) X.xe s
def cQ(X:Cx)(f:Value)(r:List V->Hp->VK->Prop):Prop:=
 ∀(ae:b7)(s:Shared)(σ:St)(H:Hp)(xs:List V)(us:B2)(Q:VK),Inv X ae σ H s->Vals xs us->r xs H Q ->
  wpAny (model X.prog X.w) X.A (call f us) (EP X ae σ Q) X.xe s
def SE(X:Cx)(r:V->Hp->(Bool->Hp->Prop)->Prop):Prop:=
 ∀(ae:b7)(s:Shared)(σ:St)(H:Hp)(x:V)(v:Value)(Q:Bool->Hp->Prop),Inv X ae σ H s->RelV x v->r x H Q ->
  wpAny (model X.prog X.w) X.A (truthy v) (TP X ae σ Q) X.xe s
def zA(r:R2)(ta tb:TE):TE:=λσ H Q=>ta σ H λx H1=>tb σ H1 λy H2=>r x y H2 Q
def VZ(r:V->Hp->VK->Prop)(ta:TE):TE:=λσ H Q=>ta σ H λx H1=>r x H1 Q
def rI(C:Int->Int->Prop)(g:Int->Int->V):R2:=λx y H Q=>∃i j,x=.int i/\y=.int j/\C i j/\Q (g i j) H
def ye(g:Int->Int->V):R2:=λx y H Q=>∃i j,x=.int i/\y=.int j/\Q (g i j) H
def rU(g:Int->V):V->Hp->VK->Prop:=λx H Q=>∃i,x=.int i/\Q (g i) H
section
variable{X:Cx}{a c:Expr}{ta tb tc:TE}
theorem IZ(ha:PE X a ta)(hb:PE X b tb){ae:b7}{s:Shared}{σ:St}{H:Hp}{R:V->V->Hp->Prop}(I:Inv X ae σ H s)
  (h:ta σ H λx H1=>tb σ H1 λy H2=>R x y H2) {Q:Value->Shared->Prop} {f:Value->Value->Sem Value}
  (hf:∀v u s2 x y H2,Inv X ae σ H2 s2->RelV x v->RelV y u->R x y H2->wpAny (model X.prog X.w) X.A (f v u) Q X.xe s2) :
  wpAny (model X.prog X.w) X.A (eval a X.env) (λv s₁=>wpAny (model X.prog X.w) X.A (eval b X.env) (λu s₂=>wpAny (model X.prog X.w) X.A (f v u) Q X.xe s₂) X.xe s₁) X.xe s:=by
 refine bo (ha ae s σ H _ I h) λv s1 zz=>?_;obtain⟨x,H1,I1,r1,q1⟩:=zz;refine bo (hb ae s1 σ H1 _ I1 q1) λu s2 zz=>?_;obtain⟨y,H2,I2,r2,q2⟩:=zz;exact hf v u s2 x y H2 I2 r1 r2 q2
theorem iC{op:Operator}{r:R2}(ho:eQ X (binaryOp op) r)(ha:PE X a ta)(hb:PE X b tb):PE X (.BinOp a op b pos) (zA r ta tb):=by
 intro ae s σ H Q I h;exact wpAny_BinOp (IZ ha hb I h λv u s2 x y H2 I2 rx ry q=>ho ae s2 σ H2 x y v u Q I2 rx ry q)
theorem Nr{op:UnaryOp}{r:V->Hp->VK->Prop}(ho:SD X (unaryOp op) r)(ha:PE X a ta):PE X (.UnaryOp op a pos) (VZ r ta):=by
 intro ae s σ H Q I h;exact UnaryOp_ (bo (ha ae s σ H _ I h) λv s1 ⟨x,H1,I1,r1,q1⟩=>ho ae s1 σ H1 x v Q I1 r1 q1)
theorem RH{f:Value->Value->Sem Value}{C:Int->Int->Prop}{g:Int->Int->Int}
  (rule:∀(i j:Int)(t u:Tok)(s:Shared)(Q:Value->Shared->Prop)(E:Value->Shared->Prop),C i j->Q (.int (g i j) s.toks) {s with toks:=s.toks+1}->wpAny (model X.prog X.w) X.A (f (.int i t) (.int j u)) Q E s) :
  eQ X f (rI C λi j=>.int (g i j)):=by
 intro ae s σ H x y v u Q I rx ry h;obtain⟨i,j,rfl,rfl,hc,q⟩:=h;obtain⟨t,rfl⟩:=rx;obtain⟨t',rfl⟩:=ry;exact rule i j t t' s _ _ hc ⟨.int (g i j),H,I.tok _,⟨_,rfl⟩,q⟩
theorem Nt{f:Value->Value->Sem Value}{g:Int->Int->Int}
  (rule:∀(i j:Int)(t u:Tok)(s:Shared)(Q:Value->Shared->Prop)(E:Value->Shared->Prop),Q (.int (g i j) s.toks) {s with toks:=s.toks+1}->wpAny (model X.prog X.w) X.A (f (.int i t) (.int j u)) Q E s) :
  eQ X f (ye λi j=>.int (g i j)):=by
 intro ae s σ H x y v u Q I rx ry h;obtain⟨i,j,rfl,rfl,q⟩:=h;obtain⟨t,rfl⟩:=rx;obtain⟨t',rfl⟩:=ry;exact rule i j t t' s _ _ ⟨.int (g i j),H,I.tok _,⟨_,rfl⟩,q⟩
theorem C_{f:Value->Value->Sem Value}{g:Int->Int->Bool}
  (rule:∀(i j:Int)(t u:Tok)(s:Shared)(Q:Value->Shared->Prop)(E:Value->Shared->Prop),Q (.bool (g i j)) s->wpAny (model X.prog X.w) X.A (f (.int i t) (.int j u)) Q E s) :
  eQ X f (ye λi j=>.bl (g i j)):=by
 intro ae s σ H x y v u Q I rx ry h;obtain⟨i,j,rfl,rfl,q⟩:=h;obtain⟨t,rfl⟩:=rx;obtain⟨t',rfl⟩:=ry;exact rule i j t t' s _ _ ⟨.bl (g i j),H,I,rfl,q⟩
def Nu(i j:Int):Prop:=0<j/\j<1073741824
def Nv(i j:Int):Prop:=0<=j/\j<=1000000/\i.natAbs<2^64
def I_(i j:Int):Prop:=(-(2^64)<i/\i<2^64)\/(-(2^64)<j/\j<2^64)
theorem I_.ok{i j:Int}(h:I_ i j):IntMulOk i j:=by
 rcases h with⟨h1,h2⟩|⟨h1,h2⟩
 ·exact .of_left (intBits_le_64 h1 h2)
 ·exact .of_right (intBits_le_64 h1 h2)
theorem Ja:eQ X (binaryOp .Add) (ye λi j=>.int (i+j)):=Nt λ_ _ _ _ _ _ _ q=>add_int q
theorem Jb:eQ X (binaryOp .Sub) (ye λi j=>.int (i-j)):=Nt λ_ _ _ _ _ _ _ q=>sub_int q
theorem Dd:eQ X (binaryOp .FloorDiv) (rI Nu λi j=>.int (i/j)):=RH λi j _ _ _ _ _ hc q=>by
 have h1:(0:Int)<j:=hc.1;have h2:j<1073741824:=hc.2;exact floordiv_int (by omega) (by rw[Int.fdiv_eq_ediv_of_nonneg i (by omega)];exact q) (.inl (PyProof.noPylong_small (by omega)))
theorem Jc:eQ X (binaryOp .Mod) (rI (λ_ j=>0<j) λi j=>.int (i % j)):=RH λi j _ _ _ _ _ hc q=>by
 have h1:(0:Int)<j:=hc;exact mod_int' (by omega) (by rw[Int.fmod_eq_emod_of_nonneg i (by omega)];exact q)
theorem Jd:eQ X (binaryOp .Pow) (rI Nv λi j=>.int (i^j.toNat)):=RH λ_ _ _ _ _ _ _ hc q=>pow_int_small hc.1 hc.2.1 hc.2.2 q
theorem XI{f:Value->Sem Value}{g:Int->Int}
  (rule:∀(i:Int)(t:Tok)(s:Shared)(Q:Value->Shared->Prop)(E:Value->Shared->Prop),Q (.int (g i) s.toks) {s with toks:=s.toks+1}->wpAny (model X.prog X.w) X.A (f (.int i t)) Q E s) :
  SD X f (rU λi=>.int (g i)):=by
 intro ae s σ H x v Q I rx h;obtain⟨i,rfl,q⟩:=h;obtain⟨t,rfl⟩:=rx;exact rule i t s _ _ ⟨.int (g i),H,I.tok _,⟨_,rfl⟩,q⟩
theorem Je:SD X (unaryOp .USub) (rU λi=>.int (-i)):=XI λ_ _ _ _ _ q=>neg_int q
end
section
variable{X:Cx}{a c:Expr}{ta tb tc:TE}
theorem gO{ae:b7}{σ:St}{H:Hp}{s:Shared}{Q:VK}{k k':Bool}(I:Inv X ae σ H s)(q:Q (.bl k) H)(e:k=k'):EP X ae σ Q (.bool k') s:=by
 subst e;exact⟨.bl k,H,I,rfl,q⟩
theorem Nx:eQ X (compareOp .Lt) (ye λi j=>.bl (decide (i<j))):=C_ λ_ _ _ _ _ _ _ q=>lt_int q
theorem Ny:eQ X (compareOp .LtE) (ye λi j=>.bl (decide (i<=j))):=C_ λ_ _ _ _ _ _ _ q=>le_int q
theorem Nz:eQ X (compareOp .Gt) (ye λi j=>.bl (decide (j<i))):=C_ λ_ _ _ _ _ _ _ q=>gt_int q
theorem NB:eQ X (compareOp .GtE) (ye λi j=>.bl (decide (j<=i))):=C_ λ_ _ _ _ _ _ _ q=>ge_int q
theorem wL:eQ X (compareOp .In) (λx y H Q=>∃i j,x=.str i/\y=.str j/\Q (.bl (!(Builtin.Str.occurrences j i 0 j.length 1).isEmpty)) H):=by
 intro ae s σ H x y v u Q I rx ry h;obtain⟨i,j,rfl,rfl,q⟩:=h;obtain⟨t,rfl⟩:=rx;obtain⟨t',rfl⟩:=ry;exact in_str (gO I q rfl)
theorem Jf:eQ X (compareOp .Is) (λx y H Q=>y=.non/\Q (.bl (decide (x=.non))) H):=by
 intro ae s σ H x y v u Q I rx ry h;obtain⟨rfl,q⟩:=h;cases ry;refine is_none_gen (gO I q ?_);cases x<;>first
  |(cases rx;rfl)
  |(obtain⟨t,rfl⟩:=rx;rfl)
theorem De:eQ X (compareOp .IsNot) (λx y H Q=>y=.non/\Q (.bl (!decide (x=.non))) H):=by
 intro ae s σ H x y v u Q I rx ry h;obtain⟨rfl,q⟩:=h;cases ry;refine isnot_none_gen (gO I q ?_);cases x<;>first
  |(cases rx;rfl)
  |(obtain⟨t,rfl⟩:=rx;rfl)
theorem pF:eQ X (compareOp .NotIn) (λx y H Q=>∃i j,x=.str i/\y=.str j/\Q (.bl (!(!(Builtin.Str.occurrences j i 0 j.length 1).isEmpty))) H):=by
 intro ae s σ H x y v u Q I rx ry h;obtain⟨i,j,rfl,rfl,q⟩:=h;obtain⟨t,rfl⟩:=rx;obtain⟨t',rfl⟩:=ry;exact notIn_str (gO I q rfl)
theorem eQ.or{f:Value->Value->Sem Value}{r r':R2}(h:eQ X f r)(h':eQ X f r'):eQ X f (λx y H Q=>r x y H Q\/r' x y H Q):=by
 intro ae s σ H x y v u Q I rx ry q;rcases q with q|q
 ·exact h ae s σ H x y v u Q I rx ry q
 ·exact h' ae s σ H x y v u Q I rx ry q
theorem jb{op:CmpOp}{r:R2}(ho:eQ X (compareOp op) r)(ha:PE X a ta)(hb:PE X b tb)(hm:behindInMarks op b=false):PE X (.Compare a [op] [b] pos) (zA r ta tb):=by
 intro ae s σ H Q I h;exact wpAny_Compare1 (IZ ha hb I h λv u s2 x y H2 I2 rx ry q=>ho ae s2 σ H2 x y v u Q I2 rx ry q) hm
def NC(t:TE):TT:=λσ H Q=>t σ H λx H'=>∃k,x=.bl k/\Q k H'
theorem jc{op:CmpOp}{r:R2}(ho:eQ X (compareOp op) r)(ha:PE X a ta)(hb:PE X b tb)(hm:behindInMarks op b=false):PT X (.Compare a [op] [b] pos) (NC (zA r ta tb)):=by
 intro ae s σ H Q I h;refine wpAny_isTrue_Compare1 (bo (ha ae s σ H _ I h) λv s1 ⟨x,H1,I1,r1,q1⟩=>bo (hb ae s1 σ H1 _ I1 q1) λu s2 ⟨y,H2,I2,r2,q2⟩=>
  bo (ho ae s2 σ H2 x y v u _ I2 r1 r2 q2) λc s3 ⟨z,H3,I3,r3,k,e,q3⟩=>?_) hm
 subst e;cases r3;exact wpAny_truthy_bool ⟨H3,I3,q3⟩
def Jg(K:aS)(x:V)(H:Hp)(k:Bool):Prop:=
 match x with
 |.non=>k=false
 |.bl b=>k=b
 |.int i=>k=(i != 0)
 |.str y=>y.length<=sizeLine/\k=((y.length:Int) != 0)
 |.byt y=>y.size<=sizeLine/\k=((y.size:Int) != 0)
 |.ref p=>(∃xs,bW K H p xs/\k=!xs.isEmpty)\/(∃xs,jZ K H p xs/\k=!xs.isEmpty)\/∃aw,H p=some (.dK aw)/\k=!aw.isEmpty
 |_=>False
theorem sO{κ:Type}{aw:List (κ×V)}{vs:List (κ×Value)}(r:KV aw vs):(!vs.isEmpty)=!aw.isEmpty:=by
 cases r<;>rfl
theorem lr{xs:List V}{av:B2}(r:Vals xs av):(!av.toArray.isEmpty)=!xs.isEmpty:=by
 cases r<;>simp
theorem jJ:(sizeLine:Nat)<2^63:=by rw[sizeLine_eq];decide
theorem Jh:SE X (λx H Q=>∃k,Jg X.K x H k/\Q k H):=by
 intro ae s σ H x v Q I rx h;obtain⟨k,e,q⟩:=h;have hl:=jJ;have hs:sizeLine=16777216:=sizeLine_eq;cases x with
 |non=>
  cases rx;have e':k=false:=e;subst e';exact truthy_none ⟨H,I,q⟩
 |bl b=>
  cases rx;have e':k=b:=e;subst e';exact wpAny_truthy_bool ⟨H,I,q⟩
 |int i=>
  obtain⟨t,rfl⟩:=rx;have e':k=(i != 0):=e;subst e';exact PySem.P.truthy_int ⟨H,I,q⟩
 |str y=>
  obtain⟨t,rfl⟩:=rx;obtain⟨hy,e'⟩:y.length<=sizeLine/\k=((y.length:Int) != 0):=e;subst e';exact PySem.P.truthy_str (by omega) ⟨H,I.tok _,q⟩
 |byt y=>
  obtain⟨t,rfl⟩:=rx;obtain⟨hy,e'⟩:y.size<=sizeLine/\k=((y.size:Int) != 0):=e;subst e';exact PySem.W.truthy_bytes (by omega) ⟨H,I.tok _,q⟩
 |ref p=>
  cases rx;have e':(∃xs,bW X.K H p xs/\k=!xs.isEmpty)\/(∃xs,jZ X.K H p xs/\k=!xs.isEmpty)\/∃aw,H p=some (.dK aw)/\k=!aw.isEmpty:=e;rcases e' with⟨xs,hx,e'⟩|⟨xs,hx,e'⟩|⟨aw,hx,e'⟩
  ·subst e'
   obtain⟨av,r,pl,hz⟩:=I.list hx;have cM:=r.length;exact wpAny_truthy_list pl.isList (by simp only[eU];omega) ⟨H,I.tok _,by rw[lr r];exact q⟩
  ·subst e'
   obtain⟨av,r,pl,hz⟩:=I.tuple hx;have cM:=r.length;exact truthy_tuple pl (by simp only[eU];omega) ⟨H,I.tok _,by rw[lr r];exact q⟩
  ·subst e'
   obtain⟨hz,hS,vs,r,m⟩:aw.length<=sizeLine/\(p == sysModules)=false/\∃vs,KV aw vs/\s.heap.DictOf (aN X.prog X.w) p vs:=I.aV p _ hx;have cM:aw.length=vs.length:=Paired.length r;exact wpAny_truthy_dict hS m (by omega) ⟨H,I.tok _,by rw[sO r];exact q⟩
 |_=>exact(show False from e).elim
theorem zB(ha:PE X a ta)(he:∀gj,isTrue a X.env gj=(do let v <- gj;standAt a.pos;holding [v] (truthy v))) :
  PT X a (λσ H Q=>ta σ H λx H'=>∃k,Jg X.K x H' k/\Q k H'):=by
 intro ae s σ H Q I h;exact isTrue_plain (bo (ha ae s σ H _ I h) λv s1 ⟨x,H1,I1,r1,q1⟩=>Jh ae s1 σ H1 x v Q I1 r1 q1) (he _)
theorem sP:eQ X (binaryOp .Add) (λx y H Q=>∃i j,x=.str i/\y=.str j/\i.length+j.length<=sizeLine/\Q (.str (i++j)) H):=by
 intro ae s σ H x y v u Q I rx ry h;obtain⟨i,j,rfl,rfl,hz,q⟩:=h;obtain⟨t,rfl⟩:=rx;obtain⟨t',rfl⟩:=ry;exact add_str (λt' tk=>⟨.str (i++j),H,I.tok _,⟨_,rfl⟩,q⟩) hz
theorem vals1{x:V}{us:B2}(r:Vals [x] us):∃u,us=[u]/\RelV x u:=by
 cases r with
 |cons r1 r2=>cases r2;exact⟨_,rfl,r1⟩
theorem vals2{x y:V}{us:B2}(r:Vals [x,y] us):∃u w',us=[u,w']/\RelV x u/\RelV y w':=by
 cases r with
 |cons r1 r2=>
  cases r2 with
  |cons r3 r4=>cases r4;exact⟨_,_,rfl,r1,r3⟩
theorem zC:cQ X (.builtin "abs") (λxs H Q=>∃i,xs=[.int i]/\Q (.int (if i<0 then -i else i)) H):=by
 intro ae s σ H xs us Q I r h;obtain⟨i,rfl,q⟩:=h;obtain⟨u,rfl,t,rfl⟩:=vals1 r;exact call_abs_int λu tk=>⟨.int (if i<0 then -i else i),H,I.tok _,⟨_,rfl⟩,q⟩
theorem wM(hc:X.calm=true):cQ X (.builtin "min") (λxs H Q=>∃i j,xs=[.int i,.int j]/\Q (.int (if j<i then j else i)) H):=by
 intro ae s σ H xs us Q I r h;obtain⟨i,j,rfl,q⟩:=h;obtain⟨u,w',rfl,⟨t,rfl⟩,⟨t',rfl⟩⟩:=vals2 r;refine min_two_ints (I.ok.hd hc) λh' tk k=>⟨_,H,I.kept k,?_,q⟩;by_cases hj:j<i
 ·rw[if_pos hj,if_pos hj];exact⟨_,rfl⟩
 ·rw[if_neg hj,if_neg hj];exact⟨_,rfl⟩
theorem pG:cQ X (.type "str") (λxs H Q=>∃i,xs=[.int i]/\i.natAbs.log2<1920/\Q (.str (toString i)) H):=by
 intro ae s σ H xs us Q I r h;obtain⟨i,rfl,hz,q⟩:=h;obtain⟨u,rfl,t,rfl⟩:=vals1 r;exact PySem.P.str_of_int hz ⟨.str _,H,I.tok _,⟨_,rfl⟩,q⟩
def ND(K:aS)(x:V)(H:Hp)(n:Nat):Prop:=
 match x with
 |.str y=>y.length<=sizeLine/\n=y.length
 |.byt y=>y.size<=sizeLine/\n=y.size
 |.ref p=>(∃xs,bW K H p xs/\n=xs.length)\/∃xs,jZ K H p xs/\n=xs.length
 |_=>False
theorem jd:cQ X (.builtin "len") (λxs H Q=>∃x n,xs=[x]/\ND X.K x H n/\Q (.int n) H):=by
 intro ae s σ H xs us Q I r h;obtain⟨x,n,rfl,e,q⟩:=h;obtain⟨u,rfl,rx⟩:=vals1 r;have hl:=jJ;have hs:sizeLine=16777216:=sizeLine_eq;cases x with
 |str y=>
  obtain⟨t,rfl⟩:=rx;obtain⟨hy,e'⟩:y.length<=sizeLine/\n=y.length:=e;subst e';exact len_str (by omega) ⟨.int _,H,I.tok _,⟨_,rfl⟩,q⟩
 |byt y=>
  obtain⟨t,rfl⟩:=rx;obtain⟨hy,e'⟩:y.size<=sizeLine/\n=y.size:=e;subst e';exact PySem.W.len_bytes (by omega) ⟨.int _,H,I.tok _,⟨_,rfl⟩,q⟩
 |ref p=>
  cases rx;have e':(∃xs,bW X.K H p xs/\n=xs.length)\/∃xs,jZ X.K H p xs/\n=xs.length:=e;rcases e' with⟨xs,hx,e'⟩|⟨xs,hx,e'⟩
  ·subst e'
   obtain⟨av,r',pl,hz⟩:=I.list hx;have cM:=r'.length;exact Calls.call_len_list pl.isList (by simp only[eU];omega) ⟨.int xs.length,H,I.tok _,⟨_,by simp only[eU];rw[cM]⟩,q⟩
  ·subst e'
   obtain⟨av,r',pl,hz⟩:=I.tuple hx;have cM:=r'.length;exact len_tuple pl (by simp only[eU];omega) ⟨.int xs.length,H,I.tok _,⟨_,by simp only[eU];rw[cM]⟩,q⟩
 |_=>exact(show False from e).elim
end
structure sQ(h:Heap)(x dx C:Addr)(mA:Str->D1):Prop where
 obj:h.get? x=some (qo C dx)
 ns:h.Ns1 dx mA
 ne:dx≠x
theorem wN{h:Heap}{dx:Addr}{mA:Str->D1}(n:h.Ns1 dx mA):∃od,h.get? dx=some od/\∀name,Cz name od=some (mA name):=by
 obtain⟨o,es,ep,ho,hd,hk,_,hm⟩:=n;refine⟨o,ho,λname=>?_⟩;have e:=hm name;unfold nsFind findBy at e;rw[<- Array.find?_toList]at e;unfold Cz;rw[hd];dsimp only;split
 ·rename_i y q
  rw[q]at e;exact congrArg some e
 ·rename_i q
  rw[q]at e;have a:es.toList.any (·.refKey)=false:=by
   rw[List.any_eq_false];intro y hy;obtain⟨z,t,SG⟩:=hk y (Array.mem_toList_iff.mp hy);simp[DictEntry.refKey,SG]
  have a':¬ es.toList.any (·.refKey)=true:=by rw[a];exact fF
  rw[if_neg a'];exact congrArg some e
theorem sQ.look{h:Heap}{x dx C:Addr}{mA:Str->D1}(I:sQ h x dx C mA):∃od,PySem.W.InstAt h x (qo C dx) C (some od)/\∀name,Cz name od=some (mA name):=
 let⟨od,ho,hl⟩:=wN I.ns
 ⟨od,⟨I.obj,rfl,rfl,ho⟩,hl⟩
section
variable{prog:Program}{K:aS}{mA:Str->D1}{name:Str}{v:Value}
theorem get_map{expr:Bool}{Q:Value->Shared->Prop}(X:K.In s.heap)(I:sQ s.heap x dx C mA)(hg:yq K C name=true)(hh:CA K C=true)
  (ha:dO K (.ref C) name=some none) (hv:mA name=some v) (XJ:Ga v=true) (h:Q v {s with toks:=s.toks+1}) :
  wpAny (model prog w) A (getAttr (.ref x) name expr) Q E s:=by
 obtain⟨od,J,hl⟩:=I.look;exact PySem.W.get_value X J (yx hg).1 (PySem.W.findObj_own hh ha rfl (by rw[hl,hv])) XJ h
theorem zD{pl:Sem Bool}{Q:Value×B2->Shared->Prop}(X:K.In s.heap)(I:sQ s.heap x dx C mA)(hg:yq K C name=true)
  (hf:dO K (.ref C) name=some (some (.ref f))) (ht:yr K (.ref f)=true) (hv:mA name=none) (h:Q (.ref f,[.ref x]) s) :
  wpAny (model prog w) A (getMethod (.ref x) name pl) Q E s:=by
 obtain⟨od,J,hl⟩:=I.look;exact PySem.W.method_fn X J (yx hg).1 (yx hg).2 hf (beq_iff_eq.mp ht) (by show(Cz name od).map (·.isSome)=some false;rw[hl,hv];rfl) h
theorem Df{ns:Bi}{Q:Unit->Shared->Prop}(X:K.In s.heap)(I:sQ s.heap x dx C mA)
  (hs:dO K (.ref C) "__setattr__" = some (some (.builtin "object.__setattr__"))) (hp:yy K C=true) (ht:yz K C name=some none) (hh:CA K C=true)
  (hw:PySem.Within mA ns) (hsz:ns.length<=sizeLine)
  (h:∀h',sQ h' x dx C (λy=>if y=name then some v else mA y)->Heap.SameBut dx s.heap h'->Q () {s with heap:=h',toks:=s.toks+2}) :
  wpAny (model prog w) A (setAttr (.ref x) name v) Q E s:=by
 obtain⟨od,J,hl⟩:=I.look;refine PySem.W.set_plain X J hs (PySem.W.osa_open (s:={s with toks:=s.toks+1}) (r:=none) X J hp ht λb=>?_)
 obtain⟨cd,hc,G0⟩:=PySem.W.any_some hh;have hx:s.heap.get? x=some ⟨.ref C,some dx,.plain,#[]⟩:=I.obj;refine wpAny_bind (wpAny_pure (wpAny_bind (wpAny_bind (wpAny_loadPart hx (wpAny_bind (PySem.W.Looks.here (s:={s with toks:=s.toks+1}) (PySem.W.looks_clsIn X hc) ?_))))))
 rw[G0];refine wpAny_pure (a:=some dx) (wpAny_bind (wpAny_pure (wpAny_bind ?_)));refine wpAny_nsSet1 (s:={s with toks:=s.toks+1}) I.ns λh' zE lj=>?_
 obtain⟨oD,esD,epD,XM,XN,Dg⟩:=zE.count (PySem.Within.cons name v hw);refine wpAny_bind (wpAny_lookBehind XM (by rw[XN];exact pastItsLine_dict (il Dg (by rw[cT];omega))) ?_)
 exact wpAny_pure (h _ ⟨(lj.2 _ (Ne.symm I.ne)).trans I.obj,zE,I.ne⟩ lj)
theorem zF{R:Result->Shared->Prop}{vs:B2}{kw:List (Str×Value)}(X:K.In s.heap)(hm:yt K C=true)
  (hi:dO K (.ref C) "__init__" = some (some (.ref f))) (hf:PySem.W.typeIn K (.ref f)=some (.type "function"))
  (h:codeAny (model prog w) (A.under (.builtin "type.__call__" ⟨.ref C::vs,kw⟩)) (.call (.ref f) ⟨.ref (s.heap.objs.size+1)::vs,kw⟩) (PySem.W.InitBack (s.heap.objs.size+1) R)
   {s with heap:=(s.heap.push oX).push (qo C s.heap.objs.size)}) :
  codeAny (model prog w) A (.call (.ref C) ⟨vs,kw⟩) R s:=by
 obtain⟨hh,g,d,t,os⟩:=s;exact PySem.W.make_core (PySem.W.makes_of X hm) (PySem.W.looks_findIn X hi) (λself=>PySem.W.bind_fn X self hf) (.inl rfl) h
end
def cV(f:Str)(v:V):List (Str×V)->List (Str×V)
 |[]=>[(f,v)]
 |(g,x)::r=>if g=f then(g,v)::r else(g,x)::cV f v r
theorem j0(f g:Str)(v:V):∀fs:List (Str×V),(cV f v fs).lookup g=if g=f then some v else fs.lookup g
 |[]=>by
  show kj g [(f,v)]=_;by_cases h:g=f
  ·have hb:(g == f)=true:=beq_iff_eq.mpr h
   simp only[kj,hb,if_pos h]
  ·have hb:(g == f)=false:=beq_eq_false_iff_ne.mpr h
   simp only[kj,hb,if_neg h]
 |(k,x)::r=>by
  have ih:=j0 f g v r;rw[show cV f v ((k,x)::r)=(if k=f then(k,v)::r else(k,x)::cV f v r)from rfl]
  by_cases hk:k=f
  ·rw[if_pos hk]
   by_cases h:g=k
   ·have hb:(g == k)=true:=beq_iff_eq.mpr h
    simp only[kj,hb,if_pos (h.trans hk)]
   ·have hb:(g == k)=false:=beq_eq_false_iff_ne.mpr h
    simp only[kj,hb,if_neg (λe:g=f=>h (e.trans hk.symm))]
  ·rw[if_neg hk]
   by_cases h:g=k
   ·have hb:(g == k)=true:=beq_iff_eq.mpr h
    simp only[kj,hb,if_neg (λe:g=f=>hk (h.symm.trans e))]
   ·have hb:(g == k)=false:=beq_eq_false_iff_ne.mpr h
    simp only[kj,hb];exact ih
theorem jK(f:Str)(v:V):∀fs:List (Str×V),f∈(cV f v fs).map (·.1)/\∀g,g∈fs.map (·.1)->g∈(cV f v fs).map (·.1)
 |[]=>⟨by simp[cV],λg h=>by simp at h⟩
 |(k,x)::r=>by
  obtain⟨i1,i2⟩:=jK f v r;rw[show cV f v ((k,x)::r)=(if k=f then(k,v)::r else(k,x)::cV f v r)from rfl]
  by_cases hk:k=f
  ·rw[if_pos hk]
   subst hk;exact⟨by simp,λg h=>by simpa using h⟩
  ·rw[if_neg hk]
   refine⟨?_,λg h=>?_⟩
   ·rw[dY]
    exact dm _ i1
   ·rw[dY]at h ⊢
    rcases cH.mp h with e|e
    ·exact cH.mpr (.inl e)
    ·exact dm _ (i2 g e)
theorem j1(f:Str)(v:V):∀fs:List (Str×V),(cV f v fs).length<=fs.length+1
 |[]=>by simp[cV]
 |(k,x)::r=>by
  have ih:=j1 f v r;rw[show cV f v ((k,x)::r)=(if k=f then(k,v)::r else(k,x)::cV f v r)from rfl]
  by_cases hk:k=f
  ·rw[if_pos hk,cT,cT];omega
  ·rw[if_neg hk,cT,cT];omega
theorem gA.some_of{v:V}{o:D1}(r:gA (some v) o):∃u,o=some u/\RelV v u:=by
 cases o with
 |none=>exact(show False from r).elim
 |some u=>exact⟨u,rfl,r⟩
theorem gA.none_of{o:D1}(r:gA none o):o=none:=by
 cases o with
 |none=>rfl
 |some u=>exact(show False from r).elim
theorem wQ{v:V}{u:Value}(r:RelV v u):Ga u=true:=by
 cases v with
 |non=>cases(show u=Value.none from r);rfl
 |bl b=>cases(show u=Value.bool b from r);rfl
 |int i=>obtain⟨t,e⟩:=(show ∃t,u=Value.int i t from r);cases e;rfl
 |str x=>obtain⟨t,e⟩:=(show ∃t,u=Value.str x t from r);cases e;rfl
 |byt b=>obtain⟨t,e⟩:=(show ∃t,u=Value.bytes b t from r);cases e;rfl
 |flt b=>obtain⟨t,e⟩:=(show ∃t,u=Value.float b t from r);cases e;rfl
 |ref a=>cases(show u=Value.ref a from r);rfl
 |ty n=>cases(show u=Value.type n from r);rfl
section
variable{fs nJ:List (Str×V)}
theorem je(aV:iI P w H h)(e:H a=some (.ins C dx fs)):∃mA,sQ h a dx C mA/\(∀f,gA (fs.lookup f) (mA f))/\PySem.Within mA (fs.map (·.1))/\fs.length<=1000/\H dx=some (.own a):=by
 obtain⟨d,z,ne,ob,mA,n,r,q⟩:=(show bA P w H h a (.ins C dx fs)from aV a _ e);exact⟨mA,⟨ob,n,ne⟩,r,q,z,d⟩
end
structure mO(K:aS)(C:Addr):Prop where
 pg:yq K C Str.empty=true
 hd:CA K C=true
 po:yy K C=true
 sa:dO K (.ref C) "__setattr__" = some (some (.builtin "object.__setattr__"))
theorem mO.get{K:aS}{C:Addr}(c:mO K C)(f:Str):yq K C f=true:=c.pg
def dq(K:aS)(C:Addr)(f:Str):Prop:=dO K (.ref C) f=some none
theorem dq.NF{K:aS}{C:Addr}{f:Str}(n:dq K C f):yz K C f=some none:=by
 unfold yz;rw[show dO K (.ref C) f=some none from n];rfl
structure Meth(K:aS)(C:Addr)(m:Str)(f:Addr):Prop where
 at_:dO K (.ref C) m=some (some (.ref f))
 fn:yr K (.ref f)=true
 kp:mR K (.ref f)=true
section
variable{X:Cx}{σ:St}{fs:List (Str×V)}{f:Str}{v:V}
theorem ly{b:Bool}{Q:Value->Shared->Prop}(I:Inv X ae σ H s)(e:H a=some (.ins C dx fs))(c:mO X.K C)(n:dq X.K C f)(l:fs.lookup f=some v)
  (h:∀u s',Inv X ae σ H s'->RelV v u->Q u s'):wpAny (model X.prog X.w) A (getAttr (.ref a) f b) Q E s:=by
 obtain⟨mA,O,r,_,_,_⟩:=je I.aV e;obtain⟨u,hu,ru⟩:=gA.some_of (v:=v) (o:=mA f) (by rw[<- l];exact r f)
 exact get_map I.gK O (c.get f) c.hd n hu (wQ ru) (h u _ (I.tok _) ru)
theorem fZ{m:Str}{g:Addr}{pl:Sem Bool}{Q:Value×B2->Shared->Prop}(I:Inv X ae σ H s)(e:H a=some (.ins C dx fs))(c:mO X.K C)(k:Meth X.K C m g)(l:fs.lookup m=none)
  (h:Q (.ref g,[.ref a]) s):wpAny (model X.prog X.w) A (getMethod (.ref a) m pl) Q E s:=by
 obtain⟨mA,O,r,_,_,_⟩:=je I.aV e;have hn:mA m=none:=gA.none_of (by rw[<- l];exact r m)
 exact zD I.gK O (c.get m) k.at_ k.fn hn h
theorem lA{y:V}{u:Value}{Q:Unit->Shared->Prop}(I:Inv X ae σ H s)(e:H a=some (.ins C dx fs))(c:mO X.K C)(n:dq X.K C f)(hl:fs.length<1000)(ry:RelV y u)
  (h:∀s',Inv X ae σ (upd H a (.ins C dx (cV f y fs))) s'->Q () s'):wpAny (model X.prog X.w) A (setAttr (.ref a) f u) Q E s:=by
 obtain⟨mA,O,r,wi,_,ho⟩:=je I.aV e;have hz:(fs.map (·.1)).length<=sizeLine:=by rw[dB,sizeLine_eq];omega
 refine Df I.gK O c.sa c.po n.NF c.hd wi hz λh' O' sb=>h _ ?_;have hd:∃o,h'.get? dx=some o:=let⟨o,_,_,e',_⟩:=O'.ns;⟨o,e'⟩;refine I.write (x:=a) (e:=dx) (by rw[e];exact True.intro) (.inr ho) (λb q hb z=>(sb.2 b hb).trans z) hd ?_
 refine⟨by rw[ak O.ne];exact ho,?_,O.ne,O'.obj,_,O'.ns,λg=>?_,λg hg=>?_⟩
 ·have:=j1 f y fs;omega
 ·show gA ((cV f y fs).lookup g) (if g=f then some u else mA g)
  rw[j0];by_cases q:g=f
  ·rw[if_pos q,if_pos q];exact ry
  ·rw[if_neg q,if_neg q];exact r g
 ·by_cases q:g=f
  ·rw[q];exact(jK f y fs).1
  ·refine(jK f y fs).2 g (wi g λz=>hg ?_)
   show(if g=f then some u else mA g)=none
   rw[if_neg q];exact z
theorem Inv.made(I:Inv X ae σ H s):Inv X ae σ (upd (upd H s.heap.objs.size (.own (s.heap.objs.size+1))) (s.heap.objs.size+1) (.ins C s.heap.objs.size []))
  {s with heap:=(s.heap.push oX).push (qo C s.heap.objs.size)}:=by
 have e1:(s.heap.push oX).get? s.heap.objs.size=some oX:=Heap.get?_push_size s.heap rfl;have e2:((s.heap.push oX).push (qo C s.heap.objs.size)).get? (s.heap.objs.size+1)=some (qo C s.heap.objs.size):=by
  have:=Heap.get?_push_size (s.heap.push oX) (o:=qo C s.heap.objs.size) rfl
  rwa [Heap.size_push]at this
 have e3:(s.heap.push oX).Ns s.heap.objs.size (λ_=>none):=⟨oX,#[],_,e1,rfl,(λe he=>absurd he (by simp)),λ_=>rfl⟩
 have I1:=I.laid (a:=s.heap.objs.size) (o:=.own (s.heap.objs.size+1)) (h':=s.heap.push oX) (t':=s.toks) (λb u q=>Heap.get?_push_of_some _ q) (cC _) ⟨_,e1⟩;refine I1.laid (a:=s.heap.objs.size+1) (o:=.ins C s.heap.objs.size []) (t':=s.toks) (λb u q=>Heap.get?_push_of_some _ q) (yL (Heap.size_push _ _)) ?_;have ne:s.heap.objs.size≠s.heap.objs.size+1:=cL (sD _);refine⟨by rw[ak ne,af],kh _,ne,e2,λ_=>none,(Heap.Ns1.of_empty e3).at λo q=>Heap.get?_push_of_some _ q,λ_=>True.intro,λy hy=>absurd rfl hy⟩
theorem Dh{prog:Program}{w:World}{env:Env}{e:Expr}{f:Str}{pos:Pos}{s:Shared}{Q:Value->Shared->Prop}(hb:attributeBase e f env (eval e env)=eval e env)
  (h:wpAny (model prog w) A (eval e env) (λo s₁=>wpAny (model prog w) A (getAttr o f true) Q E s₁) E s):wpAny (model prog w) A (eval (.Attribute e f pos) env) Q E s:=
 Attribute_any_ h (by rw[arm_eval_Attribute,hb])
end
def SH(K:aS)(ta:TE)(f:Str):TE:=λσ H Q=>ta σ H λx H1=>∃a C dx fs v,x=.ref a/\H1 a=some (.ins C dx fs)/\mO K C/\dq K C f/\fs.lookup f=some v/\Q v H1
def NG(K:aS)(ta tv:TE)(f:Str):TS:=λD σ H=>tv σ H λy H1=>ta σ H1 λx H2=>∃a C dx fs,x=.ref a/\H2 a=some (.ins C dx fs)/\mO K C/\dq K C f/\fs.length<1000 /\
 D.nx σ (upd H2 a (.ins C dx (cV f y fs)))
def NH(X:Cx)(op:Operator)(rd:V->V->Hp->VK->Prop):Prop:=
 ∀(ae:b7)(s:Shared)(σ:St)(H:Hp)(x y:V)(u v:Value)(Q:VK),Inv X ae σ H s->RelV x u->RelV y v->rd x y H Q->wpAny (model X.prog X.w) X.A (inplaceOp op u v) (EP X ae σ Q) X.xe s
def Di(K:aS)(ta tv:TE)(rd:V->V->Hp->VK->Prop)(f:Str):TS:=λD σ H=>ta σ H λx H1=>∃a C dx fs v,x=.ref a/\H1 a=some (.ins C dx fs)/\mO K C/\dq K C f/\fs.lookup f=some v /\
 tv σ H1 λy H2=>rd v y H2 λz H3=>∃RI nJ,H3 a=some (.ins C RI nJ)/\nJ.length<1000/\D.nx σ (upd H3 a (.ins C RI (cV f z nJ)))
section
variable{X:Cx}{value:Expr}{f:Str}{bM gB:Pos}{ta tv:TE}
theorem zG(he:PE X e ta)(hb:attributeBase e f X.env (eval e X.env)=eval e X.env):PE X (.Attribute e f pos) (SH X.K ta f):=by
 intro ae s σ H Q I h;refine Dh hb (bo (he ae s σ H _ I h) λu s1 zz=>?_);obtain⟨x,H1,I1,rx,a,C,dx,fs,v,ex,ea,c,n,l,q⟩:=zz;subst ex
 obtain rfl:u=Value.ref a:=rx
 exact ly I1 ea c n l λu' s2 I2 ru=>⟨v,H1,I2,ru,q⟩
theorem sR(ha:PE X o ta)(hv:PE X value tv)(hs:swapsWith value (some (.Attribute o f bM)) pos.line X.env=pure false):PS X (.Assign [.Attribute o f bM] value pos) (NG X.K ta tv f):=by
 intro ae s σ H D I h;refine plainObj_wpAny_Assign_Attribute (bo (hv ae s σ H _ I h) λu s1 ⟨y,H1,I1,ry,q⟩=>bo (ha ae s1 σ H1 _ I1 q) λov s2 ⟨x,H2,I2,rx,a,C,dx,fs,ex,ea,c,n,l,q2⟩=>?_) hs;subst ex
 obtain rfl:ov=Value.ref a:=rx
 exact lA I2 ea c n l ry λs3 I3=>⟨σ,_,I3,q2⟩
theorem wR{op:Operator}{rd:V->V->Hp->VK->Prop}(ha:PE X o ta)(hv:PE X value tv)(XO:NH X op rd):PS X (.AugAssign (.Attribute o f gB) op value pos) (Di X.K ta tv rd f):=by
 intro ae s σ H D I h;refine wpAny_AugAssign_AttributeAny (bo (ha ae s σ H _ I h) λov s1 zz=>?_);obtain⟨x,H1,I1,rx,a,C,dx,fs,v,ex,ea,c,n,l,q⟩:=zz;subst ex
 obtain rfl:ov=Value.ref a:=rx
 refine ly I1 ea c n l λu s2 I2 ru=>bo (hv ae s2 σ H1 _ I2 q) λw3 s3 ⟨y,H2,I3,ry,q3⟩=>bo (XO ae s3 σ H2 v y u w3 _ I3 ru ry q3) λw4 s4 zz=>?_;obtain⟨z,H3,I4,rz,RI,nJ,XQ,l',q4⟩:=zz;exact lA I4 XQ c n l' rz λs5 I5=>⟨σ,_,I5,q4⟩
def SI:V->V->Hp->VK->Prop:=λx y H Q=>∃i j,x=.int i/\y=.int j/\Q (.int (i+j)) H
theorem Ji:NH X .Add SI:=by
 rintro ae s σ H x y u v Q I rx ry ⟨i,j,rfl,rfl,q⟩
 obtain⟨t,rfl⟩:=(show ∃t,u=Value.int i t from rx);obtain⟨t',rfl⟩:=(show ∃t',v=Value.int j t' from ry);exact PyProof.Rows.iadd_int ⟨.int (i+j),H,I.tok _,⟨_,rfl⟩,q⟩
end
section
variable{X:Cx}{σ:St}{Q:Value->Shared->Prop}{c:Value}{b:Bool}
inductive iu(K:aS)(H:Hp):V->Value->Prop where
 |non:iu K H .non (.type "NoneType")
 |bl (x:Bool):iu K H (.bl x) (.type "bool")
 |int (i:Int):iu K H (.int i) (.type "int")
 |str (x:Str):iu K H (.str x) (.type "str")
 |flt (x:UInt64):iu K H (.flt x) (.type "float")
 |lst {a:Addr} {xs:List V} (e:H a=some (.lst xs)):iu K H (.ref a) (.type "list")
 |gJ {a:Addr} {o:Obj} {xs:List V} (e:H a=some (.gJ o (.lst xs))):iu K H (.ref a) (.type "list")
 |tup {a:Addr} {xs:List V} (e:jZ K H a xs):iu K H (.ref a) (.type "tuple")
 |dK {a:Addr} {aw:List (Key×V)} (e:H a=some (.dK aw)):iu K H (.ref a) (.type "dict")
 |dT {a:Addr} {aw:List (List Key×V)} (e:H a=some (.dT aw)):iu K H (.ref a) (.type "dict")
 |ins {a C dx:Addr} {fs:List (Str×V)} (e:H a=some (.ins C dx fs)) (cl:mO K C) (ha:dO K (.ref C) "__class__" = some (some (.builtin "object.__class__")))
   (hn:yu K (.builtin "object.__class__") "__get__" = some (some (.builtin "getset_descriptor.__get__"))) (RJ:yv K (.builtin "object.__class__")=some true)
   (hm:wx K C (.type "object")=some true):iu K H (.ref a) (.ref C)
theorem nN{x:V}{u t:Value}(I:Inv X ae σ H s)(rx:RelV x u)(ty:iu X.K H x t)(e:gG X.K t c=some b)(h:∀tk,Q (.bool b) {s with toks:=tk}) :
  wpAny (model X.prog X.w) A (call (.builtin "isinstance") [u,c]) Q E s:=by
 cases ty with
 |non=>cases(show u=Value.none from rx);exact jG PySem.W.kitx_none I.gK True.intro e (λz=>nomatch z) h
 |bl y=>cases(show u=Value.bool y from rx);exact jG PySem.W.kitx_bool I.gK True.intro e (λz=>nomatch z) h
 |int i=>obtain⟨t,q⟩:=(show ∃t,u=Value.int i t from rx);cases q;exact jG PySem.W.kitx_int I.gK True.intro e (λz=>nomatch z) h
 |str y=>obtain⟨t,q⟩:=(show ∃t,u=Value.str y t from rx);cases q;exact jG PySem.W.kitx_str I.gK True.intro e (λz=>nomatch z) h
 |flt y=>obtain⟨t,q⟩:=(show ∃t,u=Value.float y t from rx);cases q;exact jG PySem.W.kitx_float I.gK True.intro e (λz=>nomatch z) h
 | @lst a xs ea=>
  cases(show u=Value.ref a from rx);obtain⟨_,_,n,_,h1⟩:=(show bA X.prog X.w H s.heap a (.lst xs)from I.aV a _ ea);exact jG Gb I.gK ⟨_,h1,rfl⟩ e (λz=>nomatch z) h
 | @gJ a ob xs ea=>
  cases(show u=Value.ref a from rx);obtain⟨_,_,_,n,_,h1⟩:=(show bA X.prog X.w H s.heap a (.gJ ob (.lst xs))from I.aV a _ ea);exact jG Gb I.gK ⟨_,h1,rfl⟩ e (λz=>nomatch z) h
 | @tup a xs ea=>
  cases(show u=Value.ref a from rx);obtain⟨_,_,p,_⟩:=I.tuple ea;obtain⟨o,h1,h2,_⟩:=p;exact jG PySem.W.kitx_tuple I.gK ⟨o,h1,h2⟩ e (λz=>nomatch z) h
 | @dK a aw ea=>
  cases(show u=Value.ref a from rx);obtain⟨_,_,vs,_,p⟩:=(show bA X.prog X.w H s.heap a (.dK aw)from I.aV a _ ea);obtain⟨o,es,ep,h1,h2,_⟩:=p;exact jG Gd I.gK ⟨o,h1,h2.1⟩ e (λz=>nomatch z) h
 | @dT a aw ea=>
  cases(show u=Value.ref a from rx);obtain⟨_,_,xs,_,o,es,ep,h1,h2,_⟩:=(show bA X.prog X.w H s.heap a (.dT aw)from I.aV a _ ea);exact jG Gd I.gK ⟨o,h1,h2.1⟩ e (λz=>nomatch z) h
 | @ins a C dx fs ea cl ha hn RJ hm=>
  cases(show u=Value.ref a from rx);obtain⟨mA,O,_⟩:=je I.aV ea;obtain⟨od,J,_⟩:=O.look;exact jG (Ge (cl.get _) cl.hd ha hn RJ hm) I.gK J e (λz=>nomatch z) h
end
structure aX(k:Nat)(A:Around):Prop where
 hd:A.handled=none
 dp:A.depth+3*k+5<recursionLimit
 un:A.units+16*k+200<cLine
theorem aX.mono{j k:Nat}{A:Around}(r:aX k A)(h:j<=k):aX j A:=⟨r.hd,by have:=r.dp;omega,by have:=r.un;omega⟩
theorem aX.deeper{k:Nat}{A:Around}(r:aX (k+1) A)(env:Env):aX k (A.deeper env):=
 ⟨r.hd,by have:=r.dp;show A.depth+1+3*k+5<_;omega,by have:=r.un;show A.units+3+16*k+200<_;omega⟩
theorem sU{A:Around}{C:Addr}{us:B2}{kw:List (Str×Value)}:(A.under (.builtin "type.__call__" ⟨.ref C::us,kw⟩)).depth=A.depth+1:=by
 first|rfl|simp[Around.under,Code.weight,Code.isCreation,Code.isGuard,Code.isCaller,Code.frames,Code.isFrame,guardIds]
theorem sV{A:Around}{C:Addr}{us:B2}{kw:List (Str×Value)}:(A.under (.builtin "type.__call__" ⟨.ref C::us,kw⟩)).units=A.units+1:=by
 first|rfl|simp[Around.under,Code.cUnits,Code.frames,Code.isFrame]
theorem aX.make{k:Nat}{A:Around}(r:aX (k+1) A)(C:Addr)(us:B2)(kw:List (Str×Value)):aX k (A.under (.builtin "type.__call__" ⟨.ref C::us,kw⟩)):=
 ⟨r.hd,by have:=r.dp;rw[sU];omega,by have:=r.un;rw[sV];omega⟩
theorem aX.depth{k:Nat}{A:Around}(r:aX k A):A.depth<recursionLimit:=by have:=r.dp;omega
theorem aX.units{k:Nat}{A:Around}(r:aX k A):A.units+64<cLine:=by have:=r.un;omega
def zH:TA:=λ_ H Q=>Q [] H
def NI(ta:TE)(tr:TA):TA:=λσ H Q=>ta σ H λx H1=>tr σ H1 λxs H2=>Q (x::xs) H2
section
variable{X:Cx}{te:TE}{t:TA}
theorem aO:PA X [] zH:=λ_ _ _ _ H Q I h=>Calls.spliced_nil ⟨[],H,I,.nil,h⟩
theorem az(ha:PE X e te)(hr:PA X es t)(hs:starEach (e::es) X.env=(false,eval e X.env)::starEach es X.env:=by rfl):PA X (e::es) (NI te t):=by
 intro pos ae s σ H Q I h;rw[hs];show wpAny _ _ (spliced ((false,eval e X.env)::backTo pos (starEach es X.env))) _ _ s;refine Calls.spliced_cons (bo (ha ae s σ H _ I h) λu s1 zz=>?_);obtain⟨x,H1,I1,r1,q1⟩:=zz;exact bo (hr pos ae s1 σ H1 _ I1 q1) λus s2 ⟨xs,H2,I2,r2,q2⟩=>⟨x::xs,H2,I2,.cons r1 r2,q2⟩
def SJ(t:TA):TE:=λσ H Q=>t σ H λxs H1=>xs.length<=sizeLine/\∀p,H1 p=none->Q (.ref p) (upd H1 p (.tup xs))
def SK(t:TA):TE:=λσ H Q=>t σ H λxs H1=>xs.length<=sizeLine/\∀p,H1 p=none->Q (.ref p) (upd H1 p (.lst xs))
theorem zI{x1}(h:PA X es t):PE X (.Tuple es x1 pos) (SJ t):=by
 intro ae s σ H Q I hq;refine wpAny_Tuple_spliced (bo (h pos ae s σ H _ I hq) λus s1 ⟨xs,H1,I1,r,z,q⟩=>⟨by rw[<- r.length];exact z,?_⟩)
 have hf:H1 s1.heap.objs.size=none:=I1.aV.fresh (cC _);refine⟨.ref s1.heap.objs.size,upd H1 s1.heap.objs.size (.tup xs),I1.laid (t':=s1.toks) (λb u e=>Heap.get?_push_of_some _ e) (cC _) ?_,rfl,q _ hf⟩;exact⟨z,us,r,⟨_,Heap.get?_push_size _ rfl,rfl,_,rfl⟩⟩
theorem lB(h:PA X es t):PE X (.List es pos) (SK t):=by
 intro ae s σ H Q I hq;refine wpAny_List_spliced (bo (h pos ae s σ H _ I hq) λus s1 ⟨xs,H1,I1,r,z,q⟩=>⟨by rw[<- r.length];exact z,?_⟩)
 have hf:H1 s1.heap.objs.size=none:=I1.aV.fresh (cC _);refine⟨.ref s1.heap.objs.size,upd H1 s1.heap.objs.size (.lst xs),I1.laid (t':=s1.toks) (λb u e=>Heap.get?_push_of_some _ e) (cC _) ?_,rfl,q _ hf⟩;exact⟨z,us,0,r,Heap.get?_push_size _ rfl⟩
end
abbrev Sp:=List V->Hp->VK->XK->Prop
abbrev yf:=List Env->Hp->Shared->XK->Value->Shared->Prop
structure sW(P:Program)(w:World)(K:aS)(mg:Str->D1)(base:Heap)(A:Around)(outer:List Env)(s:Shared)(H:Hp):Prop where
 frames:A.frames=some outer
 mod:Mod K mg base
 bs:∀b o,base.get? b=some o->s.heap.get? b=some o/\H b=none
 bsz:base.objs.size<=s.heap.objs.size
 i9:s.heap.FunFrames base outer
 frf:∀b∈mL outer,H b=none
 aV:iI P w H s.heap
 bare:AllBare s.gens
def CE(outer:List Env)(P:Program)(w:World)(H:Hp)(s:Shared)(Q:VK)(u:Value)(s':Shared):Prop:=
 ∃v H',s'.os=s.os/\AllBare s'.gens/\Un (mL outer) [] H H' s.heap s'.heap/\iI P w H' s'.heap/\RelV v u/\Q v H'
def CR(CX:yf)(outer:List Env)(P:Program)(w:World)(H:Hp)(s:Shared)(Q:VK)(E:XK)(r:Result)(s':Shared):Prop:=
 match r with
 |.ok (.ret u)=>CE outer P w H s Q u s'
 |.ok _=>False
 |.error e=>CX outer H s E e s'
structure bH(P:Program)(w:World)(K:aS)(mg:Str->D1)(base:Heap)(CX:yf)(k:Nat)(f:Addr)(fd:FuncData)(ps:Bi)(sp:Sp):Prop where
 len:∀vs H Q E,sp vs H Q E->vs.length=ps.length
 run:∀(A:Around)(outer:List Env)(s:Shared)(H:Hp)(args:Args)(us:B2)(vs:List V)(Q:VK)(E:XK),aX k A->sW P w K mg base A outer s H->BindsTo s fd args (ps.zip us)->Vals vs us->sp vs H Q E ->
  codeAny (model P w) A (.call (.ref f) args) (CR CX outer P w H s Q E) s
theorem bH.imp{P:Program}{w:World}{K:aS}{mg:Str->D1}{base:Heap}{CX:yf}{k:Nat}{f:Addr}{fd:FuncData}{ps:Bi}{sp V0:Sp}(F:bH P w K mg base CX k f fd ps sp)
  (h:∀vs H Q E,V0 vs H Q E->sp vs H Q E):bH P w K mg base CX k f fd ps V0:=
 ⟨λvs H Q E q=>F.len vs H Q E (h _ _ _ _ q),λA outer s H args us vs Q E hr he hb hv hs=>F.run A outer s H args us vs Q E hr he hb hv (h _ _ _ _ hs)⟩
theorem sW.make{P:Program}{w:World}{K:aS}{mg:Str->D1}{base:Heap}{A:Around}{outer:List Env}{s:Shared}{H:Hp}(e:sW P w K mg base A outer s H)(C:Addr)(us:B2)(kw:List (Str×Value)) :
  sW P w K mg base (A.under (.builtin "type.__call__" ⟨.ref C::us,kw⟩)) outer s H:=⟨by first|exact e.frames|(simpa[Around.under,Code.envs,Code.isFrame,pushEnvs]using e.frames),e.mod,e.bs,e.bsz,e.i9,e.frf,e.aV,e.bare⟩
section
variable{X:Cx}{σ:St}{s':Shared}
theorem Inv.Jj(I:Inv X ae σ H s):sW X.prog X.w X.K X.mg X.base X.A X.stack s H:=
 ⟨I.ok.frames,I.ok.mod,I.bs,il I.ok.bsz I.sz,I.stack,I.pe,I.aV,I.bare⟩
theorem Inv.after{Q:VK}{u:Value}(I:Inv X ae σ H s)(h:CE X.stack X.prog X.w H s Q u s'):EP X ae σ Q u s':=by
 obtain⟨v,H',os,bare,un,aV,r,q⟩:=h;obtain⟨hh,g,d,t,XR⟩:=s'
 obtain rfl:XR=s.os:=os
 exact⟨v,H',I.call (h':=hh) (g':=g) (d':=d) (t':=t) (ch:=[]) un aV bare (λb z=>absurd z (by simp)),r,q⟩
end
def G8(sp:Sp)(fE:List V)(E:XK)(t:TA):TE:=λσ H Q=>t σ H λvs H1=>sp (vs++fE) H1 Q E
def qz(C:Addr)(m:Str)(sp:Sp)(fE:List V)(E:XK)(ta:TE)(t:TA):TE:=λσ H Q=>ta σ H λx H1=>∃a dx fs,x=.ref a/\H1 a=some (.ins C dx fs)/\fs.lookup m=none /\
 t σ H1 λvs H2=>sp (x::(vs++fE)) H2 Q E
def NJ(C:Addr)(sp:Sp)(fE:List V)(E:XK)(t:TA):TE:=λσ H Q=>t σ H λvs H1=>∀x dx,H1 x=none->H1 dx=none->dx≠x ->
 sp (.ref x::(vs++fE)) (upd (upd H1 dx (.own x)) x (.ins C dx [])) (λv H2=>v=.non/\Q (.ref x) H2) E
def Binds(K:aS)(fd:FuncData)(ps:Bi)(ds:B2):Prop:=
 ∀(s:Shared)(us:B2),K.In s.heap->(us++ds).length=ps.length->BindsTo s fd ⟨us,[]⟩ (ps.zip (us++ds))
theorem Binds.all{K:aS}{fd:FuncData}{ps:Bi}(h:∀us:B2,us.length=ps.length->bindArgs fd ⟨us,[]⟩=pure (ps.zip us)):Binds K fd ps []:=λs us _ hl=>by
 rw[fh]at hl ⊢;exact .of_eq (h us hl)
def Passes(CX:yf)(X:Cx)(E:XK):Prop:=∀(ae:b7)(σ:St)(H:Hp)(s:Shared)(e:Value)(s':Shared),Inv X ae σ H s->CX X.stack H s E e s'->X.xe e s'
section
variable{X:Cx}{CX:yf}{k:Nat}{fd:FuncData}{ps:Bi}{sp:Sp}{fE:List V}{ds:B2}{E:XK}{x m:Str}{aY:Pos}{ta:TE}{t:TA}
theorem pH{ae:b7}{σ:St}{H:Hp}{s:Shared}{Q:VK}{us:B2}{vs:List V}(F:bH X.prog X.w X.K X.mg X.base CX k f fd ps sp)(hr:aX k X.A)(hb:Binds X.K fd ps ds)(hd:Vals fE ds)(hx:Passes CX X E)
  (I:Inv X ae σ H s) (r:Vals vs us) (h:sp (vs++fE) H Q E):wpAny (model X.prog X.w) X.A (call (.ref f) us) (EP X ae σ Q) X.xe s:=by
 have r2:Vals (vs++fE) (us++ds):=r.append hd;have hl:(us++ds).length=ps.length:=by rw[<- r2.length];exact F.len _ _ _ _ h
 refine wpAny_call (codeAny_mono (F.run X.A X.stack s H ⟨us,[]⟩ (us++ds) (vs++fE) Q E hr I.Jj (hb s us I.gK hl) r2 h) λr s' hq=>?_);cases r with
 |error e=>exact hx ae σ H s e s' I hq
 |ok fl=>
  cases fl with
  |ret u=>exact I.after hq
  |next=>exact False.elim hq
  |brk=>exact False.elim hq
  |cont=>exact False.elim hq
theorem uH(F:bH X.prog X.w X.K X.mg X.base CX k f fd ps sp)(hr:aX k X.A)(hg:Gl X x)(hm:X.mg x=some (.ref f))(hk:mR X.K (.ref f)=true)(hb:Binds X.K fd ps ds)(hd:Vals fE ds)(hx:Passes CX X E)
  (ha:PA X (e::es) t) (iK:aQ x:=by decide) (he:starEach (e::es) X.env=(false,eval e X.env)::starEach es X.env:=by rfl) (hpl:(backTo pos (starEach es X.env)).any (·.1)=false:=by rfl) :
  PE X (.Call (.Name x p) (e::es) [] pos) (G8 sp fE E t):=by
 intro ae s σ H Q I h;refine wpAny_Call_Name_kw (fX I hg hm ?_ iK);refine CD (h₀:=X.base) I.ok.mod.kin hk (bo (ha pos ae s σ H _ I h) λus s1 ⟨vs,H1,I1,r,q⟩=>⟨I1.gK,?_⟩) he hpl;exact pH F hr hb hd hx I1 r q
theorem zJ(F:bH X.prog X.w X.K X.mg X.base CX k f fd ps sp)(hr:aX k X.A)(hg:Gl X x)(hm:X.mg x=some (.ref f))(hk:mR X.K (.ref f)=true)(hb:Binds X.K fd ps ds)(hd:Vals fE ds)(hx:Passes CX X E)
  (iK:aQ x:=by decide):PE X (.Call (.Name x p) [] [] pos) (G8 sp fE E zH):=by
 intro ae s σ H Q I h;refine wpAny_Call_Name_kw (fX I hg hm ?_ iK);exact CF I.gK hk (pH (us:=[]) F hr hb hd hx I .nil h)
theorem Dj{pl:Sem Bool}(he:PE X o ta)(c:mO X.K C)(hm:Meth X.K C m f)(F:bH X.prog X.w X.K X.mg X.base CX k f fd ps sp)(hr:aX k X.A)(hb:Binds X.K fd ps ds)(hd:Vals fE ds)(hx:Passes CX X E)(ha:PA X (e::es) t)
  (uG:starEach (e::es) X.env=(false,eval e X.env)::starEach es X.env:=by rfl) (hpl:(backTo pos (starEach es X.env)).any (·.1)=false:=by rfl)
  (ht:eval (.Call (.Attribute o m aY) (e::es) [] pos) X.env=(do
   let ov <- eval o X.env
   standAt aY.atName
   let(f,first) <- holding [ov] (getMethod ov m pl)
   callWith pos f first (backTo pos (starEach (e::es) X.env)) (backToKw pos (keywordEach [] X.env))):=by rfl) :
  PE X (.Call (.Attribute o m aY) (e::es) [] pos) (qz C m sp fE E ta t):=by
 intro ae s σ H Q I h;refine CG (pl:=pl) (bo (he ae s σ H _ I h) λu s1 ⟨x,H1,I1,rx,a,dx,fs,ex,ea,l,q⟩=>?_) ht;subst ex
 obtain rfl:u=Value.ref a:=rx
 refine fZ I1 ea c hm l ?_;refine CD (first:=[.ref a]) (h₀:=X.base) I.ok.mod.kin hm.kp (bo (ha pos ae s1 σ H1 _ I1 q) λus s2 ⟨vs,H2,I2,r,q2⟩=>⟨I2.gK,?_⟩) uG hpl
 exact pH (us:=.ref a::us) (vs:=.ref a::vs) F hr hb hd hx I2 (.cons rfl r) q2
theorem qA{pl:Sem Bool}(he:PE X o ta)(c:mO X.K C)(hm:Meth X.K C m f)(F:bH X.prog X.w X.K X.mg X.base CX k f fd ps sp)(hr:aX k X.A)(hb:Binds X.K fd ps ds)(hd:Vals fE ds)(hx:Passes CX X E)
  (ht:eval (.Call (.Attribute o m aY) [] [] pos) X.env=(do
   let ov <- eval o X.env
   standAt aY.atName
   let(f,first) <- holding [ov] (getMethod ov m pl)
   callWith pos f first (backTo pos (starEach [] X.env)) (backToKw pos (keywordEach [] X.env))):=by rfl) :
  PE X (.Call (.Attribute o m aY) [] [] pos) (qz C m sp fE E ta zH):=by
 intro ae s σ H Q I h;refine CG (pl:=pl) (bo (he ae s σ H _ I h) λu s1 ⟨x,H1,I1,rx,a,dx,fs,ex,ea,l,q⟩=>?_) ht;subst ex
 obtain rfl:u=Value.ref a:=rx
 refine fZ I1 ea c hm l ?_;exact CF (first:=[.ref a]) I1.gK hm.kp (pH (us:=[.ref a]) (vs:=[.ref a]) F hr hb hd hx I1 (.cons rfl .nil) q)
structure Mk(K:aS)(C f:Addr):Prop where
 makes:yt K C=true
 init:dO K (.ref C) "__init__" = some (some (.ref f))
 fn:yr K (.ref f)=true
 kp:mR K (.ref C)=true
theorem zK{ae:b7}{σ:St}{H:Hp}{s:Shared}{Q:VK}{us:B2}{vs:List V}(M:Mk X.K C f)(F:bH X.prog X.w X.K X.mg X.base CX k f fd ps sp)(hr:aX (k+1) X.A)(hb:Binds X.K fd ps ds)(hd:Vals fE ds)
  (hx:Passes CX X E) (I:Inv X ae σ H s) (r:Vals vs us)
  (h:∀x dx,H x=none->H dx=none->dx≠x->sp (.ref x::(vs++fE)) (upd (upd H dx (.own x)) x (.ins C dx [])) (λv H2=>v=.non/\Q (.ref x) H2) E) :
  wpAny (model X.prog X.w) X.A (call (.ref C) us) (EP X ae σ Q) X.xe s:=by
 have hq:=h (s.heap.objs.size+1) s.heap.objs.size (I.aV.fresh (yN _)) (I.aV.fresh (cC _)) (cL (sD _));have I2:=Inv.made (C:=C) I;have r2:Vals (V.ref (s.heap.objs.size+1)::(vs++fE)) (Value.ref (s.heap.objs.size+1)::(us++ds)):=.cons rfl (r.append hd);have hl:(Value.ref (s.heap.objs.size+1)::us++ds).length=ps.length:=by
  have e:=r2.length;rw[F.len _ _ _ _ hq]at e;exact e.symm
 refine wpAny_call (zF (f:=f) I.gK M.makes M.init (beq_iff_eq.mp M.fn) (codeAny_mono (F.run _ X.stack _ _ ⟨Value.ref (s.heap.objs.size+1)::us,[]⟩ (Value.ref (s.heap.objs.size+1)::(us++ds)) _ _ E (hr.make C us [])
  (I2.Jj.make C us []) (hb _ (Value.ref (s.heap.objs.size+1)::us) I2.gK hl) r2 hq) λr s' zL=>?_))
 cases r with
 |error e=>exact hx ae σ _ _ e s' I2 zL
 |ok fl=>
  cases fl with
  |ret u=>
   obtain⟨v,H',I3,rv,ev,q3⟩:=I2.after zL;subst ev;exact⟨rv,⟨V.ref (s.heap.objs.size+1),H',I3,rfl,q3⟩⟩
  |next=>exact False.elim zL
  |brk=>exact False.elim zL
  |cont=>exact False.elim zL
theorem pI(M:Mk X.K C f)(F:bH X.prog X.w X.K X.mg X.base CX k f fd ps sp)(hr:aX (k+1) X.A)(hg:Gl X x)(hm:X.mg x=some (.ref C))(hb:Binds X.K fd ps ds)(hd:Vals fE ds)(hx:Passes CX X E)
  (ha:PA X (e::es) t) (iK:aQ x:=by decide) (he:starEach (e::es) X.env=(false,eval e X.env)::starEach es X.env:=by rfl) (hpl:(backTo pos (starEach es X.env)).any (·.1)=false:=by rfl) :
  PE X (.Call (.Name x p) (e::es) [] pos) (NJ C sp fE E t):=by
 intro ae s σ H Q I h;refine wpAny_Call_Name_kw (fX I hg hm ?_ iK);refine CD (h₀:=X.base) I.ok.mod.kin M.kp (bo (ha pos ae s σ H _ I h) λus s1 ⟨vs,H1,I1,r,q⟩=>⟨I1.gK,?_⟩) he hpl;exact zK M F hr hb hd hx I1 r q
end
section
variable{X:Cx}{CX:yf}{k:Nat}{fd:FuncData}{ps ks:Bi}{sp:Sp}{E:XK}{x m:Str}{aY XS:Pos}{kws:List Keyword}{te ta:TE}{t tk:TA}{nm:Option Str}
variable{g:B2->B2->B2}{gV:List V->List V->List V}
end
structure eV(N P:Bi)(sc:Scope):Prop where
 kind:sc.kind=.function
 co:sc.isCoroutine=false
 gen:sc.isGenerator=false
 nd:N.Nodup
 pre:N.take P.length=P
 par:∀x∈P,sc.names.lookup x=some .local\/sc.names.lookup x=some .cell
 nofree:∀y∈sc.names,y.2≠.free
theorem nO{kindOf:Str->Option NameKind}{x:Str}:∀{binds:List (Str×Value)}{m:Str->D1},(∀v,(x,v)∉binds)->bindL kindOf binds m x=m x
 |[],_,_=>rfl
 |(n,v)::r,m,h=>by
  unfold bindL;rw[nO λw hw=>h w (dm _ hw)];split
  ·have:x≠n:=by rintro rfl;exact h v dj
   simp[this]
  ·rfl
theorem nP{kindOf:Str->Option NameKind}{x:Str}:∀{binds:List (Str×Value)}{m:Str->D1},(∀v,(x,v)∉binds)->bindC kindOf binds m x=m x
 |[],_,_=>rfl
 |(n,v)::r,m,h=>by
  unfold bindC;rw[nP λw hw=>h w (dm _ hw)];split
  ·rfl
  ·have:x≠n:=by rintro rfl;exact h v dj
   simp[this]
theorem nQ{kindOf:Str->Option NameKind}{x:Str}{v:Value}:∀{P:Bi}{vs:B2}{i:Nat}{m:Str->D1},P.Nodup->P[i]?=some x->vs[i]?=some v->kindOf x=some .local ->
  bindL kindOf (P.zip vs) m x=some v
 |[],_,_,_,_,h,_,_=>by simp at h
 |_::_,[],_,_,_,_,h,_=>by simp at h
 |p::P,w::vs,0,m,nd,h1,h2,hk=>by
  simp at h1 h2;subst h1;subst h2;show bindL kindOf ((p,w)::P.zip vs) m p=_;unfold bindL;rw[nO λv hv=>(km.mp nd).1 (yW hv).1,if_pos hk];simp
 |p::P,w::vs,i+1,m,nd,h1,h2,hk=>by
  show bindL kindOf ((p,w)::P.zip vs) m x=_;unfold bindL;exact nQ (i:=i) (km.mp nd).2 (by simpa using h1) (by simpa using h2) hk
theorem nR{kindOf:Str->Option NameKind}{x:Str}{v:Value}:∀{P:Bi}{vs:B2}{i:Nat}{m:Str->D1},P.Nodup->P[i]?=some x->vs[i]?=some v->kindOf x≠some .local ->
  bindC kindOf (P.zip vs) m x=some v
 |[],_,_,_,_,h,_,_=>by simp at h
 |_::_,[],_,_,_,_,h,_=>by simp at h
 |p::P,w::vs,0,m,nd,h1,h2,hk=>by
  simp at h1 h2;subst h1;subst h2;show bindC kindOf ((p,w)::P.zip vs) m p=_;unfold bindC;rw[nP λv hv=>(km.mp nd).1 (yW hv).1,if_neg hk];simp
 |p::P,w::vs,i+1,m,nd,h1,h2,hk=>by
  show bindC kindOf ((p,w)::P.zip vs) m x=_;unfold bindC;exact nR (i:=i) (km.mp nd).2 (by simpa using h1) (by simpa using h2) hk
def start(N:Bi)(vs:List V):St:=vs.map some++cj (N.length-vs.length) none
def kr(CX:yf)(P:Program)(w:World)(K:aS)(mg:Str->D1)(base:Heap)(N:Bi)(qual:Str)(scope:Scope)(f:Addr)(cd:Value)(A:Around)(outer:List Env)(s:Shared)(H:Hp)(E:XK):Cx where
 prog:=P
 w:=w
 K:=K
 mg:=mg
 base:=base
 A:=A.deeper (envOfC qual scope s.heap.objs.size f cd)
 N:=N
 s₀:=s
 H₀:=H
 env:=envOfC qual scope s.heap.objs.size f cd
 outer:=outer
 stack:=envOfC qual scope s.heap.objs.size f cd::outer
 ex:=[]
 calm:=true
 fn:=λ_=>true
 pn:=[]
 xe:=λe s'=>wpAny (model P w) (A.deeper (envOfC qual scope s.heap.objs.size f cd)) (leaving (envOfC qual scope s.heap.objs.size f cd) e) (λ_ wU=>CX outer H s E e wU) (λe' wU=>CX outer H s E e' wU) s'
theorem qC{sc:Scope}{n:Nat}{x:Str}(h:sc.names.lookup x=some .cell):∃c,(cellsFrom n sc.names []).lookup x=some c:=by
 have q:=Gg sc.names n [] (.inl h);exact yF.mp q
theorem wV{CX:yf}{P:Program}{w:World}{K:aS}{mg:Str->D1}{base:Heap}{N ps:Bi}{qual:Str}{scope:Scope}{f:Addr}{cd:Value}{A:Around}{outer:List Env}{s s1:Shared}{H:Hp}{E:XK}{us:B2}{vs:List V}
  (S:eV N ps scope) (hd:A.handled=none) (e0:sW P w K mg base A outer s H) (hl:vs.length=ps.length) (r:Vals vs us)
  (x:InCallC s s.heap.objs.size (bindL (envOfC qual scope s.heap.objs.size f cd).kindOf (ps.zip us) λ_=>none) (cellsFrom (s.heap.objs.size+1) scope.names []) (bindC (envOfC qual scope s.heap.objs.size f cd).kindOf (ps.zip us) λ_=>none) s1) :
  Inv (kr CX P w K mg base N qual scope f cd A outer s H E) [] (start N vs) H s1:=by
 have hpl:ps.length<=N.length:=by have:=congrArg List.length S.pre;rw[yX]at this;omega
 obtain⟨h1,tk,rfl,hk⟩:=x.done;have NK:∀b:Addr,b∉(kr CX P w K mg base N qual scope f cd A outer s H E).ex:=λb z=>absurd (show b∈([]:BM)from z) (by simp)
 refine⟨⟨e0.mod,S.kind,rfl,rfl,cC _,λy z c h1 h2=>?_,λy hy=>?_,λy c _ h=>?_,λ_=>hd,Around.frames_deeper e0.frames,.inr ⟨rfl,rfl⟩,λb z=>absurd z (NK b),e0.bs,e0.bsz,λb _ _=>NK b,λb z=>absurd z (NK b),e0.i9,e0.frf⟩,
  rfl,e0.bare,Un.kept hk,⟨_,x.toInCall.ns,λi y v h1 h2 h3=>?_⟩,λy c h=>⟨_,x.cell y c h⟩,e0.aV.fresh (cC _),λy c h=>?_,λp hp=>absurd (show p∈([]:b7)from hp) (by simp),e0.aV.kept hk,?_⟩
 ·exact name_of_addr x.apart (PySem.mem_of_lookup h1) (PySem.mem_of_lookup h2)
 ·have hy:scope.names.lookup y=some .cell\/scope.names.lookup y=some .free:=hy
  rcases hy with hy|hy
  ·exact qC hy
  ·exact absurd rfl (S.nofree _ (PySem.mem_of_lookup hy))
 ·exact yM (x.above y c (PySem.mem_of_lookup h))
 ·have hi:i<vs.length:=by
   unfold start at h2;by_cases hi:i<vs.length
   ·exact hi
   ·rw[fj (by simpa using hi)]at h2
    rw[yQ]at h2;split at h2<;>cases h2
  have ha:vs[i]?=some v:=by
   unfold start at h2;rw[gI (by simpa using hi),fk]at h2
   cases e:vs[i]? with
   |none=>rw[e]at h2;cases h2
   |some a=>rw[e]at h2;cases h2;rfl
  obtain⟨u,hu,rv⟩:=r.get ha;have hp:ps[i]?=some y:=by
   rw[<- S.pre,List.getElem?_take_of_lt (by omega)];exact h1
  have V1:ps.Nodup:=by rw[<- S.pre];exact S.nd.sublist (List.take_sublist _ _)
  refine⟨u,rv,?_⟩;rcases S.par y (ir hp)with k|k
  ·exact .inl ⟨k,nQ V1 hp hu k⟩
  ·obtain⟨c,e⟩:=qC (n:=s.heap.objs.size+1) k
   refine .inr ⟨.inl k,c,e,?_⟩;have q:=x.cell y c e;rw[nR V1 hp hu (by show scope.names.lookup y≠_;rw[k];decide)]at q
   exact q
 ·exact e0.aV.fresh (yM (x.above y c (PySem.mem_of_lookup h)))
 ·unfold start
  show _=N.length;rw[gH,dB,wz];omega
theorem G9{CX:yf}{P:Program}{w:World}{K:aS}{mg:Str->D1}{base:Heap}{k:Nat}{f:Addr}{name qual:Str}{params:Arguments}{body:DD}{scope:Scope}{dV kV doc pm gC ct oc:Value}{an od:Option Addr}
  {yh:Array D1} {N ps:Bi} {sp:Sp} (lk:K.lookup f=some ⟨oc,od,.func (wy name qual params body scope dV kV doc pm an gC ct),yh⟩) (eO:yC K gC qual=true) (S:eV N ps scope)
  (len:∀vs H Q E,sp vs H Q E->vs.length=ps.length)
  (zM:∀(A:Around)(outer:List Env)(s:Shared)(H:Hp)(vs:List V)(Q:VK)(E:XK),aX k (A.deeper (envOfC qual scope s.heap.objs.size f gC))->sp vs H Q E ->
   ∃t,fm (kr CX P w K mg base N qual scope f gC A outer s H E) body t/\t {nx:=λ_ H'=>Q .non H',rt:=Q} (start N vs) H) :
  bH P w K mg base CX (k+1) f (wy name qual params body scope dV kV doc pm an gC ct) ps sp:=by
 refine⟨len,λA outer s H args us vs Q E hr e0 hb r MD=>?_⟩;have hl:=len _ _ _ _ MD;have KX:K.In s.heap:=e0.mod.kin.keeps λb o e=>(e0.bs b o e).1;have lim:s.heap.NoLimit:=e0.mod.nolimit.keeps λb o e=>(e0.bs b o e).1;have NL:∀y∈ps.zip us,scope.names.lookup y.1=some .local\/(scope.names.lookup y.1=some .cell/\((cellsFrom (s.heap.objs.size+1) scope.names []).lookup y.1).isSome=true):=λ⟨n,v⟩ hy=>by
  rcases S.par n (yW hy).1 with q|q
  ·exact .inl q
  ·exact .inr ⟨q,Gg _ _ _ (.inl q)⟩
 refine codeAny_call_function hr.depth (KX _ _ lk) rfl S.co S.gen rfl (PySem.W.codeRec_of KX eO) (hb _ _ _ _ ?_);refine wpAny_newFunctionEnv_cells S.kind NL λenv he s1 x=>?_;subst he;refine⟨lim.keeps x.toInCall.keep,codeAny_func ?_⟩;obtain⟨t,ht,hq⟩:=zM A outer s H vs Q E (hr.deeper _) MD;have I:Inv (kr CX P w K mg base N qual scope f gC A outer s H E) [] (start N vs) H s1:=wV S hr.hd e0 hl r x;refine wpAny_mono (ht [] s1 (start N vs) H _ I hq) (λfl s' hs=>?_) λe s' hs=>hs;have fin:∀{σ':St}{H':Hp}{v:V}{u:Value},Inv (kr CX P w K mg base N qual scope f gC A outer s H E) [] σ' H' s'->RelV v u->Q v H'->CE outer P w H s Q u s':=
  λ{σ' H' v u} J rv q=>⟨v,H',J.os,J.bare,J.base,J.aV,rv,q⟩
 cases fl with
 |ret u=>
  obtain⟨v,σ',H',J,rv,q⟩:=hs;exact fin J rv q
 |next=>
  obtain⟨σ',H',J,q⟩:=hs;exact fin (v:=V.non) (u:=Value.none) J rfl q
 |brk=>
  obtain⟨_,_,_,q⟩:=hs;exact False.elim q
 |cont=>
  obtain⟨_,_,_,q⟩:=hs;exact False.elim q
section
variable{X:Cx}{x:Str}{t:TA}{id T:String}{r:List V->Hp->VK->Prop}
def SM(r:List V->Hp->VK->Prop)(t:TA):TE:=λσ H Q=>t σ H λvs H1=>r vs H1 Q
theorem cW(hc:cQ X (.builtin id) r)(hg:Gl X x)(hm:X.mg x=none)(hv:bootBuiltins x=some (.builtin id))(ha:PA X (e::es) t)(hn:x ≠ "__name__" := by decide)(iK:aQ x:=by decide)
  (he:starEach (e::es) X.env=(false,eval e X.env)::starEach es X.env:=by rfl) (hpl:(backTo pos (starEach es X.env)).any (·.1)=false:=by rfl):PE X (.Call (.Name x p) (e::es) [] pos) (SM r t):=by
 intro ae s σ H Q I h;refine wpAny_Call_Name_kw (dI I hg hm hv ?_ hn iK);exact GR (bo (ha pos ae s σ H _ I h) λus s1 ⟨vs,H1,I1,r1,q1⟩=>hc ae s1 σ H1 vs us Q I1 r1 q1) he hpl
theorem du(hc:cQ X (.type T) r)(hg:Gl X x)(hm:X.mg x=none)(hv:bootBuiltins x=some (.type T))(ha:PA X (e::es) t)(hn:x ≠ "__name__" := by decide)(iK:aQ x:=by decide)
  (he:starEach (e::es) X.env=(false,eval e X.env)::starEach es X.env:=by rfl) (hpl:(backTo pos (starEach es X.env)).any (·.1)=false:=by rfl):PE X (.Call (.Name x p) (e::es) [] pos) (SM r t):=by
 intro ae s σ H Q I h;refine wpAny_Call_Name_kw (dI I hg hm hv ?_ hn iK);exact sI (bo (ha pos ae s σ H _ I h) λus s1 ⟨vs,H1,I1,r1,q1⟩=>hc ae s1 σ H1 vs us Q I1 r1 q1) he hpl
end
end L2
namespace HT
open PySem PyProof.Rows
section
open PySem.SeqAt
open PySem.AutoSeq1 (wpAny_loadPart')
open PySem.MeetsSeq PySem.MeetsSeq2 PySem.MeetsSeq3
end
section
variable{prog:Program}{w:World}{A:Around}{E:Value->Shared->Prop}{s:Shared}
def gP(n d:Nat):D2->Nat
 |none=>d
 |some v=>if v<0 then(v+(n:Int)).toNat else min v.toNat n
end
end HT
namespace L2
open PySem PySem.Spec PyProof.Rows
abbrev TO:=St->Hp->(D2->Hp->Prop)->Prop
def PO(X:Cx)(e:Option Expr)(t:TO):Prop:=
 ∀(ae:b7)(s:Shared)(σ:St)(H:Hp)(Q:D2->Hp->Prop),Inv X ae σ H s->t σ H Q ->
  wpAny (model X.prog X.w) X.A (evalPart e X.env) (λu s'=>∃o H',Inv X ae σ H' s'/\IsPart u o/\Q o H') X.xe s
def Dk:TO:=λ_ H Q=>Q none H
def NN(t:TE):TO:=λσ H Q=>t σ H λx H1=>∃i,x=.int i/\Q (some i) H1
variable{X:Cx}
section
variable{e:Expr}{te:TE}{lo hi:Option Expr}{tl th:TO}{pos p2:Pos}
theorem Dl:PO X none Dk:=by
 intro ae s σ H Q I h;rw[evalPart_none];exact wpAny_pure ⟨none,H,I,.none,h⟩
theorem Dm(h:PE X e te):PO X (some e) (NN te):=by
 intro ae s σ H Q I hw;rw[evalPart_some];refine bo (h ae s σ H _ I hw) λu s1 zz=>?_;obtain⟨x,H1,I1,r1,q1⟩:=zz;obtain⟨i,rfl,q⟩:=q1;obtain⟨t,rfl⟩:=r1;exact⟨some i,H1,I1,.int i t,q⟩
def G_(X:Cx)(r:V->D2->D2->Hp->VK->Prop):Prop:=
 ∀(ae:b7)(s:Shared)(σ:St)(H:Hp)(x:V)(v vl vu:Value)(lo hi:D2)(sl:Addr)(Q:VK),Inv X ae σ H s->RelV x v->s.heap.IsSliceOf sl vl vu .none->IsPart vl lo->IsPart vu hi->r x lo hi H Q ->
  ∃T id,typeLookup (.type T) "__getitem__" = pure (some (.builtin id))/\s.TypeIs v T/\wpAny (model X.prog X.w) X.A (getItem v (.ref sl)) (EP X ae σ Q) X.xe s
theorem G_.or{r r':V->D2->D2->Hp->VK->Prop}(h:G_ X r)(h':G_ X r'):G_ X (λx lo hi H Q=>r x lo hi H Q\/r' x lo hi H Q):=by
 intro ae s σ H x v vl vu lo hi sl Q I rx hs pl pu q;rcases q with q|q
 ·exact h ae s σ H x v vl vu lo hi sl Q I rx hs pl pu q
 ·exact h' ae s σ H x v vl vu lo hi sl Q I rx hs pl pu q
def XT(r:V->D2->D2->Hp->VK->Prop)(te:TE)(tl th:TO):TE:=λσ H Q=>te σ H λx H1=>tl σ H1 λl H2=>th σ H2 λu H3=>r x l u H3 Q
theorem qD{r:V->D2->D2->Hp->VK->Prop}(hr:G_ X r)(he:PE X e te)(hl:PO X lo tl)(hu:PO X hi th):PE X (.Subscript e (.Slice lo hi none p2) pos) (XT r te tl th):=by
 intro ae s σ H Q I h;refine Subscript_ (bo (he ae s σ H _ I h) λv s1 zz=>?_);obtain⟨x,H1,I1,r1,q1⟩:=zz;refine wpAny_Slice (bo (hl ae s1 σ H1 _ I1 q1) λvl s2 ⟨l,H2,I2,pl,q2⟩=>bo (hu ae s2 σ H2 _ I2 q2) λvu s3 zz=>?_);obtain⟨u,H3,I3,pu,q3⟩:=zz;rw[evalPart_none];refine wpAny_pure ?_;have I4:Inv X ae σ H3 {s3 with heap:=s3.heap.push {cls:=.type "slice",data:=.fields #[vl,vu,.none]}}:=I3.kept (t':=s3.toks) λb ob q=>Heap.get?_push_of_some _ q
 obtain⟨T,id,hT,ht,hg⟩:=hr ae {s3 with heap:=s3.heap.push {cls:=.type "slice",data:=.fields #[vl,vu,.none]}} σ H3 x v vl vu l u s3.heap.objs.size Q I4 r1 (Heap.IsSliceOf.new ..) pl pu q3
 show wpAny (model X.prog X.w) X.A (subscriptTail e (.Slice lo hi none p2) v (.ref s3.heap.objs.size)) (EP X ae σ Q) X.xe {s3 with heap:=s3.heap.push {cls:=.type "slice",data:=.fields #[vl,vu,.none]}}
 exact tail_any (ops:=[.ref s3.heap.objs.size,v]) ht hT hg (by with_unfolding_all rfl)
def wW(xs:List V)(lo hi:D2):List V:=(xs.drop (HT.gP xs.length 0 lo)).take (HT.gP xs.length xs.length hi-HT.gP xs.length 0 lo)
theorem qE(xs:List V)(lo hi:D2):(wW xs lo hi).length<=xs.length:=by
 unfold wW;rw[yX,yY];omega
end
def Dp(n:Nat)(i:Int):Option Nat:=if 0<=i then(if i<n then some i.toNat else none)else if -(n:Int)<=i then some (i+n).toNat else none
def zN{α:Type}(xs:List α)(i:Int):Option α:=(Dp xs.length i).bind λj=>xs[j]?
theorem uI{n:Nat}{i:Int}{j:Nat}(h:Dp n i=some j):seqIndex? i n=some j/\j<n/\-(n:Int)<=i/\i<n:=by
 unfold Dp at h;by_cases h0:0<=i
 ·rw[if_pos h0]at h
  by_cases h1:i<n
  ·rw[if_pos h1]at h
   have e:i.toNat=j:=jH.inj h;exact⟨by rw[seqIndex_of h0 h1,e],by omega,by omega,h1⟩
  ·rw[if_neg h1]at h;cases h
 ·rw[if_neg h0]at h
  by_cases h1:-(n:Int)<=i
  ·rw[if_pos h1]at h
   have e:(i+n).toNat=j:=jH.inj h;exact⟨by rw[seqIndex_neg (by omega) h1,e],by omega,h1,by omega⟩
  ·rw[if_neg h1]at h;cases h
theorem pJ{α:Type}{xs:List α}{i:Int}{v:α}(h:zN xs i=some v):∃j,seqIndex? i xs.length=some j/\xs[j]?=some v/\j<xs.length/\-(xs.length:Int)<=i/\i<xs.length:=by
 unfold zN at h;cases e:Dp xs.length i with
 |none=>rw[e]at h;cases h
 |some j=>
  rw[e]at h;obtain⟨h1,h2,h3,h4⟩:=uI e;exact⟨j,h1,h,h2,h3,h4⟩
def ig(b:Expr):Prop:=∀o i,subscripted b false o i=operate [o,i] (getItem o i)
def Dq(X:Cx)(r:R2):Prop:=
 ∀(value slice:Expr)(ae:b7)(s:Shared)(σ:St)(H:Hp)(x y:V)(v u:Value)(Q:VK),Inv X ae σ H s->RelV x v->RelV y u->r x y H Q ->
  subscripted slice false v u=operate [v,u] (getItem v u)->wpAny (model X.prog X.w) X.A (subscriptTail value slice v u) (EP X ae σ Q) X.xe s
def wX(X:Cx)(id:String)(r:V->List V->Hp->VK->Prop):Prop:=
 ∀(ae:b7)(s:Shared)(σ:St)(H:Hp)(x:V)(xs:List V)(v:Value)(us:B2)(Q:VK),Inv X ae σ H s->RelV x v->Vals xs us->r x xs H Q ->
  wpAny (model X.prog X.w) X.A (call (.builtin id) (v::us)) (EP X ae σ Q) X.xe s
section
variable{a b:Expr}{ta tb:TE}{pos:Pos}
theorem Dq.or{r r':R2}(h:Dq X r)(h':Dq X r'):Dq X (λx y H Q=>r x y H Q\/r' x y H Q):=by
 intro value slice ae s σ H x y v u Q I rx ry q hs;rcases q with q|q
 ·exact h value slice ae s σ H x y v u Q I rx ry q hs
 ·exact h' value slice ae s σ H x y v u Q I rx ry q hs
theorem Hb{r:R2}(hr:Dq X r)(ha:PE X a ta)(hb:PE X b tb)(hs:ig b):PE X (.Subscript a b pos) (zA r ta tb):=by
 intro ae s σ H Q I h;exact Subscript_ (IZ ha hb I h λv u s2 x y H2 I2 rx ry q=>hr a b ae s2 σ H2 x y v u Q I2 rx ry q (hs _ _))
def NO(K:aS):R2:=λx y H Q=>∃p xs i v,x=.ref p/\y=.int i/\bW K H p xs/\zN xs i=some v/\Q v H
def NP(K:aS):R2:=λx y H Q=>∃p xs i v,x=.ref p/\y=.int i/\jZ K H p xs/\zN xs i=some v/\Q v H
def NQ:R2:=λx y H Q=>∃z i c,x=.str z/\y=.int i/\z.length<=sizeLine/\zN z.cps.toList i=some c/\Q (.str ⟨#[c]⟩) H
theorem uJ:Dq X (NO X.K):=by
 intro value slice ae s σ H x y v u Q I rx ry h hs;obtain⟨p,xs,i,z,rfl,rfl,hq,he,q⟩:=h;cases rx;obtain⟨t,rfl⟩:=ry;obtain⟨av,r,pl,hz⟩:=I.list hq;obtain⟨j,h1,h2,h3,h4,h5⟩:=pJ he;obtain⟨w,ew,qF⟩:=r.get h2;have hl:=r.length;have hn:=jJ;have fin:EP X ae σ Q w s:=⟨z,H,I,qF,q⟩;by_cases h0:0<=i
 ·have hj:i.toNat=j:=by
   rw[seqIndex_of h0 h5]at h1;exact jH.inj h1
  exact item_listR pl.isList h0 (by omega) (by rw[hj];simpa using ew) fin hs
 ·have hj:(i+(av.toArray.size:Int)).toNat=j:=by
   rw[seqIndex_neg (by omega) h4]at h1
   rw[eU,<- hl];exact jH.inj h1
  exact subscriptTail_builtinR (x:=w) pl.isList.typeIs slot_list_getitem.lookup
   (wpAny_getItem_list_neg (Q:=λr s'=>r=w/\EP X ae σ Q r s') pl.isList (by omega) (by rw[eU]<;>omega) (by omega) (by rw[hj];simpa using ew) ⟨rfl,fin⟩) hs
theorem Jk:Dq X (NP X.K):=by
 intro value slice ae s σ H x y v u Q I rx ry h hs;obtain⟨p,xs,i,z,rfl,rfl,hq,he,q⟩:=h;cases rx;obtain⟨t,rfl⟩:=ry;obtain⟨av,r,pl,hz⟩:=I.tuple hq;obtain⟨j,h1,h2,h3,h4,h5⟩:=pJ he;obtain⟨w,ew,qF⟩:=r.get h2;have hl:=r.length;have hn:=jJ;have fin:EP X ae σ Q w s:=⟨z,H,I,qF,q⟩;exact subscriptTail_builtinR (x:=w) pl.typeIs slot_tuple_getitem.lookup
  (getItem_tuple (j:=j) (Q:=λr s'=>r=w/\EP X ae σ Q r s') pl (by omega) (by omega) (by rw[eU,<- hl];exact h1) (by simpa using ew) ⟨rfl,fin⟩) hs
theorem sX:Dq X NQ:=by
 intro value slice ae s σ H x y v u Q I rx ry h hs;obtain⟨z,i,c,rfl,rfl,hz,he,q⟩:=h;obtain⟨t,rfl⟩:=rx;obtain⟨t',rfl⟩:=ry;obtain⟨j,h1,h2,h3,h4,h5⟩:=pJ he;have hl:z.cps.toList.length=z.length:=by simp[Str.length]
 rw[hl]at h1 h4 h5;have hn:=jJ;exact tail_any (typeIs_str s z t) slot_str_getitem.lookup (getItem_str (c:=c) (by
  have e1:decide (i < -(2^63:Int))=false:=decide_eq_false (by omega)
  have e2:decide (i ≥ 2^63)=false:=decide_eq_false (by omega)
  rw[e1,e2,Bool.or_false]) (by rw[h1];simpa using h2) ⟨.str ⟨#[c]⟩,H,I.tok _,⟨_,rfl⟩,q⟩) hs
def V2(K:aS):R2:=λx y H Q=>NO K x y H Q\/NP K x y H Q\/NQ x y H Q
theorem Jl:Dq X (V2 X.K):=uJ.or (Jk.or sX)
theorem sY(av:B2)(n j:Nat)(u:Value):Obj.mapSeq (·.setIfInBounds j u) {cls:=.type "list",data:=.seq av.toArray n}={cls:=.type "list",data:=.seq (av.set j u).toArray n}:=by
 simp[Obj.mapSeq]
theorem Inv.lst{ae:b7}{σ:St}{H:Hp}{s:Shared}{p:Addr}{xs:List V}(I:Inv X ae σ H s)(h:H p=some (.lst xs)) :
  ∃(av:B2)(n:Nat),Vals xs av/\s.heap.get? p=some {cls:=.type "list",data:=.seq av.toArray n}/\xs.length<=sizeLine:=by
 obtain⟨z,av,n,r,e⟩:=I.aV p _ h;exact⟨av,n,r,e,z⟩
theorem Inv.Jm{ae:b7}{σ:St}{H:Hp}{s:Shared}{p:Addr}{xs ys:List V}{av its':B2}{n n':Nat}{f:Obj->Obj}(I:Inv X ae σ H s)(h:H p=some (.lst xs))
  (ho:s.heap.get? p=some {cls:=.type "list",data:=.seq av.toArray n}) (hf:f {cls:=.type "list",data:=.seq av.toArray n}={cls:=.type "list",data:=.seq its'.toArray n'}) (r:Vals ys its') (hz:ys.length<=sizeLine) (t:Nat) :
  Inv X ae σ (upd H p (.lst ys)) {s with heap:=s.heap.update p f,toks:=t}:=by
 have e:(s.heap.update p f).get? p=some {cls:=.type "list",data:=.seq its'.toArray n'}:=by
  rw[Heap.get?_update_self f ho (by rw[hf]<;>rfl),hf]
 refine I.write (x:=p) (e:=p) (by rw[h];trivial) (.inl rfl) (λb u hb q=>(Heap.get?_update_other _ _ (Ne.symm hb)).trans q) ⟨_,e⟩ ?_
 exact⟨hz,its',n',r,e⟩
def NR:V->V->V->Hp->(Hp->Prop)->Prop:=λo i v H Q=>∃p xs k j,o=.ref p/\i=.int k/\H p=some (.lst xs)/\Dp xs.length k=some j/\Q (upd H p (.lst (xs.set j v)))
theorem set_list:Nj X NR:=by
 intro ae s σ H o i v ov iv u Q I ro ri rv h;obtain⟨p,xs,k,j,rfl,rfl,hp,hj,q⟩:=h;cases ro;obtain⟨t,rfl⟩:=ri;obtain⟨av,n,r,ho,hz⟩:=I.lst hp;obtain⟨h1,h2,h3,h4⟩:=uI hj;have hl:=r.length;have hn:=jJ;have I':Inv X ae σ (upd H p (.lst (xs.set j v))) {s with heap:=s.heap.update p (Obj.mapSeq (·.setIfInBounds j u))}:=
  I.Jm hp ho (sY av n j u) (r.set rv j) (by rw[dH];exact hz) s.toks
 by_cases h0:0<=k
 ·have hk:k.toNat=j:=by
   rw[seqIndex_of h0 h4]at h1;exact jH.inj h1
  exact PySem.W.ki_setAt ho h0 (by omega) (by rw[eU,<- hl];exact h4) (by rw[hk];exact⟨_,I',q⟩)
 ·have hk:(k+(av.toArray.size:Int)).toNat=j:=by
   rw[seqIndex_neg (by omega) h3]at h1
   rw[eU,<- hl];exact jH.inj h1
  exact PySem.W.ki_setBack ho (by omega) (by rw[eU,<- hl];exact h3) (by omega) (by rw[hk];exact⟨_,I',q⟩)
theorem pK(lo hi:D2)(n:Nat):(sliceBounds lo hi none n).1=((HT.gP n 0 lo:Nat):Int)/\(sliceBounds lo hi none n).2.1=((HT.gP n n hi:Nat):Int)/\(sliceBounds lo hi none n).2.2=1:=by
 refine⟨?_,?_,rfl⟩
 ·cases lo with
  |none=>simp[sliceBounds,HT.gP]
  |some i=>
   simp only[sliceBounds,HT.gP,Gj,show(1:Int) > 0 by decide,if_true]
   by_cases h:i<0
   ·simp only[h,if_true]<;>omega
   ·simp only[h,if_false]<;>omega
 ·cases hi with
  |none=>simp[sliceBounds,HT.gP]
  |some i=>
   simp only[sliceBounds,HT.gP,Gj,show(1:Int) > 0 by decide,if_true]
   by_cases h:i<0
   ·simp only[h,if_true]<;>omega
   ·simp only[h,if_false]<;>omega
theorem m_(av:B2)(lo hi:D2):slicePick av.toArray lo hi none=((av.drop (HT.gP av.length 0 lo)).take (HT.gP av.length av.length hi-HT.gP av.length 0 lo)).toArray:=by
 obtain⟨h1,h2,h3⟩:=pK lo hi av.toArray.size;unfold slicePick;rw[h1,h2,h3];simp only[sliceRange_one,pick_run,eU]<;>rfl
def NS(K:aS):V->D2->D2->Hp->VK->Prop:=λx lo hi H Q=>∃a xs,x=.ref a/\bW K H a xs/\∀p,H p=none->Q (.ref p) (upd H p (.lst (wW xs lo hi)))
theorem Dr:G_ X (NS X.K):=by
 intro ae s σ H x v vl vu lo hi sl Q I rx hs pl pu h;obtain⟨a,xs,rfl,hx,q⟩:=h;cases rx;obtain⟨av,r,ht,hz⟩:=I.list hx;have cM:=r.length;refine⟨"list",_,slot_list_getitem.lookup,ht.isList.typeIs,?_⟩;refine wpAny_getItem_list_slice ht.isList hs pl pu .none (by simp) ?_ (by rw[eU]<;>omega)
 rw[m_,<- cM];refine⟨.ref s.heap.objs.size,_,I.laid (t':=s.toks) (o:=.lst (wW xs lo hi)) (λb ob q=>Heap.get?_push_of_some _ q) (cC _) ?_,rfl,q _ (I.aV.fresh (cC _))⟩;exact⟨il (qE xs lo hi) hz,_,0,(r.drop (HT.gP xs.length 0 lo)).take (HT.gP xs.length xs.length hi-HT.gP xs.length 0 lo),Heap.get?_push_size _ rfl⟩
def df:V->Bool
 |.non=>true
 |.bl _=>true
 |.int _=>true
 |.str _=>true
 |_=>false
def zO:V->V->Bool
 |.non,.non=>true
 |.bl a,.bl b=>a == b
 |.bl a,.int b=>(if a then 1 else 0) == b
 |.int a,.bl b=>a == (if b then 1 else 0)
 |.int a,.int b=>a == b
 |.str a,.str b=>a == b
 |_,_=>false
theorem sZ{A:Around}{s:Shared}{y x:V}{u v:Value}(ry:RelV y u)(rx:RelV x v)(fy:df y=true)(fx:df x=true):SeqAt.EqAt A s u v (zO y x):=by
 cases y with
 |non=>
  cases ry;cases x with
  |non=>cases rx;exact SeqAt.EqAt.same _
  |bl b=>cases rx;exact SeqAt.EqAt.none_bool b
  |int b=>obtain⟨t,rfl⟩:=rx;exact SeqAt.EqAt.none_int b t
  |str b=>obtain⟨t,rfl⟩:=rx;exact SeqAt.EqAt.none_str b t
  |_=>exact absurd (show false=true from fx) fF
 |bl a=>
  cases ry;cases x with
  |non=>cases rx;exact SeqAt.EqAt.bool_none a
  |bl b=>cases rx;exact SeqAt.EqAt.bool_bool a b
  |int b=>obtain⟨t,rfl⟩:=rx;exact SeqAt.EqAt.bool_int a b t
  |str b=>obtain⟨t,rfl⟩:=rx;exact SeqAt.EqAt.bool_str a b t
  |_=>exact absurd (show false=true from fx) fF
 |int a=>
  obtain⟨t',rfl⟩:=ry;cases x with
  |non=>cases rx;exact SeqAt.EqAt.int_none a t'
  |bl b=>cases rx;exact SeqAt.EqAt.int_bool a t' b
  |int b=>obtain⟨t,rfl⟩:=rx;exact SeqAt.EqAt.int_int a t' b t
  |str b=>obtain⟨t,rfl⟩:=rx;exact SeqAt.EqAt.int_str a t' b t
  |_=>exact absurd (show false=true from fx) fF
 |str a=>
  obtain⟨t',rfl⟩:=ry;cases x with
  |non=>cases rx;exact SeqAt.EqAt.str_none a t'
  |bl b=>cases rx;exact SeqAt.EqAt.str_bool a t' b
  |int b=>obtain⟨t,rfl⟩:=rx;exact SeqAt.EqAt.str_int a t' b t
  |str b=>obtain⟨t,rfl⟩:=rx;exact SeqAt.EqAt.str_str a t' b t
  |_=>exact absurd (show false=true from fx) fF
 |_=>exact absurd (show false=true from fy) fF
def s_(x:V)(u:Value):Bool:=match u with
 |.none=>zO .non x
 |.bool b=>zO (.bl b) x
 |.int i _=>zO (.int i) x
 |.str z _=>zO (.str z) x
 |_=>false
theorem zP{x y:V}{u:Value}(r:RelV y u)(f:df y=true):s_ x u=zO y x:=by
 cases y with
 |non=>cases r;rfl
 |bl b=>cases r;rfl
 |int i=>obtain⟨t,rfl⟩:=r;rfl
 |str z=>obtain⟨t,rfl⟩:=r;rfl
 |_=>exact absurd (show false=true from f) fF
theorem jf{x:V}:∀{xs:List V}{us:B2},Vals xs us->xs.all df=true->us.any (s_ x)=xs.any λy=>zO y x
 |_,_,.nil,_=>rfl
 |y::xs,u::us,.cons r t,f=>by
  rw[c_,bL]at f;rw[mT,mT,zP r f.1,jf t f.2]
theorem gQ{A:Around}{s:Shared}{x:V}{v:Value}(rx:RelV x v)(fx:df x=true):∀{xs:List V}{us:B2},Vals xs us->xs.all df=true->∀u∈us,SeqAt.EqAt A s u v (s_ x u)
 |_,_,.nil,_=>λu hu=>by cases hu
 |y::xs,u::us,.cons r t,f=>λu' hu=>by
  rw[c_,bL]at f;rcases cH.mp hu with rfl|hu
  ·rw[zP r f.1];exact sZ r rx f.1 fx
  ·exact gQ rx fx t f.2 u' hu
def SN(x:V)(xs:List V):Bool:=xs.any λy=>zO y x
def RK(K:aS)(neg:Bool):R2:=λx y H Q=>∃p xs,y=.ref p/\(bW K H p xs\/jZ K H p xs)/\df x=true/\xs.all df=true/\Q (.bl (if neg then !SN x xs else SN x xs)) H
theorem wY:eQ X (compareOp .In) (RK X.K false):=by
 intro ae s σ H x y v u Q I rx ry h;obtain⟨p,xs,rfl,hq,fx,fs,q⟩:=h;cases ry;rcases hq with hq|hq
 ·obtain⟨av,r,pl,hz⟩:=I.list hq
  refine SeqAt.in_listAt (s_ x) pl.isList (λw hw=>gQ rx fx r fs w (by simpa using hw)) ⟨.bl _,H,I,rfl,?_⟩
  rw[show av.toArray.any (s_ x)=av.any (s_ x) by simp,jf r fs]
  exact q
 ·obtain⟨av,r,pl,hz⟩:=I.tuple hq
  refine SeqAt.in_tupleAt (s_ x) pl (λw hw=>gQ rx fx r fs w (by simpa using hw)) ⟨.bl _,H,I,rfl,?_⟩
  rw[show av.toArray.any (s_ x)=av.any (s_ x) by simp,jf r fs]
  exact q
theorem pL:eQ X (compareOp .NotIn) (RK X.K true):=by
 intro ae s σ H x y v u Q I rx ry h;obtain⟨p,xs,rfl,hq,fx,fs,q⟩:=h;cases ry;rcases hq with hq|hq
 ·obtain⟨av,r,pl,hz⟩:=I.list hq
  refine SeqAt.notIn_listAt (s_ x) pl.isList (λw hw=>gQ rx fx r fs w (by simpa using hw)) ⟨.bl _,H,I,rfl,?_⟩
  rw[show av.toArray.any (s_ x)=av.any (s_ x) by simp,jf r fs]
  exact q
 ·obtain⟨av,r,pl,hz⟩:=I.tuple hq
  refine SeqAt.notIn_tupleAt (s_ x) pl (λw hw=>gQ rx fx r fs w (by simpa using hw)) ⟨.bl _,H,I,rfl,?_⟩
  rw[show av.toArray.any (s_ x)=av.any (s_ x) by simp,jf r fs]
  exact q
theorem dP:cQ X (.type "list") (λxs H Q=>∃p ys,xs=[.ref p]/\(bW X.K H p ys\/jZ X.K H p ys)/\∀l,H l=none->Q (.ref l) (upd H l (.lst ys))):=by
 intro ae s σ H xs us Q I r h;obtain⟨p,ys,rfl,hq,q⟩:=h;obtain⟨u,rfl,rx⟩:=vals1 r;cases rx;have fin:∀(av:B2),Vals ys av->ys.length<=sizeLine->∀(h':Heap)(c':Nat),(∀b o',s.heap.get? b=some o'->h'.get? b=some o') ->
   h'.get? s.heap.objs.size=some {cls:=.type "list",dict:=none,data:=.seq av.toArray c',slots:=#[]}->EP X ae σ Q (.ref s.heap.objs.size) {s with heap:=h'}:=λav r' hz h' c' kp e=>
  ⟨.ref s.heap.objs.size,_,I.laid (t':=s.toks) kp (cC _) (show bA X.prog X.w _ h' _ (.lst ys)from⟨hz,av,c',r',e⟩),rfl,q _ (I.aV.fresh (cC _))⟩
 rcases hq with hq|hq
 ·obtain⟨av,r',pl,hz⟩:=I.list hq
  have cM:=r'.length;obtain⟨o,ho,hc,n,hd⟩:=pl.isList;exact call_list_seq p (.inl rfl) ho hc hd (λh' c' kp e=>fin av r' hz h' c' kp e) (by simp only[eU]<;>omega)
 ·obtain⟨av,r',pl,hz⟩:=I.tuple hq
  have cM:=r'.length;obtain⟨o,ho,hc,n,hd⟩:=pl;exact call_list_seq p (.inr rfl) ho hc hd (λh' c' kp e=>fin av r' hz h' c' kp e) (by simp only[eU]<;>omega)
def V3(K:aS)(T:String)(x:V)(H:Hp):Prop:=match x with
 |.str _=>T = "str"
 |.int _=>T = "int"
 |.ref p=>(T = "list" /\ ∃xs,bW K H p xs)\/(T = "tuple" /\ ∃o,K.lookup p=some o/\o.cls=.type "tuple" /\ o.dict=none) \/
   (T = "dict" /\ ((∃aw,H p=some (.dK aw))\/∃aw,H p=some (.dT aw)))\/(T = "set" /\ ∃S n,H p=some (.set S n))
 |_=>False
theorem Jo{ae:b7}{σ:St}{H:Hp}{s:Shared}{T:String}{x:V}{v:Value}(I:Inv X ae σ H s)(r:RelV x v)(ty:V3 X.K T x H) :
  s.TypeIs v T/\∀a,v=.ref a->∃ob,s.heap.get? a=some ob/\ob.dict=none:=by
 cases x with
 |str z=>
  obtain⟨t,rfl⟩:=r;cases(show T = "str"from ty);exact⟨typeIs_str s z t,λ_ e=>nomatch e⟩
 |int i=>
  obtain⟨t,rfl⟩:=r;cases(show T = "int"from ty);exact⟨typeIs_int s i t,λ_ e=>nomatch e⟩
 |ref p=>
  cases r;rcases ty with⟨rfl,xs,hq⟩|⟨rfl,o,hk,hc,hd⟩|⟨rfl,hk⟩|⟨rfl,S,n,hk⟩
  ·obtain⟨av,_,pl,_⟩:=I.list hq
   refine⟨pl.isList.typeIs,λa e=>?_⟩;cases e;obtain⟨o,n,e,c,hd,_⟩:=pl;exact⟨o,e,hd⟩
  ·refine⟨⟨o,I.gK p o hk,hc⟩,λa e=>?_⟩
   cases e;exact⟨o,I.gK _ o hk,hd⟩
  ·have z:∃o,s.heap.get? p=some o/\o.ExactDict:=by
    rcases hk with⟨aw,hk⟩|⟨aw,hk⟩
    ·obtain⟨_,_,_,_,o,_,_,e,ex,_⟩:=I.aV p _ hk
     exact⟨o,e,ex⟩
    ·obtain⟨_,_,_,_,o,_,_,e,ex,_⟩:=I.aV p _ hk
     exact⟨o,e,ex⟩
   obtain⟨o,e,ex⟩:=z;refine⟨⟨o,e,ex.1⟩,λa e2=>?_⟩;cases e2;exact⟨o,e,ex.2.1⟩
  ·obtain⟨o,_,_,_,e,ex,_⟩:=I.aV p _ hk
   refine⟨⟨o,e,ex.1⟩,λa e2=>?_⟩;cases e2;exact⟨o,e,ex.2.1⟩
 |_=>exact False.elim ty
def V4(K:aS)(T:String)(r:V->List V->Hp->VK->Prop)(to:TE)(t:TA):TE:=λσ H Q=>to σ H λx H1=>V3 K T x H1/\t σ H1 λxs H2=>r x xs H2 Q
variable{o e:Expr}{es:Bz}{to:TE}{t:TA}{name:Str}{aY aW:Pos}{T id:String}{r:V->List V->Hp->VK->Prop}
theorem uK(pa:PlainAttrs T)(slot:Slot T name id)(NT:typeOf (.builtin id)=pure (.type "method_descriptor"))(hm:wX X id r)(ho:PE X o to)(ha:PA X (e::es) t)
  (zQ:attributeBase o name X.env (eval o X.env)=eval o X.env:=by rfl)
  (SO:((backTo aW (starEach (e::es) X.env)).all (λx=>!x.1)&&(backToKw aW (keywordEach [] X.env)).all (λx=>x.1.isSome)
   && decide ((e::es).length+([]:List Keyword).length+(if([]:List Keyword).isEmpty then 0 else 1)<30))=true:=by rfl)
  (fH:(aY.endLine == aW.line)=true:=by rfl) (hs:starEach (e::es) X.env=(false,eval e X.env)::starEach es X.env:=by rfl) (Jp:(backTo aW (starEach es X.env)).any (·.1)=false:=by rfl) :
  PE X (.Call (.Attribute o name aY) (e::es) [] aW) (V4 X.K T r to t):=by
 intro ae s σ H Q I h;refine wpAny_Call_method_late zQ SO fH rfl (bo (ho ae s σ H _ I h) λv s1 zz=>?_);obtain⟨x,H1,I1,r1,ty,q1⟩:=zz;obtain⟨h1,h2⟩:=Jo I1 r1 ty;refine⟨T,id,pa,slot,NT,h1,h2,?_⟩;have hA:=ha aW ae s1 σ H1 _ I1 q1;rw[hs]at hA ⊢;refine Calls.callWith_builtin (by show(false ||(backTo aW (starEach es X.env)).any (·.1))=false;rw[Jp]<;>rfl) (Calls.evalArgs_plain ?_)
 exact bo hA λus s2 ⟨vs,H2,I2,r2,q2⟩=>hm ae s2 σ H2 x vs v us Q I2 r1 r2 q2
end
def V5(X:Cx)(id:String)(r:V->List V->Hp->VK->Prop):Prop:=
 ∀(ae:b7)(s:Shared)(σ:St)(H:Hp)(x:V)(xs:List V)(v:Value)(us:B2)(Q:VK),Inv X ae σ H s->RelV x v->Vals xs us->r x xs H Q ->
  wpAny (model X.prog X.w) X.A (call (.builtin id) (v::us)) (EP X ae σ Q) X.xe s
theorem Vals.one:∀{x:V}{us:B2},Vals [x] us->∃u,us=[u]/\RelV x u
 |_,_,.cons r .nil=>⟨_,rfl,r⟩
theorem Vals.two:∀{x y:V}{us:B2},Vals [x,y] us->∃u v,us=[u,v]/\RelV x u/\RelV y v
 |_,_,_,.cons r (.cons q .nil)=>⟨_,_,rfl,r,q⟩
theorem Vals.eraseIdx:∀{xs:List V}{us:B2}(i:Nat),Vals xs us->Vals (xs.eraseIdx i) (us.eraseIdx i)
 |_,_,_,.nil=>.nil
 |_,_,0,.cons _ t=>t
 |_,_,i+1,.cons r t=>.cons r (Vals.eraseIdx i t)
theorem Vals.rep{xs:List V}{us:B2}(h:Vals xs us):∀k:Nat,Vals (cj k xs).flatten (cj k us).flatten
 |0=>.nil
 |k+1=>by
  rw[sF,sF,wA,wA];exact Vals.append h (Vals.rep h k)
theorem nS{α:Type}:∀(l:List α)(i:Nat),(l.eraseIdx i).length<=l.length
 |[],_=>cC _
 |_::_,0=>yN _
 |_::r,i+1=>Nat.succ_le_succ (nS r i)
theorem foldl_rep(av:B2):∀(k:Nat)(eG:B2),
  yZ (λx1 x2=>x1++x2) eG.toArray (cj k av.toArray)=(eG++(cj k av).flatten).toArray
 |0,eG=>by simp
 |k+1,eG=>by
  have e:eG.toArray++av.toArray=(eG++av).toArray:=by simp
  have e2:(eG++av)++(cj k av).flatten=eG++(cj (k+1) av).flatten:=by
   rw[sF,wA,y9]
  rw[<- e2,<- foldl_rep av k (eG++av),<- e,sF,List.foldl_cons]
section
variable{ae:b7}{σ:St}{H:Hp}{s:Shared}{l b:Addr}{xs ys zs:List V}
theorem Inv.NU{av its':B2}{n:Nat}{f:Array Value->Array Value}{t':Nat}(I:Inv X ae σ H s)(hH:H l=some (.lst xs))
  (e:s.heap.get? l=some {cls:=.type "list",data:=.seq av.toArray n}) (hf:f av.toArray=its'.toArray) (hv:Vals ys its') (hz:ys.length<=sizeLine) :
  Inv X ae σ (upd H l (.lst ys)) {s with heap:=s.heap.update l (Obj.mapSeq f),toks:=t'}:=by
 have q:=PySem.IsL.update e f;rw[hf]at q;refine I.write (x:=l) (e:=l) (by rw[hH];exact trivial) (.inl rfl) (λb' u hb hu=>(Heap.get?_update_other s.heap (Obj.mapSeq f) (Ne.symm hb)).trans hu) ⟨_,q⟩ ?_
 exact⟨hz,its',_,hv,q⟩
theorem Inv.wZ{av:B2}{t':Nat}(I:Inv X ae σ H s)(hv:Vals ys av)(hz:ys.length<=sizeLine) :
  Inv X ae σ (upd H s.heap.objs.size (.lst ys)) {s with heap:=s.heap.push {cls:=.type "list",data:=.seq av.toArray},toks:=t'}:=
 I.laid (λ_ _ q=>Heap.get?_push_of_some _ q) (cC _) ⟨hz,av,0,hv,Heap.get?_push_size _ rfl⟩
theorem Inv.fresh(I:Inv X ae σ H s):H s.heap.objs.size=none:=I.aV.fresh (cC _)
theorem Inv.zR(I:Inv X ae σ H s)(hH:H l=some (.lst xs)):xs.length<=sizeLine/\∃(av:B2)(n:Nat),Vals xs av/\xs.length=av.length/\s.heap.get? l=some {cls:=.type "list",data:=.seq av.toArray n}:=by
 obtain⟨z,av,n,r,e⟩:=I.aV l _ hH;exact⟨z,av,n,r,r.length,e⟩
theorem zS{n:Nat}(h:n<=sizeLine):Builtin.List.listTooLong n=false:=by
 unfold Builtin.List.listTooLong;exact decide_eq_false (by omega)
end
section
def Dt:V->List V->Hp->VK->Prop:=λx vs H Q=>∃l xs y,x=.ref l/\vs=[y]/\H l=some (.lst xs)/\xs.length<sizeLine/\Q .non (upd H l (.lst (xs++[y])))
theorem jL:V5 X "list.append" Dt:=by
 intro ae s σ H x vs v us Q I rx rv h;obtain⟨l,xs,y,rfl,rfl,hH,hz,q⟩:=h;cases rx;obtain⟨u,rfl,ru⟩:=rv.one;obtain⟨z,av,n,r,hl,e⟩:=I.zR hH;refine call_meets F.slot_list_append ⟨_,e,rfl⟩ F.entry_list_append (F.args_list_append_2 _ _) (PySem.list_append l av.toArray n u (by rw[eU];omega)) ⟨e,?_⟩
 refine⟨.non,_,I.NU (its':=av++[u]) hH e (by simp) (r.append (.cons ru .nil)) ?_,rfl,q⟩
 rw[gH,CN];omega
def Jq:V->List V->Hp->VK->Prop:=λx vs H Q=>∃l xs i k y,x=.ref l/\vs=[.int i]/\H l=some (.lst xs)/\-(2^63)<=i/\i<2^63/\seqIndex? i xs.length=some k/\xs[k]?=some y/\Q y (upd H l (.lst (xs.eraseIdx k)))
theorem zT:V5 X "list.pop" Jq:=by
 intro ae s σ H x vs v us Q I rx rv h;obtain⟨l,xs,i,k,y,rfl,rfl,hH,h1,h2,hk,hy,q⟩:=h;cases rx;obtain⟨u,rfl,ru⟩:=rv.one;obtain⟨t,rfl⟩:=ru;obtain⟨z,av,n,r,hl,e⟩:=I.zR hH;obtain⟨w,hw,qF⟩:=r.get hy;refine call_meets F.slot_list_pop ⟨_,e,rfl⟩ F.entry_list_pop (F.args_list_pop_2 _ _)
  (MeetsSeq.list_pop_at l av.toArray n i t k w (fitsIndex_both h1 h2) (by rw[eU,<- hl];exact hk) (by rw[<- Array.getElem?_toList];exact hw) (by rw[eU];omega)) ⟨e,?_⟩
 refine⟨y,_,I.NU (its':=av.eraseIdx k) hH e ?_ (r.eraseIdx k) ?_,qF,q⟩
 ·show av.toArray.eraseIdxIfInBounds k=(av.eraseIdx k).toArray
  rw[List.eraseIdxIfInBounds_toArray]
 ·have:=nS xs k
  omega
def NV:R2:=λx y H Q=>∃l b xs zs,x=.ref l/\y=.ref b/\H l=some (.lst xs)/\H b=some (.lst zs)/\xs.length+zs.length<=sizeLine/\∀p,H p=none->Q (.ref p) (upd H p (.lst (xs++zs)))
theorem pM:eQ X (binaryOp .Add) NV:=by
 intro ae s σ H x y v u Q I rx ry h;obtain⟨l,b,xs,zs,rfl,rfl,hH,hB,hz,q⟩:=h;cases rx;cases ry;obtain⟨z,av,n,r,hl,e⟩:=I.zR hH;obtain⟨z2,NW,n2,r2,ME,e2⟩:=I.zR hB;refine PySem.P.add_list e e2 ?_ (by rw[eU,eU];omega)
 have ea:av.toArray++NW.toArray=(av++NW).toArray:=by simp
 rw[ea];exact⟨.ref _,_,I.wZ (t':=s.toks) (r.append r2) (by rw[gH];omega),rfl,q _ I.fresh⟩
def NX:R2:=λx y H Q=>∃l k xs,x=.ref l/\y=.int k/\H l=some (.lst xs)/\-(2^63)<=k/\k<2^63/\xs.length*k.toNat<=sizeLine /\
 ∀p,H p=none->Q (.ref p) (upd H p (.lst (cj k.toNat xs).flatten))
theorem len_rep{α:Type}(xs:List α)(k:Nat):(cj k xs).flatten.length=k*xs.length:=by
 induction k with
 |zero=>simp
 |succ k ih=>rw[sF,wA,gH,ih,Gv,Nat.add_comm]
theorem zU:eQ X (binaryOp .Mult) NX:=by
 intro ae s σ H x y v u Q I rx ry h;obtain⟨l,k,xs,rfl,rfl,hH,h1,h2,hz,q⟩:=h;cases rx;obtain⟨t,rfl⟩:=ry;obtain⟨z,av,n,r,hl,e⟩:=I.zR hH;have cM:av.toArray.size*k.toNat<=sizeLine:=by rw[eU,<- hl];exact hz
 have SQ:¬ av.toArray.size*k.toNat > (2^63-1)/8:=by
  have:(sizeLine:Nat)<=(2^63-1)/8:=by decide
  omega
 have SS:¬ (!Builtin.List.listFitsIndex k)=true:=by
  rw[fitsIndex_both h1 h2];exact fF
 have NY:¬ Builtin.List.listTooLong (av.toArray.size*k.toNat)=true:=by
  rw[zS cM];exact fF
 have SW:yZ (λx1 x2=>x1++x2) #[] (cj (if av.toArray.isEmpty=true then 0 else k.toNat) av.toArray)=(cj k.toNat av).flatten.toArray:=by
  have f0:∀m:Nat,yZ (λx1 x2=>x1++x2) #[] (cj m av.toArray)=(cj m av).flatten.toArray:=λm=>by
   have:=foldl_rep av m []
   rw[sG]at this;exact this
  rw[f0];cases av with
  |nil=>simp
  |cons a r'=>rw[if_neg (by simp)]
 refine wpAny_binaryOp_repeat_ref (T := "list") (U := "int") (by decide) ⟨_,e,rfl⟩ (λs'=>typeIs_int s' k t) noFill_list_mul F.fills_int_mul F.slot_int_rmul repeat_list F.slot_int_index.lookup
  (call_meets F.slot_int_rmul (typeIs_int s k t) F.entry_int_rmul (F.args_int_rmul_2 _ _) (int___rmul___int_list k t l av.toArray n)
   ⟨e,rfl,⟨_,e,rfl⟩,call_meets F.slot_list_mul ⟨_,e,rfl⟩ F.entry_list_mul (F.args_list_mul_2 _ _) (AutoListH.list___mul___list_int_3 l av.toArray n k t SS SQ NY) ⟨e,?_⟩⟩)
 rw[SW];exact⟨.ref _,_,I.wZ (t':=s.toks) (r.rep k.toNat) (by rw[len_rep,Nat.mul_comm];exact hz),rfl,q _ I.fresh⟩
end
section
variable{prog:Program}{w:World}{A:Around}{E:Value->Shared->Prop}{s:Shared}
set_option maxRecDepth 100000 in
end
section
end
end L2
namespace Att
open PySem PySem.W PySem.Calls PyProof.Rows
theorem ku{P:Params}{h:Heap}:∀(ns:Dx)(vs:B2),WellAll P h vs (ns.map WData.int)->IntsAre vs ns:=by
 intro ns
 induction ns with
 |nil=>
  intro vs w;rw[y_]at w;cases w;exact .nil
 |cons n ns ih=>
  intro vs w;rw[dY]at w;cases w with
  |cons a b=>
   cases a;exact .cons _ _ (ih _ b)
theorem w_{l:OpenLaw}{n:Nat}(hn:l.most=some n){P:Params}{h:Heap}{args:List WData}{vals:B2}
  (Du:l.row.toRowW.claim.pre args=true) (SX:WellAll P h vals args) :
  ∃a vs ns,vals=[Value.ref a]/\args=[WData.list (ns.map WData.int)]/\h.get? a=some {cls:=.type "list",data:=.seq vs.toArray}/\IntsAre vs ns/\ns.length<=n:=by
 have XU:WShape.hasAll [] args [.list .int]=true:=(pre_splitW Du).1;have hc:l.pre.holds [] {args:=args}=true:=(pre_splitW Du).2;obtain⟨d,r,rfl,h1,h2⟩:=hasAllW_cons XU
 obtain rfl:=hasAllW_nil h2
 obtain⟨xs,rfl,h3⟩:=hasW_list h1;obtain⟨ns,rfl⟩:=items_int h3;have cM:ns.length<=n:=by
  unfold OpenLaw.pre at hc;have h4:(WTm.not (.lt (.lit (.int (n:Int))) (.len (.arg 0)))).holds [] {args:=[.list (ns.map .int)]}=true:=by
   have h4:=(holds_andW hc).1;rw[hn]at h4;exact h4
  have h5:=condW_of h4 (w_not (w_lt w_lit (w_len_list (w_arg rfl))));rw[dB]at h5;refine Nat.le_of_not_lt λq=>?_;have q':(n:Int)<((ns.length:Nat):Int):=by omega
  first
   |(rw[decide_eq_true q']at h5;exact absurd h5 (by decide))
   |(simp at h5;omega)
 cases SX with
 |cons w1 w2=>
  cases w2;cases w1 with
  |list ho zV=>exact⟨_,_,ns,rfl,rfl,ho,ku ns _ zV,cM⟩
theorem xf(l:OpenLaw)(args:List WData):l.row.toRowW.claim.post args (.bool true) args=true:=
 postW_of (r:=l.row.toRowW) (X:=(true == true))
  (show WShape.has [] (.bool true) .bool=true by first|rfl|decide|simp[WShape.has,WShape.arms,WShape.armsAll])
  (show(WTm.eq .res (.lit (.bool true))).value [] {args:=args,res:=some (.bool true),after:=args}=some (.bool (true == true))from w_eq_bool (w_res rfl) w_lit) rfl
section
variable{prog:Program}{w:World}{A:Around}{E:Value->Shared->Prop}{s:Shared}{K:Frag}
end
end Att
namespace L2
open PySem PySem.Spec PyProof.Rows
theorem nT:∀{vs:B2}{ns:Dx},IntsAre vs ns->Vals (ns.map V.int) vs
 |_,_,.nil=>.nil
 |_,_,.cons n t h=>.cons ⟨t,rfl⟩ (nT h)
def Jr(H:Hp):Prop:=∀b,H b=none\/∃o xs,H b=some (.gJ o (.lst xs))
theorem zW{P:Program}{w:World}{K:aS}{mg mb:Str->D1}{CX:yf}{k:Nat}{fa a:Addr}{fd:FuncData}{x:Str}{sp:Sp}{s₁:Shared}{vs:B2}{ns:Dx}
  (KX:K.In s₁.heap) (se:s₁.heap.Ns mainGlobals mg) (hb:s₁.heap.Ns builtinsNs mb) (XW:∀x:Str,x ≠ "__name__" -> mb x=bootBuiltins x) (SY:s₁.heap.NoLimit) (hg:s₁.gens=#[])
  (ha:s₁.heap.get? a=some {cls:=.type "list",data:=.seq vs.toArray}) (hi:IntsAre vs ns) (hl:ns.length<=sizeLine) (hr:aX k callerA)
  (F:∀base:Heap,K.In base->base.Ns mainGlobals mg->bH P w K mg base CX k fa fd [x] sp) (NZ:∀(s:Shared)(u:Value),BindsTo s fd ⟨[u],[]⟩ [(x,u)])
  (MD:∀H:Hp,Jr H->bW K H a (ns.map V.int)->sp [.ref a] H (λv _=>v=.bl true) λ_ _ _=>False)
  (XX:∀H e s',CX [] H s₁ (λ_ _ _=>False) e s'->False) :
  codeAny (model P w) callerA (.call (.ref fa) ⟨[.ref a],[]⟩) (λr s'=>r=.ok (.ret (.bool true))/\OldK s₁.heap s'.heap/\s'.os=s₁.os/\AllBare s'.gens) s₁:=by
 have rv:=nT hi;have S8:=hi.length;have core:∀H:Hp,Jr H->bW K H a (ns.map V.int)->iI P w H s₁.heap->(∀b,H b≠none->b=a)->(H a≠none->K.lookup a=none) ->
   codeAny (model P w) callerA (.call (.ref fa) ⟨[.ref a],[]⟩) (λr s'=>r=.ok (.ret (.bool true))/\OldK s₁.heap s'.heap/\s'.os=s₁.os/\AllBare s'.gens) s₁:=by
  intro H hO hS aV hA hK;have uL:∀{b:Addr}{o:Obj},s₁.heap.get? b=some o->H b=none->(o_ s₁.heap H).get? b=some o:=λe n=>zl e n;have NK:∀{b:Addr}{o:Obj}{es:Array DictEntry}{ep:Nat},s₁.heap.get? b=some o->o.data=.dict es ep->H b=none:=λ{b o es ep} e d=>by
   cases q:H b with
   |none=>rfl
   |some u=>
    have e':b=a:=hA b (by rw[q];simp)
    subst e';rw[ha]at e;cases e;have d':Data.seq vs.toArray _=Data.dict es ep:=d;cases d'
  have RL:∀{b:Addr}{m:Str->D1},s₁.heap.Ns b m->(o_ s₁.heap H).Ns b m:=λ{b m} ⟨o,es,ep,e,d,r⟩=>⟨o,es,ep,uL e (NK e d),d,r⟩;have V6:K.In (o_ s₁.heap H):=λb o e=>uL (KX b o e) (by
   cases q:H b with
   |none=>rfl
   |some u=>
    have e':b=a:=hA b (by rw[q];simp)
    subst e';rw[hK (by rw[q];simp)]at e;cases e)
  have hM:Mod K mg (o_ s₁.heap H):=⟨V6,RL se,⟨mb,RL hb,XW⟩,let⟨mc,h1,h2⟩:=SY;⟨mc,RL h1,h2⟩⟩;have e0:sW P w K mg (o_ s₁.heap H) callerA [] s₁ H:=⟨rfl,hM,λb o e=>CY e,yL (wG _ _),trivial,λb hb=>absurd (show b∈([]:BM)from hb) (by simp),aV,.of_eq hg⟩
  refine codeAny_mono ((F _ V6 (RL se)).run callerA [] s₁ H ⟨[.ref a],[]⟩ [.ref a] [.ref a] _ _ hr e0 (NZ s₁ (.ref a)) (.cons rfl .nil) (MD H hO hS)) λr s' h=>?_;cases r with
  |error e=>exact(XX H e s' h).elim
  |ok fl=>
   cases fl with
   |next=>exact False.elim h
   |brk=>exact False.elim h
   |cont=>exact False.elim h
   |ret u=>
    obtain⟨v,H',os,bare,un,S9,r',q⟩:=h;have q':v=.bl true:=q;subst q'
    obtain rfl:u=Value.bool true:=r'
    refine⟨rfl,OldK.of_keep λb o e=>?_,os,bare⟩;cases q:H b with
    |none=>exact un.keep b o e q (by intro z;exact absurd (show b∈([]:BM)from z) (by simp)) (by simp)
    |some u=>
     rcases hO b with z|⟨ob,xs,z⟩
     ·rw[q]at z;cases z
     ·have z2:=un.k8 b ob _ z
      obtain⟨e1,_⟩:=aV b _ z;obtain⟨e2,_⟩:=S9 b _ z2;rw[e]at e1;cases e1;exact e2
 cases hk:K.lookup a with
 |some o=>
  have e:=KX a o hk;rw[ha]at e;cases e;refine core (λ_=>none) (λ_=>.inl rfl) (.inr ⟨_,vs.toArray,_,hk,rfl,rfl,rfl,by rw[eU,S8];exact hl,by simpa using rv⟩) (λb u z=>by have z':(none:Option HO)=some u:=z;cases z') (λb z=>absurd rfl z) λz=>absurd rfl z
 |none=>
  refine core (λb=>if b=a then some (.gJ {cls:=.type "list",data:=.seq vs.toArray} (.lst (ns.map V.int)))else none) (λb=>?_) (.inl (.inr ⟨{cls:=.type "list",data:=.seq vs.toArray},if_pos rfl⟩)) (λb u z=>?_) (λb z=>?_) λ_=>hk
  ·by_cases hb:b=a
   ·exact .inr ⟨_,_,if_pos hb⟩
   ·exact .inl (if_neg hb)
  ·by_cases hb:b=a
   ·have z':=(if_pos hb).symm.trans z
    cases z';subst hb;exact⟨ha,by rw[dB];exact hl,vs,_,rv,ha⟩
   ·have z':=(if_neg hb).symm.trans z
    cases z'
  ·by_cases hb:b=a
   ·exact hb
   ·exact absurd (if_neg hb) z
def inClass(s:Stmt)(j:Nat):Stmt:=match s with
 |.ClassDef _ _ _ body _ _ _ _ _ _ _=>body.getD j (.Pass ⟨0,0,0,0⟩)
 |_=>.Pass ⟨0,0,0,0⟩
def jg(s:Stmt):Arguments:=match s with
 |.FunctionDef _ a _ _ _ _ _ _ _ _=>a
 |_=>{posonlyargs:=[],args:=[],vararg:=none,kwonlyargs:=[],kw_defaults:=[],kwarg:=none,defaults:=[]}
def bF(s:Stmt):DD:=match s with
 |.FunctionDef _ _ b _ _ _ _ _ _ _=>b
 |_=>[]
def au(s:Stmt):Scope:=match s with
 |.FunctionDef _ _ _ _ _ _ sc _ _ _=>sc
 |_=>{kind:=.function,names:=[],isGenerator:=false,isCoroutine:=false}
abbrev j3:yf:=λ_ _ _ _ _ _=>False
abbrev E0:XK:=λ_ _ _=>False
theorem j4{X:Cx}:Passes j3 X E0:=λ_ _ _ _ _ _ _ h=>h.elim
section
variable{P:Program}{w:World}{K:aS}{mg:Str->D1}{base:Heap}
end
section
variable{X:Cx}
end
theorem lC{A B:Prop}(h:B):if false=true then A else B:=by
 rw[if_neg fF];exact h
theorem ng{A B:Prop}(h:A):if true=true then A else B:=by
 rw[if_pos rfl];exact h
def aA(H H':Hp):Prop:=∀b o,H b=some o->H' b=some o
theorem aA.refl(H:Hp):aA H H:=λ_ _ h=>h
theorem aA.trans{H H1 H2:Hp}(a:aA H H1)(b:aA H1 H2):aA H H2:=λc o h=>b c o (a c o h)
theorem aA.free{H H':Hp}(e:aA H H'){l:Addr}(h:H' l=Gk):H l=Gk:=by
 cases q:H l with
 |none=>rfl
 |some o=>
  rw[e l o q]at h;cases h
theorem aA.seq{K:aS}{H H':Hp}{a:Addr}{xs:List V}(e:aA H H')(h:bW K H a xs):bW K H' a xs:=by
 rcases h with(h|⟨o,h⟩)|h
 ·exact .inl (.inl (e _ _ h))
 ·exact .inl (.inr ⟨o,e _ _ h⟩)
 ·exact .inr h
end L2
set_option maxHeartbeats 400000
namespace L2
open PySem PySem.Spec PyProof.Rows
theorem xg{prog:Program}{w:World}{A:Around}{R:Result->Shared->Prop}{s:Shared}{elt target iter:Expr}{ifs:Bz}{scope:Scope}{pos:Pos}{it eG:Value}{env:Env}(I:Nat->Shared->Prop)
  (turn:∀n s,I n s->wpAny (model prog w) A (pyNext it) (λr s₁=>match r with
   |none=>R (.ok .next) s₁
   |some v=>wpAny (model prog w) A (letOwnedTupleGo target it v) (λ_ s₀=>wpAny (model prog w) A (assign target env v) (λ_ s₂=>
     wpAny (model prog w) A (forIn ifs true λc r=>if r=true then do let ok <- isTrue c env (eval c env);pure (ForInStep.yield ok)else pure (ForInStep.yield r)) (λok s₃=>
      if ok=true then wpAny (model prog w) A (eval elt env) (λx s₄=>
       wpAny (model prog w) A (call (.builtin "list.append") [eG,x]) (λ_ s₅=>∃m,m<n/\I m s₅) (λ_ _=>False) s₄) (λ_ _=>False) s₃
      else ∃m,m<n/\I m s₃) (λ_ _=>False) s₂) (λ_ _=>False) s₀) (λ_ _=>False) s₁) (λ_ _=>False) s)
  (n:Nat) (h:I n s):codeAny (model prog w) A (.compLoop (.ListComp elt [⟨target,iter,ifs,0⟩] scope pos) 0 it eG env) R s:=by
 refine codeAny_loop rfl I (λn s hI=>?_) n h;show wpAny _ A ((compTurn (.ListComp elt [⟨target,iter,ifs,0⟩] scope pos) 0 it eG env).onRaise (λx=>do noteFrame x env;theTreesLotGoes x)) _ _ s
 refine wpAny_noted ?_;rw[compTurn_list];refine wpAny_bind (wpAny_standAt (wpAny_bind (wpAny_mono (turn n s hI) (λr s₁ h₁=>?_) λ_ _ h'=>h'.elim)));cases r with
 |none=>exact wpAny_pure h₁
 |some v=>
  refine wpAny_bind (wpAny_mono h₁ (λ_ s₀ h₀=>wpAny_bind (wpAny_mono h₀ (λ_ s₂ h₂=>wpAny_bind (wpAny_mono h₂ (λok s₃ h₃=>?_) λ_ _ h'=>h'.elim)) λ_ _ h'=>h'.elim)) λ_ _ h'=>h'.elim);cases ok with
  |false=>exact wpAny_pure ⟨rfl,h₃⟩
  |true=>
   exact wpAny_bind (wpAny_bind (wpAny_mono h₃ (λx s₄ h₄=>wpAny_bind (wpAny_mono h₄ (λ_ s₅ h₅=>wpAny_pure (wpAny_pure ⟨rfl,h₅⟩)) λ_ _ h'=>h'.elim)) λ_ _ h'=>h'.elim))
theorem fq(env:Env):∀(names:List (Str×NameKind))(eG:List (Str×Addr)),(∀p∈names,p.2=.free->∃c,env.cells.lookup p.1=some c)->(∀x c,eG.lookup x=some c->env.cells.lookup x=some c) ->
  ∃cl,(forIn names eG λ(p:Str×NameKind) (cs:List (Str×Addr))=>if p.2 == .free then do let c <- cellOf env p.1;pure (ForInStep.yield ((p.1,c)::cs))else pure (ForInStep.yield cs):Sem (List (Str×Addr)))=pure cl /\
   (∀x c,cl.lookup x=some c->env.cells.lookup x=some c)/\(∀x c,eG.lookup x=some c->∃c',cl.lookup x=some c')/\(∀p∈names,p.2=.free->∃c,cl.lookup p.1=some c)
 |[],eG,_,ha=>⟨eG,rfl,ha,λx c e=>⟨c,e⟩,λ_ h=>nomatch h⟩
 |(n,k)::r,eG,hn,ha=>by
  by_cases hk:k=.free
  ·subst hk
   obtain⟨c,hc⟩:=hn (n,.free) dj rfl;have RM:∀x d,((n,c)::eG).lookup x=some d->env.cells.lookup x=some d:=λx d e=>by
    rw[iH]at e;cases hx:x == n with
    |true=>rw[hx]at e;have hx:=eq_of_beq hx;subst hx;cases e;exact hc
    |false=>rw[hx]at e;exact ha x d e
   obtain⟨cl,e,h1,h2,h3⟩:=fq env r ((n,c)::eG) (λp hp=>hn p (dm _ hp)) RM;have self:∃c',cl.lookup n=some c':=h2 n c (by rw[iH];simp)
   refine⟨cl,?_,h1,λx d hx=>?_,λp hp hf=>?_⟩
   ·rw[Gz]
    show((do let c <- cellOf env n;pure (ForInStep.yield ((n,c)::eG))) >>= _)=_
    unfold cellOf;rw[hc];exact e
   ·cases RN:x == n with
    |true=>have:=eq_of_beq RN;subst this;exact self
    |false=>exact h2 x d (by rw[iH,RN];exact hx)
   ·rcases cH.mp hp with rfl|hp
    ·exact self
    ·exact h3 p hp hf
  ·obtain⟨cl,e,h1,h2,h3⟩:=fq env r eG (λp hp=>hn p (dm _ hp)) ha
   refine⟨cl,?_,h1,h2,λp hp hf=>?_⟩
   ·rw[Gz]
    have hb:(k == NameKind.free)=false:=by simpa using hk
    show((if(k == NameKind.free)=true then _ else pure (ForInStep.yield eG)) >>= _)=_
    rw[hb];exact e
   ·rcases cH.mp hp with rfl|hp
    ·exact absurd hf hk
    ·exact h3 p hp hf
theorem nh{scope:Scope}{env:Env}(h:∀p∈scope.names,p.2=.free->∃c,env.cells.lookup p.1=some c) :
  ∃cl,closureFor scope env=pure cl/\(∀x c,cl.lookup x=some c->env.cells.lookup x=some c)/\∀p∈scope.names,p.2=.free->∃c,cl.lookup p.1=some c:=by
 obtain⟨cl,e,h1,_,h3⟩:=fq env scope.names [] h (λ_ _ e=>nomatch e);refine⟨cl,?_,h1,h3⟩;unfold closureFor;exact(congrArg (λz:Sem (List (Str×Addr))=>z >>= λcs=>pure cs) e)
abbrev Cx.block(X:Cx)(N:Bi)(scope:Scope)(cl:List (Str×Addr))(C:Addr)(fp:BM)(s:Shared)(H:Hp):Cx where
 prog:=X.prog
 w:=X.w
 K:=X.K
 mg:=X.mg
 base:=X.base
 A:=X.A
 N:=N
 s₀:=s
 H₀:=H
 env:=compEnvC scope cl C X.env
 outer:=X.stack
 stack:=X.stack
 ex:=fp
 fn:=λ_=>false
 calm:=X.calm
 pn:=[]
 xe:=λ_ _=>False
inductive d_(X:Cx)(scope:Scope):B1->Bi->Prop where
 |nil:d_ X scope [] []
 |cons {j:Nat} {x:Str} {js:B1} {xs:Bi}:X.N[j]?=some x->scope.names.lookup x=some .free->X.env.kindOf x=some .cell->d_ X scope js xs->d_ X scope (j::js) (x::xs)
theorem d_.get{X:Cx}{scope:Scope}:∀{js:B1}{xs:Bi},d_ X scope js xs->∀{i:Nat}{x:Str},xs[i]?=some x->∃j,js[i]?=some j/\X.N[j]?=some x/\scope.names.lookup x=some .free/\X.env.kindOf x=some .cell
 |_,_,.nil,_,_,e=>by simp at e
 |_,_,.cons h1 h2 h3 _,0,_,e=>by simp at e;subst e;exact⟨_,rfl,h1,h2,h3⟩
 |_,_,.cons _ _ _ t,i+1,_,e=>by
  obtain⟨j,a,b⟩:=t.get (i:=i) (by simpa using e)
  exact⟨j,by simpa using a,b⟩
theorem d_.length{X:Cx}{scope:Scope}:∀{js:B1}{xs:Bi},d_ X scope js xs->js.length=xs.length
 |_,_,.nil=>rfl
 |_,_,.cons _ _ _ t=>by simp[t.length]
def bX(k:Nat)(js:B1)(σ:St):St:=cj k none++js.map λj=>(σ[j]?).join
theorem dM{env:Env}(hk:env.scope.kind=.function):∀{names:List (Str×NameKind)}{x:Str},names.lookup x=some .free->env.kindOf x=some .cell ->
  (names.map λ(n,k)=>if(k == NameKind.free&&env.scope.kind == .function&&env.kindOf n == some .cell)then(n,NameKind.cell)else(n,k)).lookup x=some .cell
 |[],_,h,_=>by simp at h
 |(n,k)::r,x,h,hc=>by
  have ih:=@dM env hk r x;show kj x ((if(k == NameKind.free&&env.scope.kind == .function&&env.kindOf n == some .cell)=true then(n,NameKind.cell)else(n,k))::_)=_
  cases hx:x == n with
  |true=>
   have e:=eq_of_beq hx;subst e;simp only[iH,hx]at h;cases h;rw[if_pos (by rw[hk,hc];rfl)]
   simp[iH]
  |false=>
   simp only[iH,hx]at h;by_cases hq:(k == NameKind.free&&env.scope.kind == .function&&env.kindOf n == some .cell)=true
   ·rw[if_pos hq];simp only[iH,hx];exact ih h hc
   ·rw[if_neg hq];simp only[iH,hx];exact ih h hc
theorem ed{env:Env}:∀{names:List (Str×NameKind)}{x:Str},(∀p∈names,p.2≠.cell) ->
  ((names.map λ(n,k)=>if(k == NameKind.free&&env.scope.kind == .function&&env.kindOf n == some .cell)then(n,NameKind.cell)else(n,k)).lookup x=some .cell \/
   (names.map λ(n,k)=>if(k == NameKind.free&&env.scope.kind == .function&&env.kindOf n == some .cell)then(n,NameKind.cell)else(n,k)).lookup x=some .free)->∃p∈names,p.1=x/\p.2=.free
 |[],_,_,h=>by simp at h
 |(n,k)::r,x,hn,h=>by
  have ih:=@ed env r x (λp hp=>hn p (dm _ hp));have h:kj x ((if(k == NameKind.free&&env.scope.kind == .function&&env.kindOf n == some .cell)=true then(n,NameKind.cell)else(n,k))::(r.map λ(n,k)=>if(k == NameKind.free&&env.scope.kind == .function&&env.kindOf n == some .cell)then(n,NameKind.cell)else(n,k)))=some .cell \/
   kj x ((if(k == NameKind.free&&env.scope.kind == .function&&env.kindOf n == some .cell)=true then(n,NameKind.cell)else(n,k))::(r.map λ(n,k)=>if(k == NameKind.free&&env.scope.kind == .function&&env.kindOf n == some .cell)then(n,NameKind.cell)else(n,k)))=some .free:=h
  cases hx:x == n with
  |true=>
   have e:=eq_of_beq hx;subst e;refine⟨(x,k),dj,rfl,?_⟩;by_cases hq:(k == NameKind.free&&env.scope.kind == .function&&env.kindOf x == some .cell)=true
   ·cases k<;>first|rfl|(simp at hq)
   ·rw[if_neg hq]at h
    simp only[iH,beq_self_eq_true]at h;rcases h with h|h
    ·cases h;exact absurd rfl (hn (x,.cell) dj)
    ·cases h;rfl
  |false=>
   have h':kj x (r.map λ(n,k)=>if(k == NameKind.free&&env.scope.kind == .function&&env.kindOf n == some .cell)then(n,NameKind.cell)else(n,k))=some .cell \/
    kj x (r.map λ(n,k)=>if(k == NameKind.free&&env.scope.kind == .function&&env.kindOf n == some .cell)then(n,NameKind.cell)else(n,k))=some .free:=by
    by_cases hq:(k == NameKind.free&&env.scope.kind == .function&&env.kindOf n == some .cell)=true
    ·rw[if_pos hq]at h;simp only[iH,hx]at h;exact h
    ·rw[if_neg hq]at h;simp only[iH,hx]at h;exact h
   obtain⟨p,hp,e1,e2⟩:=ih h';exact⟨p,dm _ hp,e1,e2⟩
structure eW(X:Cx)(scope:Scope):Prop where
 kind:scope.kind=.function
 nocell:∀p∈scope.names,p.2≠.cell
 names:∀p∈scope.names,p.2=.local->scope.names.lookup p.1=some .local
 frees:∀p∈scope.names,p.2=.free->X.env.kindOf p.1=some .cell
variable{X:Cx}{tg:Expr}
section
variable{ae:b7}{σ:St}{H:Hp}{s:Shared}
theorem Inv.enter{ls fs:Bi}{js:B1}{scope:Scope}{cl:List (Str×Addr)}{fp:BM}{h₁:Heap}{tk:Nat}(I:Inv X ae σ H s)(S:eW X scope)(F:d_ X scope js fs)
  (xh:∀x c,cl.lookup x=some c->X.env.cells.lookup x=some c) (V7:∀p∈scope.names,p.2=.free->∃c,cl.lookup p.1=some c)
  (hf:∀b∈fp,lh X ae H b) (XY:∀b∈fp,b<s.heap.objs.size) (se:h₁.Ns s.heap.objs.size (λ_=>none)) (hk:∀b o,s.heap.get? b=some o->h₁.get? b=some o) :
  Inv (X.block (ls++fs) scope cl s.heap.objs.size fp s H) [] (bX ls.length js σ) H {s with heap:=h₁,toks:=tk}:=by
 have XZ:∀x c,cl.lookup x=some c->c<s.heap.objs.size:=λx c e=>by
  obtain⟨v,q⟩:=I.cell x c (xh x c e);exact q.lt
 refine⟨⟨I.ok.mod,?_,I.ok.glob,I.ok.blt,cC _,λx y c h1 h2=>I.ok.inj x y c (xh x c h1) (xh y c h2),λx hx=>?_,(λx c hx=>by cases hx),I.ok.hd,I.ok.frames,.inl rfl,λb hb=>⟨cL (XY b hb),λx c e=>(hf b hb).2.2.2.2.1 x c (xh x c e)⟩,
  I.bs,il I.ok.bsz I.sz,λb o e hb=>?_,λb hb z=>?_,I.stack,I.pe⟩,rfl,I.bare,Un.kept hk,⟨_,se,λi x v e1 e2 e3=>?_⟩,λx c e=>?_,I.aV.fresh (cC _),λx c e=>I.freeC x c (xh x c e),λp hp=>absurd hp (by simp),I.aV.kept hk,?_⟩
 ·show(relabel scope X.env).kind=.function
  exact S.kind
 ·obtain⟨p,hp,e1,e2⟩:=ed (env:=X.env) S.nocell hx
  obtain⟨c,e⟩:=V7 p hp e2;exact⟨c,by rw[<- e1];exact e⟩
 ·rcases(hf b hb).2.2.2.1 with z|z
  ·exact I.ok.noex b o e z
  ·exact absurd (gy (Heap.lt_size (I.ok.bs b o e).1) z) (mS _)
 ·rcases cH.mp (I.k9 b z)with e|e
  ·exact(hf b hb).2.1 e
  ·exact(hf b hb).2.2.1 e
 ·-- a name of the block that has a value: one from around
  have hi:ls.length<=i:=by
   by_cases hi:i<ls.length
   ·unfold bX at e2
    rw[gI (by simpa using hi),yQ]at e2
    split at e2<;>cases e2
   ·omega
  have X0:fs[i-ls.length]?=some x:=by
   have q:(ls++fs)[i]?=some x:=e1;rw[fj hi]at q;exact q
  obtain⟨j,hj,hN,Hc,S_⟩:=F.get X0;have MF:(σ[j]?).join=some v:=by
   unfold bX at e2;rw[fj (by simpa using hi),fk]at e2
   simp only[wz]at e2;rw[hj]at e2;simpa using e2
  have hσ:σ[j]?=some (some v):=by
   cases q:σ[j]? with
   |none=>rw[q]at MF;cases MF
   |some z=>rw[q]at MF;have MF:z=some v:=MF;rw[MF]
  obtain⟨m,_,hl⟩:=I.loc;obtain⟨u,r,l⟩:=hl j x v hN hσ (.inr (.inl S_));refine⟨u,r,.inr ⟨.inl (dM I.ok.kind Hc S_),?_⟩⟩;rcases l with⟨z,_⟩|⟨_,c,e,q⟩
  ·have z':X.env.kindOf x=some .local:=z
   rw[S_]at z';cases z'
  ·obtain⟨c',e'⟩:=V7 (x,.free) (PySem.mem_of_lookup Hc) rfl
   have ec:=xh x c' e';rw[e]at ec;have ec:=jH.inj ec;rw[<- ec]at e';obtain⟨o,ho,hd⟩:=q;exact⟨c,e',o,hk _ _ ho,hd⟩
 ·obtain⟨v,o,ho,hd⟩:=I.cell x c (xh x c e)
  exact⟨v,o,hk _ _ ho,hd⟩
 ·unfold bX
  show _=(ls++fs).length;rw[gH,wz,dB,gH,F.length]
end
section
def Cs(X:Cx)(ifs:Bz)(t:TT):Prop:=
 ∀(ae:b7)(s:Shared)(σ:St)(H:Hp)(Q:Bool->Hp->Prop),Inv X ae σ H s->t σ H Q ->
  wpAny (model X.prog X.w) X.A (forIn ifs true λc r=>if r=true then do let ok <- isTrue c X.env (eval c X.env);pure (ForInStep.yield ok)else pure (ForInStep.yield r)) (TP X ae σ Q) X.xe s
def Tc:TT:=λ_ H Q=>Q true H
theorem Dv:Cs X [] Tc:=λ_ _ _ H _ I h=>wpAny_tests_nil ⟨H,I,h⟩
theorem Dw{c:Expr}{t:TT}(h:PT X c t):Cs X [c] t:=λae s σ H Q I hw=>wpAny_tests_one (h ae s σ H Q I hw)
def ck:St->St->Prop
 |[],[]=>True
 |none::a,_::b=>ck a b
 |some v::a,some w::b=>v=w/\ck a b
 |_,_=>False
theorem ck.len:∀{a b:St},ck a b->a.length=b.length
 |[],[],_=>rfl
 |[],_::_,h=>h.elim
 |none::a,[],h=>h.elim
 |some _::a,[],h=>h.elim
 |none::a,x::b,h=>by simp[ck.len (a:=a) (b:=b) h]
 |some _::a,none::b,h=>h.elim
 |some _::a,some _::b,h=>by simp[ck.len (a:=a) (b:=b) h.2]
theorem ck.get:∀{a b:St},ck a b->∀(i:Nat)(v:V),a[i]?=some (some v)->b[i]?=some (some v)
 |[],[],_,_,_,e=>e
 |[],_::_,h,_,_,_=>h.elim
 |none::a,[],h,_,_,_=>h.elim
 |some _::a,[],h,_,_,_=>h.elim
 |none::a,x::b,h,0,v,e=>by simp at e
 |none::a,x::b,h,i+1,v,e=>by
  have:=ck.get (a:=a) (b:=b) h i v (by simpa using e)
  simpa using this
 |some _::a,none::b,h,_,_,_=>h.elim
 |some y::a,some z::b,h,0,v,e=>by have e1:=h.1;subst e1;simpa using e
 |some y::a,some z::b,h,i+1,v,e=>by
  have:=ck.get (a:=a) (b:=b) h.2 i v (by simpa using e)
  simpa using this
@[irreducible] def tComp(wi:TI)(k:Nat)(js:B1)(g:TG)(tt:TT)(te:TE):TE:=λσ H Q=>wi σ H λJ H1=>∀D,H1 D=none->∃W:Nat->Nat->List V->Hp->Prop,(∃m,W 0 m [] (upd H1 D (.lst []))) /\
 ∀i m ys H,W i m ys H->(J.stop i H/\Q (.ref D) H)\/(J.go i H/\∀x H',J.yld i H x H'->g x (bX k js σ) H' λσ2 H2=>ck (bX k js σ) σ2/\tt σ2 H2 λb H3=>
  if b=true then te σ2 H3 λy H4=>H4 D=some (.lst ys)/\ys.length<sizeLine/\∃m',m'<m/\W (i+1) m' (ys++[y]) (upd H4 D (.lst (ys++[y])))
  else ∃m',m'<m/\W (i+1) m' ys H3)
theorem nU{scope:Scope}{ls fs:Bi}{js:B1}{tg iter elt:Expr}{ifs:Bz}{pos bM:Pos}{wi:TI}{g:TG}{tt:TT}{te:TE}{use:Option (Value->Sem Unit)}{Qo:Value->Shared->Prop}
  (hc:X.calm=true) (S:eW X scope) (F:d_ X scope js fs) (hi:PI X tg iter wi)
  (hg:∀cl C fp s H,PG (X.block (ls++fs) scope cl C fp s H) tg g) (ht:∀cl C fp s H,Cs (X.block (ls++fs) scope cl C fp s H) ifs tt) (he:∀cl C fp s H,PE (X.block (ls++fs) scope cl C fp s H) elt te)
  {ae:b7} {s:Shared} {σ:St} {H:Hp} {Q:VK} (I:Inv X ae σ H s) (h:tComp wi ls.length js g tt te σ H Q)
  (fin:∀D C s' H' m,Inv X ae σ H' s'->lh X ae H' C->s'.heap.Ns C m->Q (.ref D) H'->compPost (model X.prog X.w) X.A X.xe use Qo (.ref D) C (.ok .next) s')
  (hs:∀x,foldedSetIterable iter X.env x=pure x) :
  wpAny (model X.prog X.w) X.A (comprehension (.ListComp elt [⟨tg,iter,ifs,0⟩] scope pos) scope X.env bM (newList []) false (eval iter X.env) use) Qo X.xe s:=by
 unfold tComp at h;obtain⟨cl,X3,h1,h2⟩:=nh (scope:=scope) (env:=X.env) (λp hp hf=>I.ok.has p.1 (.inl (S.frees p hp hf)));refine wpAny_comprehension_free rfl hs X3 S.kind S.names (bo (hi ae s σ H _ I h) λv s1 q1=>bo q1 λSx s2 q2=>?_);obtain⟨it,fp,tn,J,H2,e,I2,T,C8,f2,q⟩:=q2;subst e;refine wpAny_newObj_type (wpAny_newFunctionEnv S.nocell (by intro y hy;simp at hy) (λh₁ hns₁ hsb₁=>?_) S.kind)
 have I3:Inv X ae σ (upd H2 s2.heap.objs.size (.lst [])) {s2 with heap:=s2.heap.push {cls:=.type "list",dict:=none,data:=.seq ([]:B2).toArray}}:=I2.wZ (t':=s2.toks) .nil (kh _)
 obtain⟨W,⟨m0,w0⟩,step⟩:=q s2.heap.objs.size I2.fresh;dsimp only at hns₁ hsb₁ ⊢
 generalize N1:({s2 with heap:=s2.heap.push {cls:=.type "list",dict:=none,data:=.seq ([]:B2).toArray}}:Shared)=s3 at I3
 have MG:s3.heap=s2.heap.push {cls:=.type "list",dict:=none,data:=.seq ([]:B2).toArray}:=by rw[<- N1]
 rw[<- MG]at hns₁ hsb₁ ⊢;have old:∀b o,s3.heap.get? b=some o->h₁.get? b=some o:=λb o e=>hsb₁.extBut b o (cL (Heap.lt_size e)) (Heap.get?_push_of_some _ e);have up:∀b o,s2.heap.get? b=some o->s3.heap.get? b=some o:=λb o e=>by rw[MG];exact Heap.get?_push_of_some _ e
 have X4:∀b∈fp,b<s2.heap.objs.size:=λb hb=>by
  obtain⟨o,e,_⟩:=T.obj 0 _ C8 b hb;exact Heap.lt_size e
 have f3:∀b∈fp,lh X ae (upd H2 s2.heap.objs.size (.lst [])) b:=λb hb=>⟨by rw[ak (cL (X4 b hb))];exact(f2 b hb).1,(f2 b hb).2⟩
 have V8:∀b∈fp,b<s3.heap.objs.size:=λb hb=>by
  obtain⟨o,e,_⟩:=T.obj 0 _ C8 b hb;exact Heap.lt_size (up b o e)
 have I4:=I3.enter (ls:=ls) (h₁:=h₁) (tk:=s2.toks+([]:List (Str×Value)).length) S F h1 h2 f3 V8 (by simpa using hns₁) old
 have V9:tn 0 h₁:=T.keep 0 _ _ C8 λb _ o e=>old b o (up b o e)
 generalize hC:s3.heap.objs.size=C at I4 hns₁ hsb₁ ⊢
 generalize hH3:upd H2 s2.heap.objs.size (.lst [])=H3 at I3 I4 f3 w0
 have sN:∀{H':Hp},(∀b∈fp,H' b=none)->∀b∈fp,lh (X.block (ls++fs) scope cl C fp s3 H3) [] H' b:=λhn b hb=>
  ⟨hn b hb,by rw[<- hC];exact cL (V8 b hb),λz=>(cH.mp (I3.k9 b z)).elim (f3 b hb).2.1 (f3 b hb).2.2.1,.inl hb,λx c e=>(f3 b hb).2.2.2.2.1 x c (h1 x c e),λp hp=>absurd hp (by simp)⟩
 have yd:∀b∈fp,(b∈X.ex\/X.s₀.heap.objs.size<=b)/\b≠X.env.locals/\(∀x c,X.env.cells.lookup x=some c->c≠b)/\∀p∈X.pn++ae,p.1≠b:=λb hb=>⟨(f3 b hb).2.2.2.1,(f3 b hb).2.1,(f3 b hb).2.2.2.2.1,(f3 b hb).2.2.2.2.2⟩;have loop:∀s4:Shared,s4={s3 with heap:=h₁,toks:=s2.toks+([]:List (Str×Value)).length} ->
   codeAny (model X.prog X.w) X.A (.compLoop (.ListComp elt [⟨tg,iter,ifs,0⟩] scope pos) 0 (.ref it) (.ref s2.heap.objs.size) (compEnvC scope cl C X.env)) (compPost (model X.prog X.w) X.A X.xe use Qo (.ref s2.heap.objs.size) C) s4:=by
  rintro s4 rfl
  refine xg (λn s'=>∃i ys H',Inv (X.block (ls++fs) scope cl C fp s3 H3) [] (bX ls.length js σ) H' s'/\tn i s'.heap/\(∀b∈fp,H' b=none)/\W i n ys H') ?_ m0 ⟨0,[],H3,I4,V9,λb hb=>(f3 b hb).1,w0⟩
  rintro n s5 ⟨i,ys,H5,I5,C9,RG,w5⟩
  rcases step i n ys H5 w5 with⟨stop,qf⟩|⟨go,nxt⟩
  ·refine bo (T.done (X.block (ls++fs) scope cl C fp s3 H3) rfl rfl rfl hc i [] s5 _ H5 (λ_ _=>False) I5 (sN RG) C9 stop) λr s6 zz=>?_
   obtain⟨hr,I6⟩:=zz;subst hr;obtain⟨m,hm,_⟩:=id I6.loc;have J6:Inv X ae σ H5 s6:=I3.zm (ch:=fp) I6.os I6.base I6.aV I6.bare yd;exact fin _ C s6 H5 m J6 (I3.pD (yL hC) I6.free) hm qf
  ·refine bo (T.item (X.block (ls++fs) scope cl C fp s3 H3) rfl rfl rfl hc i [] s5 _ H5 (λ_ _=>False) I5 (sN RG) C9 go) λr s6 zz=>?_
   obtain⟨u,hr,h6⟩:=zz;subst hr;refine bo h6 λ_ s7 zz=>?_;obtain⟨x,H7,I7,r7,y7,Td,X5⟩:=zz;have X6:=I7.pinned (sN X5) (T.obj _ _ Td);refine bo (hg cl C fp s3 H3 _ s7 _ H7 x u _ X6 r7 (nxt x H7 y7)) λ_ s8 zz=>?_;obtain⟨σ8,H8,I8,kp,q8⟩:=zz;have again:∀{s9:Shared}{H9:Hp},Inv (X.block (ls++fs) scope cl C fp s3 H3) ([]++lq fp s7.heap) σ8 H9 s9 ->
     Inv (X.block (ls++fs) scope cl C fp s3 H3) [] (bX ls.length js σ) H9 s9/\tn (i+1) s9.heap/\∀b∈fp,H9 b=none:=λ{s9 H9} I9=>by
    refine⟨I9.ja.weak kp.len kp.get,T.keep _ _ _ Td λb hb o e=>(I9.pin (b,o) (k6 _ (k6 _ (fY hb e)))).1,λb hb=>?_⟩;obtain⟨o,e,d⟩:=T.obj _ _ Td b hb;exact(I9.pin (b,o) (k6 _ (k6 _ (fY hb e)))).2.1
   refine bo (ht cl C fp s3 H3 _ s8 σ8 H8 _ I8 q8) λb s9 zz=>?_;obtain⟨H9,I9,q9⟩:=zz;cases b with
   |false=>
    obtain⟨m',hm,w9⟩:=q9;obtain⟨a1,a2,a3⟩:=again I9;exact⟨m',hm,i+1,ys,H9,a1,a2,a3,w9⟩
   |true=>
    refine bo (he cl C fp s3 H3 _ s9 σ8 H9 _ I9 q9) λxv X7 zz=>?_;obtain⟨y,V_,X8,X_,hD,hz,m',hm,RO⟩:=zz;refine bo (jL (X:=X.block (ls++fs) scope cl C fp s3 H3) _ X7 σ8 V_ (.ref s2.heap.objs.size) [y] (.ref s2.heap.objs.size) [xv] (λ_ Wa=>Wa=upd V_ s2.heap.objs.size (.lst (ys++[y]))) X8 rfl (.cons X_ .nil)
     ⟨_,ys,y,rfl,rfl,hD,hz,rfl⟩) λ_ s11 ⟨z,Wa,I11,_,e11⟩=>?_
    subst e11;obtain⟨a1,a2,a3⟩:=again I11;exact⟨m',hm,i+1,ys++[y],_,a1,a2,a3,RO⟩
 have Yb:({newEnv scope C X.env.globals cl X.env.qual none .none (some X.env) builtinsNs with scope:=relabel scope X.env}:Env)=compEnvC scope cl C X.env:=rfl
 exact codeAny_compStart_list (loop _ (by rw[<- N1])) (T.self X.A 0 _ _ _ V9 (loop _ (by rw[<- N1])))
variable{scope:Scope}{ls fs:Bi}{js:B1}{iter elt:Expr}{ifs:Bz}{pos:Pos}{wi:TI}{g:TG}{tt:TT}{te:TE}
theorem Dy(ls:Bi)(hc:X.calm=true)(S:eW X scope)(F:d_ X scope js fs)(hi:PI X tg iter wi)
  (hg:∀cl C fp s H,PG (X.block (ls++fs) scope cl C fp s H) tg g) (ht:∀cl C fp s H,Cs (X.block (ls++fs) scope cl C fp s H) ifs tt) (he:∀cl C fp s H,PE (X.block (ls++fs) scope cl C fp s H) elt te)
  (hs:∀x,foldedSetIterable iter X.env x=pure x:=by intro _;rfl):PE X (.ListComp elt [⟨tg,iter,ifs,0⟩] scope pos) (tComp wi ls.length js g tt te):=by
 intro ae s σ H Q I h;rw[eval_ListComp];refine nU (use:=none) hc S F hi hg ht he I h ?_ hs;intro D C s' H' m J fC hm q;exact⟨m,hm,λh' xj=>⟨.ref D,H',J.turned (t':=s'.toks) (it:=C) (λb o hb e=>(xj.2 b hb).trans e) fC.1 fC.2.1 fC.2.2.2.1 fC.2.2.2.2.1 fC.2.2.2.2.2,rfl,q⟩⟩
theorem uM{i:Nat}{x:Str}{px pN:Pos}(ls:Bi)(hc:X.calm=true)(hN:X.N.Nodup)(Yc:X.N[i]?=some x)(hx:Loc X.env.scope x)(S:eW X scope)(F:d_ X scope js fs)(hi:PI X tg iter wi)
  (hg:∀cl C fp s H,PG (X.block (ls++fs) scope cl C fp s H) tg g) (ht:∀cl C fp s H,Cs (X.block (ls++fs) scope cl C fp s H) ifs tt) (he:∀cl C fp s H,PE (X.block (ls++fs) scope cl C fp s H) elt te)
  (hs:∀x,foldedSetIterable iter X.env x=pure x:=by intro _;rfl) (hf:X.fn x=true\/X.env.scope.names.lookup x=some .local:=by first|exact .inl rfl|exact .inr rfl|assumption)
  (RP:swapsWith (.ListComp elt [⟨tg,iter,ifs,0⟩] scope pos) (some (.Name x px)) pN.line X.env=pure true:=by rfl) :
  PS X (.Assign [.Name x px] (.ListComp elt [⟨tg,iter,ifs,0⟩] scope pos) pN) (λD σ H=>tComp wi ls.length js g tt te σ H λv H1=>D.nx (σ.set i (some v)) H1):=by
 intro ae s σ H D I h;rw[exec_Assign_Name_used _ _ _ _ RP];refine wpAny_bind (wpAny_standAt (wpAny_bind ?_));show wpAny _ X.A (do let _ <- comprehension (.ListComp elt [⟨tg,iter,ifs,0⟩] scope pos) scope X.env _ (newList []) false (eval iter X.env) (some (assign (.Name x px) X.env))) _ _ s
 refine wpAny_bind (wpAny_mono (nU (use:=some (assign (.Name x px) X.env)) (Qo:=λ_ s'=>SP X ae D .next s') hc S F hi hg ht he I h ?_ hs) (λ_ s' hq=>wpAny_pure (wpAny_pure hq)) λ_ _ e=>e)
 intro D' C s' H' m J fC hm q;show wpAny _ X.A (assign (.Name x px) X.env (.ref D')) _ _ _;refine wpAny_assign_Name (nK J hN Yc hx (show RelV (.ref D') (.ref D')from rfl) (λwU J' ⟨a,Wb,ha⟩=>?_) hf);have ne:C≠a:=by
  rcases ha with e|e
  ·rw[e];exact fC.2.1
  ·exact Ne.symm (fC.2.2.2.2.1 x a e)
 refine⟨m,hm.sameBut Wb ne,λh' xj=>?_⟩;exact⟨_,H',J'.turned (t':=wU.toks) (it:=C) (λb o hb e=>(xj.2 b hb).trans e) fC.1 fC.2.1 fC.2.2.2.1 fC.2.2.2.2.1 fC.2.2.2.2.2,q⟩
end
section
theorem zX{P:Program}{w:World}{K:aS}{x:Str}{px:Pos}{it:Addr}{n:Nat}{Pv:Nat->Value->Prop}{St:Nat->Heap->Prop}(val:Nat->V->Prop)
  (W:∀A:Around,A.handled=none->Walks P w A it [it] [it] n Pv St) (hv:∀i v,Pv i v->∃y,RelV y v/\val i y)
  (ho:∀i h,St i h->∃o,h.get? it=some o/\∀v,o.data≠.cell v) (hk:∀i(h h':Heap),St i h->(∀o,h.get? it=some o->h'.get? it=some o)->St i h')
  (N2:∀(A:Around)(i:Nat)(s:Shared)(Q:Value->Shared->Prop)(E:Value->Shared->Prop),St i s.heap->Q (.ref it) s->wpAny (model P w) A (pyIter (.ref it)) Q E s) :
  Turn P w K (.Name x px) ⟨λi _=>i<n,λi H y H'=>H'=H/\val i y,λi _=>i=n⟩ [it] it St where
 mem:=by simp
 obj:=λi h st b hb=>by
  have e:b=it:=by simpa using hb
  subst e;exact ho i h st
 keep:=λi h h' st k=>hk i h h' st (k it (by simp))
 item:=by
  intro X hP hw hK hc i ae s σ H E I hf st hg;subst hP hw hK;obtain⟨f0,f1,f2,f3,f4,f5⟩:=hf it (by simp)
  refine(W X.A (I.ok.hd hc)).item i s _ _ hg st λv h' tk Yd mZ kk=>?_;obtain⟨y,ry,vy⟩:=hv i v Yd;have I1:Inv X ae σ H {s with heap:=h',toks:=tk}:=I.turned (λb o hb e=>kk b o (by simpa using hb) e) f0 f1 f3 f4 f5
  exact⟨v,rfl,wpAny_pure ⟨y,H,I1,ry,⟨rfl,vy⟩,mZ,λb hb=>(hf b hb).1⟩⟩
 done:=by
  intro X hP hw hK hc i ae s σ H E I hf st hg;subst hP hw hK;obtain⟨f0,f1,f2,f3,f4,f5⟩:=hf it (by simp)
  have hg:i=n:=hg;rw[hg]at st;exact(W X.A (I.ok.hd hc)).done s _ _ st λh' tk kk=>⟨rfl,I.turned (λb o hb e=>kk b o (by simpa using hb) e) f0 f1 f3 f4 f5⟩
 self:=N2
def Wc(z:Str):It:=⟨λi _=>i<z.cps.size,λi H y H'=>H'=H/\∃c,z.cps[i]?=some c/\y=.str ⟨#[c]⟩,λi _=>i=z.cps.size⟩
def Te(tl:TE):TI:=λσ H R=>tl σ H λv H1=>∃z,v=.str z/\R (Wc z) H1
theorem Js{l:Expr}{tl:TE}{x:Str}{px:Pos}(hl:PE X l tl):PI X (.Name x px) l (Te tl):=by
 intro ae s σ H R I h;refine bo (hl ae s σ H _ I h) λv s1 zz=>?_;obtain⟨y,H1,I1,r1,q1⟩:=zz;obtain⟨z,rfl,q⟩:=q1;obtain⟨t,rfl⟩:=r1;have Wd:∀b∈[s1.heap.objs.size],lh X ae H1 b:=λb hb=>by
  have e:b=s1.heap.objs.size:=by simpa using hb
  subst e;exact I1.pD (cC _) (I1.aV.fresh (cC _))
 have hv:∀i v,SignAt z i v->∃y,RelV y v/\∃c,z.cps[i]?=some c/\y=.str ⟨#[c]⟩:=λi v ⟨c,u,e,ev⟩=>⟨.str ⟨#[c]⟩,⟨u,ev⟩,c,e,rfl⟩;have zY:∀(ty:String)(i:Nat)(h:Heap),h.IsStrIter s1.heap.objs.size ty z t i->∃o,h.get? s1.heap.objs.size=some o/\∀v,o.data≠.cell v:=λty i h ⟨o,e,_,d⟩=>⟨o,e,λv q=>by rw[d]at q;cases q⟩
 have kp:∀(ty:String)(i:Nat)(h h':Heap),h.IsStrIter s1.heap.objs.size ty z t i->(∀o,h.get? s1.heap.objs.size=some o->h'.get? s1.heap.objs.size=some o)->h'.IsStrIter s1.heap.objs.size ty z t i:=λty i h h' ⟨o,e,r⟩ k=>⟨o,k o e,r⟩;cases ha:z.cps.all (· < 128)
 ·refine wpAny_pyIter_wide ha ?_
  exact⟨s1.heap.objs.size,[s1.heap.objs.size],_,_,H1,rfl,I1.kept (t':=s1.toks) λb o e=>Heap.get?_push_of_some _ e,
   zX (λi y=>∃c,z.cps[i]?=some c/\y=.str ⟨#[c]⟩) (λA hA=>Walks.strWide hA _ z t) hv (zY _) (kp _) (λ_ _ _ _ _ st h=>wpAny_pyIter_striter_wide st h),⟨_,Heap.get?_push_size _ rfl,rfl,rfl⟩,Wd,q⟩
 ·refine wpAny_pyIter_ascii ha ?_
  exact⟨s1.heap.objs.size,[s1.heap.objs.size],_,_,H1,rfl,I1.kept (t':=s1.toks) λb o e=>Heap.get?_push_of_some _ e,
   zX (λi y=>∃c,z.cps[i]?=some c/\y=.str ⟨#[c]⟩) (λA hA=>Walks.strAscii hA _ z t) hv (zY _) (kp _) (λ_ _ _ _ _ st h=>wpAny_pyIter_striter_ascii st h),⟨_,Heap.get?_push_size _ rfl,rfl,rfl⟩,Wd,q⟩
def Tf(hi:Int)(n:Nat):It:=⟨λi _=>i<n,λi H x H'=>H'=H/\x=.int (hi-i),λi _=>n<=i⟩
theorem xl{P:Program}{w:World}{K:aS}(it:Addr)(hi:Int)(n:Nat):Turn P w K tg (Tf hi n) [it] it (λi h=>IsRangeIter h it (hi+(i:Nat)*(-1)) ((n:Int)-(i:Nat)) (-1)) where
 mem:=by simp
 obj:=λi h st b hb=>by
  have e:b=it:=by simpa using hb
  subst e;exact⟨_,st,λv z=>by
   have z':Data.fields _=Data.cell v:=z;cases z'⟩
 keep:=λi h h' st k=>k it (by simp) _ st
 item:=by
  intro X hP hw hK hc i ae s σ H E I hf st hg;subst hP hw hK;obtain⟨f0,f1,f2,f3,f4,f5⟩:=hf it (by simp)
  have W:=Walks.range (prog:=X.prog) (w:=X.w) (I.ok.hd hc) it hi (-1) n;refine W.item i s _ _ hg st λv h' tk hv mZ kk=>?_;obtain⟨t,rfl⟩:=hv;have I1:Inv X ae σ H {s with heap:=h',toks:=tk}:=I.turned (λb o hb e=>kk b o (by simpa using hb) e) f0 f1 f3 f4 f5
  refine⟨_,rfl,qw (s:={s with heap:=h',toks:=tk}) (n := "range_iterator") mZ rfl rfl (by decide) ⟨.int (hi-i),H,I1,⟨t,?_⟩,⟨rfl,rfl⟩,mZ,λb hb=>(hf b hb).1⟩⟩
  have e:hi+(i:Int)*(-1)=hi-i:=by omega
  rw[e]
 done:=by
  intro X hP hw hK hc i ae s σ H E I hf st hg;subst hP hw hK;obtain⟨f0,f1,f2,f3,f4,f5⟩:=hf it (by simp)
  exact wpAny_pyNext_range_end (I.ok.hd hc) st (by have:n<=i:=hg;omega) λh' eb=>⟨rfl,I.turned (t':=s.toks) (λb o hb e=>eb b o hb e) f0 f1 f3 f4 f5⟩
 self:=λ_ _ _ _ _ st h=>wpAny_pyIter_rangeiter st h
def N3(ta:TA):TI:=λσ H R=>ta σ H λvs H1=>∃i:Int,vs=[.int i,.int (-1),.int (-1)]/\-1<=i/\i<2^30/\R (Tf i (i+1).toNat) H1
theorem Dz{a b c:Expr}{ta:TA}{p pos:Pos}(hg:Gl X "range")(hm:X.mg "range" = none)(ha:PA X [a,b,c] ta)(hs:starEach [a,b,c] X.env=[(false,eval a X.env),(false,eval b X.env),(false,eval c X.env)]:=by rfl)
  (lj:starEach [b,c] X.env=[(false,eval b X.env),(false,eval c X.env)]:=by rfl):PI X tg (.Call (.Name "range" p) [a,b,c] [] pos) (N3 ta):=by
 intro ae s σ H R I h;refine Call_ (dI I hg hm boot_range (sI (bo (ha pos ae s σ H _ I h) λus s1 ⟨vs,H1,I1,r1,q1⟩=>?_) (by rw[hs,lj]) (by rw[lj];rfl)))
 obtain⟨i,e,q1,q2,q⟩:=q1;subst e;cases r1 with
 |cons r rr=>
  cases rr with
  |cons r' rr=>
   cases rr with
   |cons r'' rr=>
    cases rr;obtain⟨t,rfl⟩:=r;obtain⟨t',rfl⟩:=r';obtain⟨We,rfl⟩:=r'';refine call_range_3 (by decide) ?_ (.inl (PyProof.noPylong_small (by decide)))
    have Wf:Builtin.Range.rangeSize i (-1) (-1)=i+1:=by
     unfold Builtin.Range.rangeSize;rw[if_neg (by decide)]
     split
     ·have e:-(-1:Int)=1:=rfl
      rw[e,Int.ediv_one];omega
     ·omega
    have Ye:Builtin.Range.small i (-1) (-1)=true:=by
     unfold Builtin.Range.small;rw[Wf];simp[Builtin.Range.rangeFitsLong];omega
    refine wpAny_pyIter_range (IsRange.new ..) Ye ?_
    generalize hh:s1.heap.push {cls:=.type "range",data:=.fields #[.int i t,.int (-1) t',.int (-1) We]}=h2
    have I2:Inv X ae σ H1 {s1 with heap:=h2}:=I1.kept (t':=s1.toks) λb o e=>by rw[<- hh];exact Heap.get?_push_of_some _ e
    refine⟨h2.objs.size,[h2.objs.size],_,_,H1,rfl,I2.kept (t':=s1.toks) λb o e=>Heap.get?_push_of_some _ e,xl _ i (i+1).toNat,?_,λb hb=>?_,q⟩
    ·have e1:i+((0:Nat):Int)*(-1)=i:=by omega
     have e2:(((i+1).toNat:Nat):Int)-((0:Nat):Int)=Builtin.Range.rangeSize i (-1) (-1):=by
      rw[Wf];omega
     show IsRangeIter _ _ (i+((0:Nat):Int)*(-1)) ((((i+1).toNat:Nat):Int)-((0:Nat):Int)) (-1);rw[e1,e2];exact Heap.get?_push_size _ rfl
    ·have e:b=h2.objs.size:=by simpa using hb
     subst e;exact I2.pD (cC _) (I2.aV.fresh (cC _))
end
structure RQ(J:It)(src:List V)(I:Hp->Prop):Prop where
 go:∀i H,I H->i<src.length->J.go i H
 yld:∀i H x H',I H->i<src.length->J.yld i H x H'->H'=H/\src[i]?=some x
 stop:∀i H,I H->i=src.length->J.stop i H
theorem DA(z:Str):RQ (Wc z) (z.cps.toList.map λc=>V.str ⟨#[c]⟩) (λ_=>True):=
 ⟨λi H _ h=>by have h:i<(z.cps.toList.map λc=>V.str ⟨#[c]⟩).length:=h;rw[dB,Array.length_toList]at h;exact h,
  λi H x H' _ _ y=>by
  obtain⟨e,c,hc,ex⟩:=y;refine⟨e,?_⟩;rw[fk,Array.getElem?_toList,hc,ex];rfl,
  λi H _ h=>by rw[dB,Array.length_toList]at h;exact h⟩
theorem nV(lo:Int)(n:Nat):RQ (Nm lo n) ((cD n).map λk=>V.int (lo+(k:Nat))) (λ_=>True):=
 ⟨λi H _ h=>by have h:i<((cD n).map λk=>V.int (lo+(k:Nat))).length:=h;rw[dB,oY]at h;exact h,
  λi H x H' _ hi y=>by
  obtain⟨e,ex⟩:=y;refine⟨e,?_⟩;have hi:i<n:=by rw[dB,oY]at hi;exact hi
  rw[fk,za hi,ex];rfl,
  λi H _ h=>by rw[dB,oY]at h;exact yL h.symm⟩
section
def Wg(K:aS)(a:Addr)(xs:List V):It:=⟨λi H=>i<xs.length/\bW K H a xs,λi H y H'=>H'=H/\xs[xs.length-1-i]?=some y,λi _=>i=xs.length⟩
theorem zZ{P:Program}{w:World}{K:aS}(a it:Addr)(xs:List V):Turn P w K tg (Wg K a xs) [it] it (λi h=>h.IsRevIter it a ((xs.length:Int)-1-(i:Int))) where
 mem:=by simp
 obj:=λi h st b hb=>by
  have e:b=it:=by simpa using hb
  subst e;obtain⟨o,e,c,d⟩:=st;exact⟨o,e,λv z=>by rw[d]at z;cases z⟩
 keep:=λi h h' st k=>st.at λo e=>k it (by simp) o e
 item:=by
  intro X hP hw hK hc i ae s σ H E I hf st hg;subst hP hw hK;obtain⟨hi,hq⟩:=hg;obtain⟨av,rv,p,hz⟩:=I.list hq;have hx:xs[xs.length-1-i]?=some (xs[xs.length-1-i]'(by omega)):=eM (by omega)
  obtain⟨u,hu,ru⟩:=rv.get hx;obtain⟨f0,f1,f2,f3,f4,f5⟩:=hf it (by simp)
  have e:(xs.length:Int)-1-(i:Int)=((xs.length-1-i:Nat):Int):=by omega
  rw[e]at st;refine wpAny_pyNext_rev_item st p.isList (x:=u) (by simpa using hu) λh' mZ sb=>?_
  have I1:Inv X ae σ H {s with heap:=h'}:=I.turned (t':=s.toks) (λb o hb e=>(sb.2 b hb).trans e) f0 f1 f3 f4 f5
  have e2:((xs.length-1-i:Nat):Int)-1=(xs.length:Int)-1-((i+1:Nat):Int):=by omega
  rw[e2]at mZ;obtain⟨o,eo,c,d⟩:=id mZ;exact⟨u,rfl,qw (s:={s with heap:=h'}) eo c d (by decide) ⟨_,H,I1,ru,⟨rfl,hx⟩,mZ,λb hb=>(hf b hb).1⟩⟩
 done:=by
  intro X hP hw hK hc i ae s σ H E I hf st hg;subst hP hw hK;obtain⟨f0,f1,f2,f3,f4,f5⟩:=hf it (by simp)
  have hg:i=xs.length:=hg;have e:(xs.length:Int)-1-(i:Int)=-1:=by omega
  rw[e]at st;exact wpAny_pyNext_rev_end (I.ok.hd hc) st λh' eb=>⟨rfl,I.turned (t':=s.toks) (λb o hb e=>eb b o hb e) f0 f1 f3 f4 f5⟩
 self:=λ_ _ _ _ _ st h=>wpAny_pyIter_revIter st h
def Tg(K:aS)(ta:TA):TI:=λσ H R=>ta σ H λvs H1=>∃a xs,vs=[.ref a]/\bW K H1 a xs/\R (Wg K a xs) H1
theorem Jt{a:Expr}{ta:TA}{p pos:Pos}(hg:Gl X "reversed")(hm:X.mg "reversed" = none)(ha:PA X [a] ta)(hs:starEach [a] X.env=[(false,eval a X.env)]:=by rfl):PI X tg (.Call (.Name "reversed" p) [a] [] pos) (Tg X.K ta):=by
 intro ae s σ H R I h;refine Call_ (dI I hg hm PyProof.Rows.boot_reversed (sI (bo (ha pos ae s σ H _ I h) λus s1 ⟨vs,H1,I1,r1,q1⟩=>?_) hs rfl));obtain⟨l,xs,e,hq,q⟩:=q1;subst e;cases r1 with
 |cons r rr=>
  cases rr;cases r;obtain⟨av,rv,pl,hz⟩:=I1.list hq;have cM:=rv.length;refine call_reversed_list pl.isList (wpAny_pyIter_revIter ⟨_,Heap.get?_push_size _ rfl,rfl,rfl⟩ ?_);refine⟨s1.heap.objs.size,[s1.heap.objs.size],_,_,H1,rfl,I1.kept (t':=s1.toks) λb o e=>Heap.get?_push_of_some _ e,zZ l _ xs,?_,λb hb=>?_,q⟩
  ·refine⟨_,Heap.get?_push_size _ rfl,rfl,?_⟩
   have e:((av.toArray.size:Nat):Int)-1=(xs.length:Int)-1-((0:Nat):Int):=by rw[eU,<- cM];omega
   rw[<- e];rfl
  ·have e:b=s1.heap.objs.size:=by simpa using hb
   subst e;exact I1.pD (cC _) (I1.aV.fresh (cC _))
end
section
theorem ni:wX X "str.startswith" (λx vs H Q=>∃a b,x=.str a/\vs=[.str b]/\Q (.bl (Txt.startswith a b)) H):=by
 intro ae s σ H x vs v us Q I rx rv h;obtain⟨a,b,rfl,rfl,q⟩:=h;obtain⟨t,rfl⟩:=rx;obtain⟨u,rfl,⟨t',rfl⟩⟩:=rv.one;exact SC.startswith ⟨.bl _,H,I,rfl,q⟩
theorem qG:wX X "str.endswith" (λx vs H Q=>∃a b,x=.str a/\vs=[.str b]/\Q (.bl (Txt.endswith a b)) H):=by
 intro ae s σ H x vs v us Q I rx rv h;obtain⟨a,b,rfl,rfl,q⟩:=h;obtain⟨t,rfl⟩:=rx;obtain⟨u,rfl,⟨t',rfl⟩⟩:=rv.one;exact SC.endswith ⟨.bl _,H,I,rfl,q⟩
theorem z9:wX X "str.find" (λx vs H Q=>∃a b i,x=.str a/\vs=[.str b,.int i]/\Q (.int (Txt.find3 a b i)) H):=by
 intro ae s σ H x vs v us Q I rx rv h;obtain⟨a,b,i,rfl,rfl,q⟩:=h;obtain⟨t,rfl⟩:=rx;obtain⟨u,u',rfl,⟨t',rfl⟩,⟨We,rfl⟩⟩:=rv.two;exact SC.find3 ⟨.int _,H,I.tok _,⟨_,rfl⟩,q⟩
theorem lD:∀{ys:Bi}{us:B2},Vals (ys.map V.str) us->StrsAre us ys
 |[],_,.nil=>.nil
 |y::ys,_,.cons ⟨t,e⟩ r=>by
  subst e;exact .cons y t (lD (ys:=ys) r)
theorem DB:wX X "str.join" (λx vs H Q=>∃sep l ys,x=.str sep/\vs=[.ref l]/\bW X.K H l (ys.map V.str)/\(ys.map (·.length)).sum+ys.length*sep.length<=16777216/\Q (.str (Str.join sep ys)) H):=by
 intro ae s σ H x vs v us Q I rx rv h;obtain⟨sep,l,ys,rfl,rfl,hl,hz,q⟩:=h;obtain⟨t,rfl⟩:=rx;obtain⟨u,rfl,ru⟩:=rv.one;cases ru;obtain⟨av,r,p,_⟩:=I.list hl;refine join_list p.isList (ys:=ys) (by simpa using lD r) hz λt' k=>?_
 have e:Txt.join sep ys=Str.join sep ys:=StrLaws.glued_eq_join sep ys;rw[e];exact⟨.str _,H,I.tok _,⟨_,rfl⟩,q⟩
theorem Ju:G_ X (λx lo hi H Q=>∃z,x=.str z/\z.length<=sizeLine/\Q (.str (Txt.slice z lo hi)) H):=by
 intro ae s σ H x v vl vu lo hi sl Q I rx hs pl pu h;obtain⟨z,rfl,hz,q⟩:=h;obtain⟨t,rfl⟩:=rx;refine⟨"str",_,F.slot_str_getitem.lookup,typeIs_str _ _ _,?_⟩;obtain⟨o,ho,hc,hd⟩:=hs;cases pl with
 |none=>
  cases pu with
  |none=>exact wpAny_getItem_str_slice (l:=none) (u:=none) (st:=none) ⟨o,ho,hc,hd⟩ rfl (post_val_or_str ⟨il (Txt.slice_le z _ _) hz,λt' k=>⟨.str _,H,I.tok _,⟨_,rfl⟩,q⟩⟩)
  |int j tj=>exact wpAny_getItem_str_slice (l:=none) (u:=some (j,tj)) (st:=none) ⟨o,ho,hc,hd⟩ rfl (post_val_or_str ⟨il (Txt.slice_le z _ _) hz,λt' k=>⟨.str _,H,I.tok _,⟨_,rfl⟩,q⟩⟩)
 |int i ti=>
  cases pu with
  |none=>exact wpAny_getItem_str_slice (l:=some (i,ti)) (u:=none) (st:=none) ⟨o,ho,hc,hd⟩ rfl (post_val_or_str ⟨il (Txt.slice_le z _ _) hz,λt' k=>⟨.str _,H,I.tok _,⟨_,rfl⟩,q⟩⟩)
  |int j tj=>exact wpAny_getItem_str_slice (l:=some (i,ti)) (u:=some (j,tj)) (st:=none) ⟨o,ho,hc,hd⟩ rfl (post_val_or_str ⟨il (Txt.slice_le z _ _) hz,λt' k=>⟨.str _,H,I.tok _,⟨_,rfl⟩,q⟩⟩)
theorem qH:eQ X (compareOp .IsNot) (λx y H Q=>∃a b,x=.bl a/\y=.bl b/\Q (.bl (a != b)) H):=by
 intro ae s σ H x y v u Q I rx ry h;obtain⟨a,b,rfl,rfl,q⟩:=h;cases rx;cases ry;exact isnot_bool (gO I q rfl)
theorem qI:cQ X (.builtin "isinstance") (λxs H Q=>∃x T t b,xs=[x,.ty T]/\iu X.K H x t/\gG X.K t (.type T)=some b/\Q (.bl b) H):=by
 intro ae s σ H xs us Q I r h;obtain⟨x,T,t,b,rfl,ty,e,q⟩:=h;obtain⟨u,u',rfl,ru,N4⟩:=vals2 r;cases N4;exact nN I ru ty e λtk=>⟨.bl b,H,I.tok _,rfl,q⟩
theorem lE{ks:Ee}{av:B2}(r:Vals (ks.map V.bl) av)(A:Around):TruthOf X.prog X.w A (λi v=>av.toArray[i]?=some v) (λi=>ks.getD i true):=by
 intro i v s Q E hv hQ;have hv:av[i]?=some v:=by simpa using hv
 have hi:i<ks.length:=by
  have h1:=(eT.mp hv).1;have h2:=r.length;rw[dB]at h2;omega
 obtain⟨u,e,ru⟩:=r.get (i:=i) (x:=.bl ks[i]) (by rw[fk,eM hi];rfl)
 rw[hv]at e;cases e;cases ru;have g:ks.getD i true=ks[i]:=by rw[CO,eM hi];rfl
 have hQ:Q (ks.getD i true) s:=hQ;rw[g]at hQ;exact wpAny_truthy_bool hQ
theorem range_all(ks:Ee):(cD ks.length).all (λi=>ks.getD i true)=ks.all id:=by
 induction ks with
 |nil=>rfl
 |cons k ks ih=>
  rw[cT,zb,c_,GA,c_,<- ih];rfl
theorem range_any(ks:Ee):(cD ks.length).any (λi=>ks.getD i true)=ks.any id:=by
 induction ks with
 |nil=>rfl
 |cons k ks ih=>
  rw[cT,zb,mT,GC,mT,<- ih];rfl
theorem z_(hc:X.calm=true):cQ X (.builtin "all") (λxs H Q=>∃(p:Addr)(ks:Ee),xs=[.ref p]/\bW X.K H p (ks.map V.bl)/\Q (.bl (ks.all id)) H):=by
 intro ae s σ H xs us Q I r h;obtain⟨p,ks,rfl,hp,q⟩:=h;obtain⟨u,rfl,ru⟩:=vals1 r;cases ru;obtain⟨av,rv,pl,hz⟩:=I.list hp;have cM:=rv.length;rw[dB]at cM;refine call_all_walk (wpAny_pyIter_list pl.isList ?_);have gR:p≠s.heap.objs.size:=let⟨_,e,_⟩:=pl.isList;cL (Heap.lt_size e);refine⟨s.heap.objs.size,_,[s.heap.objs.size],av.toArray.size,_,_,λi=>ks.getD i true,rfl,Walks.list (show X.A.in1.handled=none from I.ok.hd hc) s.heap.objs.size p gR av.toArray,⟨⟨_,Heap.get?_push_size _ rfl,rfl,rfl⟩,Heap.IsList.push pl.isList _⟩,lE rv _,λh' tk kk=>?_⟩;rw[eU,<- cM,range_all];refine⟨.bl _,H,?_,rfl,q⟩;refine I.kept λb o e=>kk b o (λz=>?_) (Heap.get?_push_of_some _ e);have hb:b=s.heap.objs.size:=by simpa using z
 rw[hb]at e;exact mS _ (Heap.lt_size e)
theorem Aa(hc:X.calm=true):cQ X (.builtin "any") (λxs H Q=>∃(p:Addr)(ks:Ee),xs=[.ref p]/\bW X.K H p (ks.map V.bl)/\Q (.bl (ks.any id)) H):=by
 intro ae s σ H xs us Q I r h;obtain⟨p,ks,rfl,hp,q⟩:=h;obtain⟨u,rfl,ru⟩:=vals1 r;cases ru;obtain⟨av,rv,pl,hz⟩:=I.list hp;have cM:=rv.length;rw[dB]at cM;refine call_any_walk (wpAny_pyIter_list pl.isList ?_);have gR:p≠s.heap.objs.size:=let⟨_,e,_⟩:=pl.isList;cL (Heap.lt_size e);refine⟨s.heap.objs.size,_,[s.heap.objs.size],av.toArray.size,_,_,λi=>ks.getD i true,rfl,Walks.list (show X.A.in1.handled=none from I.ok.hd hc) s.heap.objs.size p gR av.toArray,⟨⟨_,Heap.get?_push_size _ rfl,rfl,rfl⟩,Heap.IsList.push pl.isList _⟩,lE rv _,λh' tk kk=>?_⟩;rw[eU,<- cM,range_any];refine⟨.bl _,H,?_,rfl,q⟩;refine I.kept λb o e=>kk b o (λz=>?_) (Heap.get?_push_of_some _ e);have hb:b=s.heap.objs.size:=by simpa using z
 rw[hb]at e;exact mS _ (Heap.lt_size e)
theorem j5:∀{xs:List V}{us:B2},xs.length=us.length->(∀(i:Nat)x u,xs[i]?=some x->us[i]?=some u->RelV x u)->Vals xs us
 |[],[],_,_=>.nil
 |[],_::_,h,_=>by simp at h
 |_::_,[],h,_=>by simp at h
 |x::xs,u::us,h,k=>.cons (k 0 x u rfl rfl) (j5 (by simpa using h) λi y w h1 h2=>k (i+1) y w (by simpa using h1) (by simpa using h2))
theorem xn:cQ X (.type "range") (λxs H Q=>∃j,xs=[.int j]/\∀p,H p=none->Q (.ref p) (upd H p (.mK 0 j))):=by
 intro ae s σ H xs us Q I r h;obtain⟨j,rfl,q⟩:=h;obtain⟨u,rfl,⟨t,rfl⟩⟩:=vals1 r;refine call_range_1 ⟨.ref s.heap.objs.size,_,I.laid (o:=.mK 0 j) (λb o e=>Heap.get?_push_of_some _ e) (cC _) ⟨_,_,_,Heap.get?_push_size _ rfl⟩,rfl,q _ I.fresh⟩
theorem nj(hc:X.calm=true):cQ X (.type "list") (λxs H Q=>∃p hi,xs=[.ref p]/\H p=some (.mK 0 hi)/\0<=hi/\hi<=2^20/\∀l,H l=none->Q (.ref l) (upd H l (.lst ((cD hi.toNat).map λk=>V.int (k:Nat))))):=by
 intro ae s σ H xs us Q I r h;obtain⟨p,hi,rfl,hp,h0,h1,q⟩:=h;obtain⟨u,rfl,ru⟩:=vals1 r;cases ru;obtain⟨t,u,v,e⟩:=I.aV p _ hp;refine call_list_range (I.ok.hd hc) (a:=0) (b:=hi) (c:=1) (n:=hi.toNat) e (small_one (by omega) (by omega) (by omega) (by omega)) (by rw[rangeSize_one];split<;>omega) (by omega) λh' tk eG c' hk hl hit=>?_
 obtain⟨hsz,hit⟩:=hit;refine⟨.ref s.heap.objs.size,_,I.laid (o:=.lst ((cD hi.toNat).map λk=>V.int (k:Nat))) (λb o e=>hk b o e) (cC _) ⟨?_,eG.toList,c',?_,by simpa using hl⟩,rfl,q _ I.fresh⟩
 ·rw[dB,oY,sizeLine_eq];omega
 ·refine j5 (by rw[dB,oY,Array.length_toList,hsz]) λi x u hx hu=>?_
  have Yg:i<hi.toNat:=by
   have:=(eT.mp hx).1
   rw[dB,oY]at this;exact this
  rw[fk,za Yg]at hx;cases hx;obtain⟨t,rfl⟩:=hit i u (by simpa using hu)
  exact⟨t,by congr 1;omega⟩
end
end L2
namespace K41
open PySem L2
noncomputable abbrev top(i:Nat):Stmt:=PySem.Challenge.pw_rowblade_k41_rows_of_pieces.main.body.getD i (.Pass ⟨0,0,0,0⟩)
end K41
noncomputable section
namespace KH
open PySem PySem.W PySem.Calls PyProof.Rows L2 K41
abbrev pw:Program:=PySem.Challenge.pw_rowblade_k41_rows_of_pieces
noncomputable abbrev r(a:Nat):Value:=.ref a
noncomputable abbrev O(c:Value)(d:Option Addr)(x:Data)(s:List D1):Obj:=⟨c,d,x,⟨s⟩⟩
abbrev W:=Params->Obj
abbrev Z:=Str×Nat×Value
noncomputable abbrev D(P:Params)(e:Z):DictEntry:=⟨PyData.keyHash P e.1,.str e.1 e.2.1,e.2.2⟩
abbrev fN(n q:Str)(s:Stmt)(g:Addr)(cl:List (Str×Addr))(dv kv doc pm:Value)(an:Option Addr)(cd ct:Value)(b:Addr):FuncData:=⟨n,q,jg s,.stmts (bF s),au s,g,cl,dv,kv,doc,pm,an,cd,ct,b⟩
abbrev C(n q:Str)(t u L a b c g:Nat)(x:Addr)(B:Bool)(y:Addr)(k l m o:Value):W:=λ_=>O (.type "code") none (.fields ⟨[.str n t,.str q (t+1),.str "/claim/cut.py" (t+2),.int (kq L) 0,.int (kq a) 0,.int (kq b) 0,.int (kq c) 0,.int (kq g) 0,r x,.bool B,.int (kq 181) 0,r y,k,l,m,o,.int (kq u) 0,.int (kq L) 0,.str "/claim/cut.py" (u+1)]⟩) []
abbrev cf(n q:Str)(t u L a x:Nat):W:=C n q t u L a 0 0 3 x true (x+1) .none (r (x+2)) (r (x+3)) (r (x+4))
abbrev cg(n:Str)(t u L a x:Nat):W:=cf n n t u L a x
abbrev cc(n:Str)(t L x:Nat):W:=C n n t (t+3) L 0 0 0 0 x false (x+1) .none .none .none .none
abbrev lt(b:Nat)(l:List (Nat×Nat)):W:=λ_=>O .none none (.fields ⟨(l.map λp=>[.int (kq p.1) 0,.int (kq b) 0,r p.2]).flatten⟩) []
abbrev fO(n q:Str)(s:Stmt)(m:Value)(c:Nat):W:=λ_=>O (.type "function") none (.func (fN n q s 3 [] .none .none .none m none (r c) .none 0)) []
abbrev fn(n q:Str)(s:Stmt):W:=λ_=>O .none none (.func (fN n q s 0 [] .none .none .none .none none .none .none 0)) []
def sS:Nat->Bi->B2
 |_,[]=>[]
 |k,x::l=>.str x k::sS (k+1) l
abbrev tS(k:Nat)(l:Bi):W:=λ_=>O (.type "tuple") none (.seq ⟨sS k l⟩ 0) []
abbrev tV(l:B2):W:=λ_=>O (.type "tuple") none (.seq ⟨l⟩ 0) []
abbrev di(n:Nat)(l:List Z):W:=λP=>O (.type "dict") none (.dict ⟨l.map (D P)⟩ n) []
abbrev c1(m:Value)(b:Nat)(q:Str)(L:Nat)(xs:List Z)(st sr n:Nat):W:=di n (("__module__",b,m)::("__qualname__",b+2,.str q (b+1))::("__firstlineno__",b+4,.int (kq L) (b+3))::(xs.append [("__static_attributes__",st,r sr)]))
abbrev c2(m:Value)(b L:Nat)(xs:List Z)(st sr:Nat)(ys:List Z)(dt n:Nat):W:=di n (("__module__",b,m)::("__firstlineno__",b+4,.int (kq L) (b+3))::(xs.append (("__static_attributes__",st,r sr)::(ys.append [("__doc__",dt,.none)]))))
abbrev cG(n:Str)(bs mr:B2)(d:Nat)(su:B2)(h:D1)(t:Nat)(nw:String):W:=λ_=>O (.type "type") none (.cls ⟨n,bs,mr,d,n,true,[],su,false,none,false⟩) [h,none,some (.str n t),some (.str n (t+8)),some (.builtin nw),some (.bool true)]
abbrev ob:Value:=.type "object"
abbrev cB(n:Str)(d b:Nat)(su:B2)(h t:Nat):W:=cG n [r b] [r (d+1),r b,ob] d su (some (r h)) t "object.__new__"
abbrev c0(n:Str)(d:Nat)(su:B2)(t:Nat):W:=cG n [ob] [r (d+1),ob] d su none t "object.__new__"
abbrev fr(c l:Nat)(m:Value):W:=λ_=>O (.type "frame") none .plain [some (r c),some (r 3),some (r l),none,some m,none,some (r 0)]
abbrev is(c:Nat):W:=λ_=>O (.type "builtin_function_or_method") none (.fields ⟨[.builtin "object.__init_subclass__",r c]⟩) []
abbrev su(c:Nat):W:=λ_=>O (.type "super") none (.fields ⟨[r c,r c,r c]⟩) []
noncomputable abbrev gd(t c:Nat):W:=λ_=>O (.type "getset_descriptor") none (.fields ⟨[.str "__dict__" t,r c,.builtin "function.__dict__",.builtin "function.__dict__#set"]⟩) []
abbrev gw(t c:Nat):W:=λ_=>O (.type "getset_descriptor") none (.fields ⟨[.str "__weakref__" t,r c,.builtin "ExceptionGroup.__weakref__",.none]⟩) []
noncomputable abbrev N(o:Params->Obj)(l r:Params->BT):Params->BT:=λP=>.node (o P) (l P) (r P)
noncomputable abbrev E:Params->BT:=λ_=>.nil
abbrev L(o:Params->Obj):Params->BT:=N o E E
abbrev m0:Value:=.str "__main__" 164
abbrev m1:Value:=.str "rowblade.errors" 187
abbrev m2:Value:=.str "rowblade.lines" 373
abbrev m3:Value:=.str "rowblade.signs" 924
abbrev m4:Value:=.str "rowblade.patterns" 947
abbrev m5:Value:=.str "rowblade.stretches" 1075
abbrev m6:Value:=.str "rowblade.truths" 1133
abbrev m7:Value:=.str "rowblade.pieces" 1248
abbrev m8:Value:=.str "rowblade.walker" 1298
abbrev m9:Value:=.str "rowblade.blade" 1522
abbrev kM:Value:=.str "rowblade.linereading" 1633
abbrev Yh:Value:=.str "rowblade.rows" 1851
abbrev RS:Value:=.str "rowblade.reading" 1861
abbrev Hd:Value:=.str "law_rowblade_k41_rows_of_pieces" 1904
abbrev d0:List Z:=[("__doc__",166,.none),("__package__",167,.none),("__loader__",168,(.builtin "__main__.__loader__#opaque")),("__spec__",169,.none),("__annotations__",170,(r 6)),("__builtins__",171,(r 4)),("__file__",173,(.str "/claim/cut.py" 172)),("__cached__",174,.none),("BladeError",206,(r 24)),("NoPattern",222,(r 37)),("NotThat",238,(r 49)),("NotWoven",254,(r 61)),("Finished",270,(r 73))]
noncomputable abbrev l0:List (Nat×Nat):=[(2,20),(4,33),(6,45),(8,57),(10,69)]
abbrev d1:=d0.append [("NoLine",295,(r 92)),("TwoMarks",320,(r 111)),("NoMark",345,(r 130)),("Endless",372,(r 149))]
abbrev l1:=l0++[(12,81),(16,100),(20,119),(24,138)]
abbrev d2:=d1.append [("Program",403,(r 168)),("Line",434,(r 189)),("Cond",454,(r 203)),("Always",470,(r 217)),("RowIs",495,(r 236))]
abbrev l2:=l1++[(30,157),(34,178),(39,199),(41,213),(43,225)]
abbrev d3:=d2.append [("Last",511,(r 248)),("Like",536,(r 267)),("Soon",563,(r 286)),("FromTo",590,(r 305)),("Not",615,(r 324))]
abbrev l3:=l2++[(47,244),(49,256),(53,275),(58,294),(63,313)]
abbrev d4:=d3.append [("End",631,(r 336)),("Deed",651,(r 348)),("Mark",676,(r 369)),("Drop",692,(r 381)),("Print",708,(r 393))]
abbrev l4:=l3++[(67,332),(69,344),(71,358),(75,377),(77,389)]
abbrev d5:=d4.append [("Done",724,(r 405)),("Say",749,(r 424)),("Swap",778,(r 443)),("Join",803,(r 462)),("Pile",830,(r 481))]
abbrev l5:=l4++[(79,401),(81,413),(85,432),(91,451),(95,470)]
abbrev d6:=d5.append [("Bring",855,(r 500)),("Go",880,(r 519)),("Add",907,(r 538)),("Tell",923,(r 550)),("SIGNS",927,(.str "abcdefghijklmnopqrstuvwxyzABCDEFGHIJKLMNOPQRSTUVWXYZ0123456789 !\"#$&'()*+,-./:;<=>?\x40[\\]^_`{|}~" 926)),("SMALL_LETTERS",929,(.str "abcdefghijklmnopqrstuvwxyz" 928)),("FIGURES",931,(.str "0123456789" 930)),("made_of",937,(r 557)),("beginning_of",946,(r 564)),("MOST_ITEMS",950,(.int (8) 949)),("MOST_SIGNS",952,(.int (12) 951)),("NEVER_PLAIN",954,(.str "^$.[]*+?/" 953)),("NEVER_IN_A_SET",956,(.str "]^/" 955)),("ONCE",958,(.str "1" 957)),("HOW_MANY",960,(.str "*+?" 959)),("may_stand_plain",967,(r 571)),("pattern",978,(r 578))]
abbrev l6:=l5++[(100,489),(104,508),(108,527),(113,546),(119,556),(121,563),(133,570),(135,577)]
abbrev d7:=d6.append [("items_of",989,(r 585)),("place_behind_core",998,(r 592)),("many_at",1006,(r 599)),("item_of",1014,(r 606)),("set_item",1020,(r 611)),("is_written_plain",1028,(r 618)),("written",1039,(r 625)),("written_core",1047,(r 632)),("may_be_empty",1054,(r 639)),("least_length",1060,(r 644)),("may_be_left_out",1067,(r 651)),("may_come_again",1074,(r 658)),("NOWHERE",1079,(.int (-1) 1078)),("stretch",1091,(r 666)),("found",1099,(r 673)),("greatest_ends",1109,(r 680)),("ends_behind_items",1117,(r 687)),("ends_with_item",1132,(r 694)),("TextRow",1175,(r 718)),("Truths",1231,(r 756)),("holds",1239,(r 767)),("is_row_up_to",1247,(r 774))]
abbrev l7:=l6++[(147,584),(156,591),(163,598),(167,605),(175,610),(187,617),(189,624),(196,631),(204,638),(206,643),(208,650),(210,657),(214,665),(220,672),(222,679),(227,686),(231,693),(245,700),(257,728),(288,766),(294,773)]
abbrev d8:=d7.append [("MOST_FIGURES_pieces",1251,(.int (60) 1250)),("first_swapped",1261,(r 781)),("every_swapped",1274,(r 788)),("words_of",1280,(r 793)),("word_of",1289,(r 800)),("number_of",1297,(r 807)),("Walker",1505,(r 962)),("given_in",1511,(r 971)),("numbers_of_marks",1521,(r 978)),("ahead",1529,(r 983)),("rows_seen_by",1536,(r 990))]
abbrev l8:=l7++[(298,780),(303,787),(316,792),(318,799),(323,806),(329,813),(483,970),(485,977),(492,982),(494,989)]
abbrev d9:=d8.append [("Blade",1632,(r 1063)),("COND_BEGINNINGS",1642,(r 1068)),("MOST_ROW",1644,(.int (999) 1643)),("MOST_FIGURES_linereading",1646,(.int (3) 1645)),("MOST_SOON",1648,(.int (3) 1647)),("LEAST_JOIN",1650,(.int (2) 1649)),("MOST_SMALL",1652,(.int (9) 1651)),("MOST_LETTERS",1654,(.int (8) 1653)),("MOST_TEXT",1656,(.int (40) 1655)),("Scan",1729,(r 1120)),("line_of",1739,(r 1131)),("line_next",1745,(r 1136)),("cond_next",1752,(r 1143)),("plain_cond_next",1761,(r 1150)),("row_or_pattern_next",1768,(r 1157)),("deed_next",1775,(r 1164)),("swap_next",1784,(r 1171)),("pile_next",1792,(r 1178))]
abbrev l9:=l8++[(502,996),(560,1074),(592,1130),(598,1135),(606,1142),(612,1149),(624,1156),(628,1163),(653,1170),(657,1177)]
abbrev Yi:=d9.append [("add_next",1800,(r 1185)),("number_next",1811,(r 1192)),("name_next",1819,(r 1199)),("words_next",1827,(r 1206)),("pattern_next",1835,(r 1213)),("may_stand",1843,(r 1220)),("may_swap",1850,(r 1227)),("cut",1860,(r 1234)),("MOST_LINES",1864,(.int (24) 1863)),("read",1873,(r 1241)),("lines_of",1883,(r 1248)),("marks_of",1893,(r 1255)),("refuse_go_without_mark",1903,(r 1262)),("_law_whole",1912,(r 1269)),("_law_sign",1921,(r 1276)),("_law_piece",1933,(r 1283)),("_law_cut",1943,(r 1290)),("_law_rows",1949,(r 1295)),("_law_refused",1959,(r 1302)),("_law_named",1967,(r 1309)),("law",1973,(r 1314))]
abbrev Yj:=l9++[(662,1184),(666,1191),(674,1198),(679,1205),(684,1212),(690,1219),(696,1226),(701,1233),(708,1240),(713,1247),(720,1254),(728,1261),(733,1268),(735,1275),(741,1282),(751,1289),(760,1294),(762,1301),(774,1308),(781,1313)]
abbrev bJ:=tV []
abbrev i6:W:=λP=>O .none none (.fields ⟨[]⟩) []
abbrev gk:W:=λP=>O (.type "builtin_function_or_method") none (.fields ⟨[(.builtin "type.__prepare__"),(.type "type")]⟩) []
abbrev Hf:=tV [(r 24)]
abbrev qJ:=tV [(r 203)]
abbrev kB:=tV [(r 348)]
abbrev Th:W:=λP=>O (.type "function") none (.func (fN "stretch" "stretch" (top 64) 3 [] (r 659) .none .none (.str "rowblade.stretches" 1075) none (r 665) .none 0)) []
def od:List W->List W
 |[]=>[]
 |x::r=>x::(match r with
  |[]=>[]
  |_::r=>od r)
def br:Nat->List W->Params->BT
 |0,_,_=>.nil
 |n+1,l,P=>(match l with
  |[]=>.nil
  |x::r=>.node (x P) (br n (od r) P) (br n (od r.tail) P))
def ov:List W->Nat->Nat->List (Nat×W)->List W
 |[],_,_,_=>[]
 |x::l,i,n,q=>(match n.beq i with
  |true=>[]
  |false=>(match q with
   |[]=>x::ov l (i+1) n []
   |y::r=>(match y.1.beq i with
    |true=>y.2::ov l (i+1) n r
    |false=>x::ov l (i+1) n q)))
abbrev Wh:List Z:=[("__init__",1155,(r 708)),("has",1164,(r 715))]
abbrev Wi:List Z:=[("__init__",1193,(r 734)),("told_of",1205,(r 741)),("truth",1211,(r 746)),("truth_of_stretch",1221,(r 753))]
abbrev Wj:List Z:=[("__init__",1319,(r 821)),("want",1326,(r 828)),("take",1335,(r 835)),("take_with",1344,(r 842)),("go_on",1351,(r 849)),("meet",1361,(r 856)),("hand_over",1369,(r 863)),("finish",1377,(r 870)),("find_none",1384,(r 877)),("give",1392,(r 884)),("end_turn",1399,(r 891)),("give_hand_and_end",1406,(r 898)),("do",1415,(r 905)),("do_giving",1423,(r 912)),("do_swap",1431,(r 919)),("do_join",1439,(r 926)),("do_pile",1448,(r 933)),("do_bring",1457,(r 940)),("rows_on_shelves",1463,(r 945)),("do_add",1475,(r 952)),("do_tell",1483,(r 959))]
abbrev Wk:List Z:=[("__init__",1556,(r 1004)),("feed",1566,(r 1011)),("finish",1573,(r 1018)),("refuse_once_finished",1580,(r 1025)),("come",1588,(r 1032)),("take_all_but",1597,(r 1039)),("boxes",1604,(r 1046)),("faults",1611,(r 1053)),("kept",1618,(r 1060))]
abbrev Wl:List Z:=[("__init__",1677,(r 1082)),("refuse",1684,(r 1089)),("passes",1692,(r 1096)),("must_pass",1700,(r 1103)),("while_made_of",1709,(r 1110)),("between",1719,(r 1117))]
abbrev Hg(s0:Str)(n1 n2 n3:Nat):List W:=[cG s0 [(r 24)] [(r (n2+1)),(r 24),(.type "ValueError"),(.type "Exception"),(.type "BaseException"),(.type "object")] n2 [] (some (r n1)) n3 "ValueError.__new__",su (n2+1),is (n2+1)]
abbrev c7(s1 s2:Str)(n4 n5 n6 n7 n8 n9:Nat)(l0:Bi)(m3:Value):List W:=[bJ,i6,tS (n9+3) l0,bJ,fn s1 s2 (inClass (top n6) n5),cf s1 s2 n9 (n9+l0.length+3) n7 n4 n8,fO s1 s2 (inClass (top n6) n5) m3 (n8+5)]
abbrev Jv(s0:Str)(n1 n2 n3:Nat):List W:=[c0 s0 n1 [] n2,gd n3 (n1+1),gw (n3+2) (n1+1),su (n1+1),is (n1+1)]
abbrev nW(s0:Str)(n1 n2 n3 n4:Nat):List W:=[cB s0 n3 n1 [] n2 n4,su (n3+1),is (n3+1)]
abbrev dN(s1:Str)(n3 n4 n5 n6 n7:Nat)(l0:Bi)(m2:Value):List W:=[bJ,i6,tS (n7+3) l0,bJ,fn s1 s1 (top n4),cg s1 n7 (n7+l0.length+3) n5 n3 n6,fO s1 s1 (top n4) m2 (n6+5)]
abbrev a0:List W:=ko [[boot_o_0,boot_o_1,boot_o_2,di 127 (("__name__",165,(.str "law_rowblade_k41_rows_of_pieces" 1904))::Yi),boot_o_4,boot_o_5,boot_o_6,boot_o_7,boot_o_8,boot_o_9,boot_o_10,bJ,lt 0 Yj,cc "<module>" 182 1 11,fr 13 3 m0,tV [(.type "ValueError")],gk,c1 m1 196 "BladeError" 2 [] 201 22 4,bJ,i6,cc "BladeError" 191 2 18,fr 20 17 m1,bJ,c2 m1 196 2 [] 201 22 [("__weakref__",203,(r 25))] 204 3,cG "BladeError" [(.type "ValueError")] [(r 24),(.type "ValueError"),(.type "Exception"),(.type "BaseException"),(.type "object")] 23 [(r 37),(r 49),(r 61),(r 73),(r 92),(r 111),(r 130),(r 149)] (some (r 15)) 189 "ValueError.__new__",gw 202 24,su 24,is 24,Hf,gk,c1 m1 214 "NoPattern" 4 [] 219 35 4,bJ,i6,cc "NoPattern" 209 4 31,fr 33 30 m1,bJ,c2 m1 214 4 [] 219 35 [] 220 2],Hg "NoPattern" 28 36 207,[Hf,gk,c1 m1 230 "NotThat" 6 [] 235 47 4,bJ,i6,cc "NotThat" 225 6 43,fr 45 42 m1,bJ,c2 m1 230 6 [] 235 47 [] 236 2],Hg "NotThat" 40 48 223,[Hf,gk,c1 m1 246 "NotWoven" 8 [] 251 59 4,bJ,i6,cc "NotWoven" 241 8 55,fr 57 54 m1,bJ,c2 m1 246 8 [] 251 59 [] 252 2],Hg "NotWoven" 52 60 239,[Hf,gk,c1 m1 262 "Finished" 10 [] 267 71 4,bJ,i6,cc "Finished" 257 10 67,fr 69 66 m1,bJ,c2 m1 262 10 [] 267 71 [] 268 2],Hg "Finished" 64 72 255,[Hf,gk,c1 m1 278 "NoLine" 12 [("__init__",290,(r 89))] 292 90 5,bJ,lt 4 [(14,88)],cc "NoLine" 273 12 79,fr 81 78 m1],c7 "__init__" "NoLine.__init__" 2 0 6 14 83 283 ["self","row"] m1,[tS 291 ["row"],c2 m1 278 12 [("__init__",290,(r 89))] 292 90 [] 293 2],Hg "NoLine" 76 91 271,[Hf,gk,c1 m1 303 "TwoMarks" 16 [("__init__",315,(r 108))] 317 109 5,bJ,lt 4 [(18,107)],cc "TwoMarks" 298 16 98,fr 100 97 m1],c7 "__init__" "TwoMarks.__init__" 2 0 7 18 102 308 ["self","row"] m1,[tS 316 ["row"]]]
abbrev a1:List W:=ko [[c2 m1 303 16 [("__init__",315,(r 108))] 317 109 [] 318 2],Hg "TwoMarks" 95 110 296,[Hf,gk,c1 m1 328 "NoMark" 20 [("__init__",340,(r 127))] 342 128 5,bJ,lt 4 [(22,126)],cc "NoMark" 323 20 117,fr 119 116 m1],c7 "__init__" "NoMark.__init__" 2 0 8 22 121 333 ["self","row"] m1,[tS 341 ["row"],c2 m1 328 20 [("__init__",340,(r 127))] 342 128 [] 343 2],Hg "NoMark" 114 129 321,[Hf,gk,c1 m1 353 "Endless" 24 [("__init__",366,(r 146))] 369 147 5,bJ,lt 4 [(26,145)],cc "Endless" 348 24 136,fr 138 135 m1],c7 "__init__" "Endless.__init__" 3 0 9 26 140 358 ["self","row","line"] m1,[tS 367 ["line","row"],c2 m1 353 24 [("__init__",366,(r 146))] 369 147 [] 370 2],Hg "Endless" 133 148 346,[bJ,gk,c1 m2 382 "Program" 30 [("__init__",394,(r 165))] 396 166 5,bJ,lt 4 [(32,164)],cc "Program" 377 30 155,fr 157 154 m2],c7 "__init__" "Program.__init__" 2 0 11 32 159 387 ["self","lines"] m2,[tS 395 ["lines"],c2 m2 382 30 [("__init__",394,(r 165))] 396 166 [("__dict__",398,(r 169)),("__weakref__",400,(r 170))] 401 4],Jv "Program" 167 375 397,[bJ,gk,c1 m2 411 "Line" 34 [("__init__",424,(r 186))] 427 187 5,bJ,lt 4 [(36,185)],cc "Line" 406 34 176,fr 178 175 m2],c7 "__init__" "Line.__init__" 3 0 12 36 180 416 ["self","cond","deed"] m2,[tS 425 ["cond","deed"],c2 m2 411 34 [("__init__",424,(r 186))] 427 187 [("__dict__",429,(r 190)),("__weakref__",431,(r 191))] 432 4],Jv "Line" 188 404 428,[bJ,gk,c1 m2 442 "Cond" 39 [] 447 201 4,bJ,i6,cc "Cond" 437 39 197,fr 199 196 m2,bJ,c2 m2 442 39 [] 447 201 [("__dict__",449,(r 204)),("__weakref__",451,(r 205))] 452 4,c0 "Cond" 202 [(r 217),(r 236),(r 248),(r 267),(r 286),(r 305),(r 324),(r 336)] 435,gd 448 203,gw 450 203,su 203,is 203,qJ,gk,c1 m2 462 "Always" 41 [] 467 215 4,bJ,i6,cc "Always" 457 41 211,fr 213 210 m2,bJ,c2 m2 462 41 [] 467 215 [] 468 2],nW "Always" 203 208 216 455]
abbrev a2:List W:=ko [[qJ,gk,c1 m2 478 "RowIs" 43 [("__init__",490,(r 233))] 492 234 5,bJ,lt 4 [(45,232)],cc "RowIs" 473 43 223,fr 225 222 m2],c7 "__init__" "RowIs.__init__" 2 0 15 45 227 483 ["self","number"] m2,[tS 491 ["number"],c2 m2 478 43 [("__init__",490,(r 233))] 492 234 [] 493 2],nW "RowIs" 203 220 235 471,[qJ,gk,c1 m2 503 "Last" 47 [] 508 246 4,bJ,i6,cc "Last" 498 47 242,fr 244 241 m2,bJ,c2 m2 503 47 [] 508 246 [] 509 2],nW "Last" 203 239 247 496,[qJ,gk,c1 m2 519 "Like" 49 [("__init__",531,(r 264))] 533 265 5,bJ,lt 4 [(51,263)],cc "Like" 514 49 254,fr 256 253 m2],c7 "__init__" "Like.__init__" 2 0 17 51 258 524 ["self","pattern"] m2,[tS 532 ["pattern"],c2 m2 519 49 [("__init__",531,(r 264))] 533 265 [] 534 2],nW "Like" 203 251 266 512,[qJ,gk,c1 m2 544 "Soon" 53 [("__init__",557,(r 283))] 560 284 5,bJ,lt 4 [(55,282)],cc "Soon" 539 53 273,fr 275 272 m2],c7 "__init__" "Soon.__init__" 3 0 18 55 277 549 ["self","many","pattern"] m2,[tS 558 ["many","pattern"],c2 m2 544 53 [("__init__",557,(r 283))] 560 284 [] 561 2],nW "Soon" 203 270 285 537,[qJ,gk,c1 m2 571 "FromTo" 58 [("__init__",584,(r 302))] 587 303 5,bJ,lt 4 [(60,301)],cc "FromTo" 566 58 292,fr 294 291 m2],c7 "__init__" "FromTo.__init__" 3 0 19 60 296 576 ["self","first","second"] m2,[tS 585 ["first","second"],c2 m2 571 58 [("__init__",584,(r 302))] 587 303 [] 588 2],nW "FromTo" 203 289 304 564,[qJ,gk,c1 m2 598 "Not" 63 [("__init__",610,(r 321))] 612 322 5,bJ,lt 4 [(65,320)],cc "Not" 593 63 311,fr 313 310 m2],c7 "__init__" "Not.__init__" 2 0 20 65 315 603 ["self","inner"] m2,[tS 611 ["inner"],c2 m2 598 63 [("__init__",610,(r 321))] 612 322 [] 613 2],nW "Not" 203 308 323 591,[qJ,gk,c1 m2 623 "End" 67 [] 628 334 4]]
abbrev a3:List W:=ko [[bJ,i6,cc "End" 618 67 330,fr 332 329 m2,bJ,c2 m2 623 67 [] 628 334 [] 629 2],nW "End" 203 327 335 616,[bJ,gk,c1 m2 639 "Deed" 69 [] 644 346 4,bJ,i6,cc "Deed" 634 69 342,fr 344 341 m2,bJ,c2 m2 639 69 [] 644 346 [("__dict__",646,(r 349)),("__weakref__",648,(r 350))] 649 4,c0 "Deed" 347 [(r 369),(r 381),(r 393),(r 405),(r 424),(r 443),(r 462),(r 481),(r 500),(r 519),(r 538),(r 550)] 632,gd 645 348,gw 647 348,su 348,is 348,kB,gk,c1 m2 659 "Mark" 71 [("__init__",671,(r 366))] 673 367 5,bJ,lt 4 [(73,365)],cc "Mark" 654 71 356,fr 358 355 m2],c7 "__init__" "Mark.__init__" 2 0 23 73 360 664 ["self","name"] m2,[tS 672 ["name"],c2 m2 659 71 [("__init__",671,(r 366))] 673 367 [] 674 2],nW "Mark" 348 353 368 652,[kB,gk,c1 m2 684 "Drop" 75 [] 689 379 4,bJ,i6,cc "Drop" 679 75 375,fr 377 374 m2,bJ,c2 m2 684 75 [] 689 379 [] 690 2],nW "Drop" 348 372 380 677,[kB,gk,c1 m2 700 "Print" 77 [] 705 391 4,bJ,i6,cc "Print" 695 77 387,fr 389 386 m2,bJ,c2 m2 700 77 [] 705 391 [] 706 2],nW "Print" 348 384 392 693,[kB,gk,c1 m2 716 "Done" 79 [] 721 403 4,bJ,i6,cc "Done" 711 79 399,fr 401 398 m2,bJ,c2 m2 716 79 [] 721 403 [] 722 2],nW "Done" 348 396 404 709,[kB,gk,c1 m2 732 "Say" 81 [("__init__",744,(r 421))] 746 422 5,bJ,lt 4 [(83,420)],cc "Say" 727 81 411,fr 413 410 m2],c7 "__init__" "Say.__init__" 2 0 27 83 415 737 ["self","words"] m2,[tS 745 ["words"],c2 m2 732 81 [("__init__",744,(r 421))] 746 422 [] 747 2],nW "Say" 348 408 423 725,[kB,gk,c1 m2 757 "Swap" 85 [("__init__",771,(r 440))] 775 441 5,bJ,lt 4 [(87,439)],cc "Swap" 752 85 430,fr 432 429 m2],c7 "__init__" "Swap.__init__" 4 0 28 87 434 762 ["self","pattern","words","every"] m2]
abbrev a4:List W:=ko [[tS 772 ["every","pattern","words"],c2 m2 757 85 [("__init__",771,(r 440))] 775 441 [] 776 2],nW "Swap" 348 427 442 750,[kB,gk,c1 m2 786 "Join" 91 [("__init__",798,(r 459))] 800 460 5,bJ,lt 4 [(93,458)],cc "Join" 781 91 449,fr 451 448 m2],c7 "__init__" "Join.__init__" 2 0 29 93 453 791 ["self","most"] m2,[tS 799 ["most"],c2 m2 786 91 [("__init__",798,(r 459))] 800 460 [] 801 2],nW "Join" 348 446 461 779,[kB,gk,c1 m2 811 "Pile" 95 [("__init__",824,(r 478))] 827 479 5,bJ,lt 4 [(97,477)],cc "Pile" 806 95 468,fr 470 467 m2],c7 "__init__" "Pile.__init__" 3 0 30 97 472 816 ["self","shelf","most"] m2,[tS 825 ["most","shelf"],c2 m2 811 95 [("__init__",824,(r 478))] 827 479 [] 828 2],nW "Pile" 348 465 480 804,[kB,gk,c1 m2 838 "Bring" 100 [("__init__",850,(r 497))] 852 498 5,bJ,lt 4 [(102,496)],cc "Bring" 833 100 487,fr 489 486 m2],c7 "__init__" "Bring.__init__" 2 0 31 102 491 843 ["self","shelf"] m2,[tS 851 ["shelf"],c2 m2 838 100 [("__init__",850,(r 497))] 852 498 [] 853 2],nW "Bring" 348 484 499 831,[kB,gk,c1 m2 863 "Go" 104 [("__init__",875,(r 516))] 877 517 5,bJ,lt 4 [(106,515)],cc "Go" 858 104 506,fr 508 505 m2],c7 "__init__" "Go.__init__" 2 0 32 106 510 868 ["self","name"] m2,[tS 876 ["name"],c2 m2 863 104 [("__init__",875,(r 516))] 877 517 [] 878 2],nW "Go" 348 503 518 856,[kB,gk,c1 m2 888 "Add" 108 [("__init__",901,(r 535))] 904 536 5,bJ,lt 4 [(110,534)],cc "Add" 883 108 525,fr 527 524 m2],c7 "__init__" "Add.__init__" 3 0 33 110 529 893 ["self","first","second"] m2,[tS 902 ["first","second"],c2 m2 888 108 [("__init__",901,(r 535))] 904 536 [] 905 2],nW "Add" 348 522 537 881,[kB,gk,c1 m2 915 "Tell" 113 [] 920 548 4,bJ,i6,cc "Tell" 910 113 544,fr 546 543 m2,bJ,c2 m2 915 113 [] 920 548 [] 921 2],nW "Tell" 348 541 549 908]
abbrev a5:List W:=ko [[bJ,i6,fn "made_of" "made_of" (top 39),C "made_of" "made_of" 932 935 119 2 0 0 3 553 true 554 .none .none .none (r 555),fO "made_of" "made_of" (top 39) m3 556],dN "beginning_of" 2 40 121 558 938 ["text","signs","many"] m3,dN "may_stand_plain" 1 48 133 565 961 ["sign"] m4,dN "pattern" 1 49 135 572 968 ["text","front","body","back","items"] m4,dN "items_of" 1 50 147 579 979 ["body","items","place","behind","many"] m4,dN "place_behind_core" 2 51 156 586 990 ["body","place","bracket"] m4,dN "many_at" 2 52 163 593 999 ["body","place"] m4,dN "item_of" 2 53 167 600 1007 ["core","many"] m4,[bJ,i6,fn "set_item" "set_item" (top 54),C "set_item" "set_item" 1015 1018 175 2 0 0 3 607 true 608 .none .none .none (r 609),fO "set_item" "set_item" (top 54) m4 610],dN "is_written_plain" 2 55 187 612 1021 ["signs","others"] m4,dN "written" 1 56 189 619 1029 ["one","parts","signs","others","many"] m4,dN "written_core" 2 57 196 626 1040 ["signs","others"] m4,dN "may_be_empty" 1 58 204 633 1048 ["one"] m4,[bJ,i6,fn "least_length" "least_length" (top 59),C "least_length" "least_length" 1055 1058 206 1 0 0 3 640 true 641 .none .none .none (r 642),fO "least_length" "least_length" (top 59) m4 643],dN "may_be_left_out" 1 60 208 645 1061 ["item"] m4,dN "may_come_again" 1 61 210 652 1068 ["item"] m4,[tV [(.int (0) 1080)],bJ,i6,tS 1084 ["one","row","start","ends","begin"]]]
abbrev a6:List W:=ko [[bJ,fn "stretch" "stretch" (top 64),cg "stretch" 1081 1089 214 3 660,Th],dN "found" 2 65 220 667 1092 ["one","row"] m5,dN "greatest_ends" 2 66 222 674 1100 ["one","row","ends","item"] m5,dN "ends_behind_items" 2 67 227 681 1110 ["row","back"] m5,dN "ends_with_item" 3 68 231 688 1118 ["item","row","behind","signs","others","again","ends","place","end"] m5,[bJ,gk,c1 m6 1142 "TextRow" 245 Wh 1168 716 6,bJ,lt 4 [(247,707),(252,714)],cc "TextRow" 1137 245 698,fr 700 697 m6],c7 "__init__" "TextRow.__init__" 3 0 70 247 702 1147 ["self","text","number"] m6,c7 "has" "TextRow.has" 2 1 70 252 709 1156 ["self","one","name"] m6,[tS 1165 ["known","number","text"],c2 m6 1142 245 Wh 1168 716 [("__dict__",1170,(r 719)),("__weakref__",1172,(r 720))] 1173 4],Jv "TextRow" 717 1135 1169,[bJ,gk,c1 m6 1183 "Truths" 257 Wi 1224 754 8,bJ,lt 4 [(259,733),(263,740),(269,745),(280,752)],cc "Truths" 1178 257 726,fr 728 725 m6,bJ,i6,fn "__init__" "Truths.__init__" (inClass (top 71) 0),C "__init__" "Truths.__init__" 1188 1191 259 2 0 0 3 730 true 731 .none .none .none (r 732),fO "__init__" "Truths.__init__" (inClass (top 71) 0) m6 733],c7 "told_of" "Truths.told_of" 3 1 71 263 735 1194 ["self","row","behind","truths","place","cond"] m6,[bJ,i6,fn "truth" "Truths.truth" (inClass (top 71) 2),C "truth" "Truths.truth" 1206 1209 269 5 0 0 3 742 true 743 .none .none .none (r 744),fO "truth" "Truths.truth" (inClass (top 71) 2) m6 745],c7 "truth_of_stretch" "Truths.truth_of_stretch" 4 3 71 280 747 1212 ["self","place","cond","row"] m6,[tS 1222 ["conds","up"],c2 m6 1183 257 Wi 1224 754 [("__dict__",1226,(r 757)),("__weakref__",1228,(r 758))] 1229 4],Jv "Truths" 755 1176 1225,dN "holds" 2 72 288 761 1232 ["cond","row"] m6,dN "is_row_up_to" 2 73 294 768 1240 ["cond","number"] m6]
abbrev a7:List W:=ko [dN "first_swapped" 3 76 298 775 1252 ["hand","one","words","place"] m7,dN "every_swapped" 3 77 303 782 1262 ["hand","one","words","ends","parts","kept_to","place"] m7,[bJ,i6,fn "words_of" "words_of" (top 78),C "words_of" "words_of" 1275 1278 316 1 0 0 3 789 true 790 .none .none .none (r 791),fO "words_of" "words_of" (top 78) m7 792],dN "word_of" 2 79 318 794 1281 ["hand","number","words"] m7,dN "number_of" 1 80 323 801 1290 ["word","figures"] m7,[bJ,gk,c1 m8 1307 "Walker" 329 Wj 1498 960 25,bJ,lt 4 [(331,820),(348,827),(352,834),(355,841),(366,848),(373,855),(384,862),(389,869),(399,876),(402,883),(405,890),(412,897),(416,904),(436,911),(444,918),(450,925),(456,932),(460,939),(465,944),(471,951),(480,958)],cc "Walker" 1302 329 811,fr 813 810 m8],c7 "__init__" "Walker.__init__" 2 0 82 331 815 1312 ["self","program"] m8,c7 "want" "Walker.want" 1 1 82 348 822 1320 ["self"] m8,c7 "take" "Walker.take" 3 2 82 352 829 1327 ["self","row","behind"] m8,c7 "take_with" "Walker.take_with" 3 3 82 355 836 1336 ["self","text","truths"] m8,c7 "go_on" "Walker.go_on" 1 4 82 366 843 1345 ["self"] m8,c7 "meet" "Walker.meet" 3 5 82 373 850 1352 ["self","line","number","truth"] m8,c7 "hand_over" "Walker.hand_over" 1 6 82 384 857 1362 ["self","rows"] m8,c7 "finish" "Walker.finish" 1 7 82 389 864 1370 ["self","line"] m8,c7 "find_none" "Walker.find_none" 1 8 82 399 871 1378 ["self"] m8,c7 "give" "Walker.give" 2 9 82 402 878 1385 ["self","row"] m8]
abbrev a8:List W:=ko [c7 "end_turn" "Walker.end_turn" 1 10 82 405 885 1393 ["self"] m8,c7 "give_hand_and_end" "Walker.give_hand_and_end" 1 11 82 412 892 1400 ["self"] m8,c7 "do" "Walker.do" 3 12 82 416 899 1407 ["self","deed","number"] m8,c7 "do_giving" "Walker.do_giving" 2 13 82 436 906 1416 ["self","deed"] m8,c7 "do_swap" "Walker.do_swap" 2 14 82 444 913 1424 ["self","deed"] m8,c7 "do_join" "Walker.do_join" 2 15 82 450 920 1432 ["self","deed"] m8,c7 "do_pile" "Walker.do_pile" 2 16 82 456 927 1440 ["self","deed","things"] m8,c7 "do_bring" "Walker.do_bring" 2 17 82 460 934 1449 ["self","deed","thing"] m8,[bJ,i6,fn "rows_on_shelves" "Walker.rows_on_shelves" (inClass (top 82) 18),C "rows_on_shelves" "Walker.rows_on_shelves" 1458 1461 465 1 0 0 3 941 true 942 .none .none .none (r 943),fO "rows_on_shelves" "Walker.rows_on_shelves" (inClass (top 82) 18) m8 944],c7 "do_add" "Walker.do_add" 3 19 82 471 946 1464 ["self","deed","number","name","word","amount"] m8,c7 "do_tell" "Walker.do_tell" 1 20 82 480 953 1476 ["self","name"] m8,[tS 1484 ["behind_marks","hand","hand_rows","lines","log","met","noted","passed","shelves","sums","taken","teller","truths","wanting"],c2 m8 1307 329 Wj 1498 960 [("__dict__",1500,(r 963)),("__weakref__",1502,(r 964))] 1503 4],Jv "Walker" 961 1300 1499,[bJ,i6,fn "given_in" "given_in" (top 83),C "given_in" "given_in" 1506 1509 483 1 0 0 3 967 true 968 .none .none .none (r 969),fO "given_in" "given_in" (top 83) m8 970],dN "numbers_of_marks" 1 84 485 972 1512 ["lines","numbers","number","line"] m8,[bJ,i6,fn "ahead" "ahead" (top 86),C "ahead" "ahead" 1524 1527 492 1 0 0 3 979 true 980 .none .none .none (r 981),fO "ahead" "ahead" (top 86) m9 982],dN "rows_seen_by" 1 87 494 984 1530 ["cond"] m9,[bJ,gk,c1 m9 1544 "Blade" 502 Wk 1625 1061 13,bJ]]
abbrev a9:List W:=ko [[lt 4 [(504,1003),(512,1010),(521,1017),(530,1024),(534,1031),(538,1038),(543,1045),(546,1052),(549,1059)],cc "Blade" 1539 502 994,fr 996 993 m9],c7 "__init__" "Blade.__init__" 2 0 88 504 998 1549 ["self","program"] m9,c7 "feed" "Blade.feed" 2 1 88 512 1005 1557 ["self","piece","parts","part"] m9,c7 "finish" "Blade.finish" 1 2 88 521 1012 1567 ["self"] m9,c7 "refuse_once_finished" "Blade.refuse_once_finished" 1 3 88 530 1019 1574 ["self"] m9,c7 "come" "Blade.come" 2 4 88 534 1026 1581 ["self","text"] m9,c7 "take_all_but" "Blade.take_all_but" 2 5 88 538 1033 1589 ["self","many","row"] m9,c7 "boxes" "Blade.boxes" 1 6 88 543 1040 1598 ["self"] m9,c7 "faults" "Blade.faults" 1 7 88 546 1047 1605 ["self"] m9,c7 "kept" "Blade.kept" 1 8 88 549 1054 1612 ["self"] m9,[tS 1619 ["came","finished","rest","seen","waiting","walker"],c2 m9 1544 502 Wk 1625 1061 [("__dict__",1627,(r 1064)),("__weakref__",1629,(r 1065))] 1630 4],Jv "Blade" 1062 1537 1626,[tS 1635 ["row ","last","/","soon ","from ","not ","end"],bJ,gk,c1 kM 1664 "Scan" 560 Wl 1722 1118 10,bJ,lt 4 [(562,1081),(566,1088),(569,1095),(575,1102),(579,1109),(584,1116)],cc "Scan" 1659 560 1072,fr 1074 1071 kM],c7 "__init__" "Scan.__init__" 3 0 98 562 1076 1669 ["self","row","number"] kM,c7 "refuse" "Scan.refuse" 1 1 98 566 1083 1678 ["self"] kM,c7 "passes" "Scan.passes" 2 2 98 569 1090 1685 ["self","words"] kM,c7 "must_pass" "Scan.must_pass" 2 3 98 575 1097 1693 ["self","words"] kM,c7 "while_made_of" "Scan.while_made_of" 2 4 98 579 1104 1701 ["self","signs","taken"] kM]
abbrev Ti:List W:=ko [c7 "between" "Scan.between" 2 5 98 584 1111 1710 ["self","sign","place","inside"] kM,[tS 1720 ["number","rest"],c2 kM 1664 560 Wl 1722 1118 [("__dict__",1724,(r 1121)),("__weakref__",1726,(r 1122))] 1727 4],Jv "Scan" 1119 1657 1723,dN "line_of" 2 99 592 1125 1730 ["row","number","scan","line"] kM,[bJ,i6,fn "line_next" "line_next" (top 100),C "line_next" "line_next" 1740 1743 598 1 0 0 3 1132 true 1133 .none .none .none (r 1134),fO "line_next" "line_next" (top 100) kM 1135],dN "cond_next" 1 101 606 1137 1746 ["scan"] kM,dN "plain_cond_next" 1 102 612 1144 1753 ["scan","many","first"] kM,dN "row_or_pattern_next" 1 103 624 1151 1762 ["scan"] kM,dN "deed_next" 1 104 628 1158 1769 ["scan"] kM,dN "swap_next" 2 105 653 1165 1776 ["scan","every","one"] kM,dN "pile_next" 1 106 657 1172 1785 ["scan","shelf"] kM,dN "add_next" 1 107 662 1179 1793 ["scan","first"] kM,dN "number_next" 3 108 666 1186 1801 ["scan","least","most","figures","number"] kM,dN "name_next" 1 109 674 1193 1812 ["scan","name"] kM,dN "words_next" 1 110 679 1200 1820 ["scan","words"] kM,dN "pattern_next" 1 111 684 1207 1828 ["scan","text"] kM,dN "may_stand" 2 112 690 1214 1836 ["cond","deed"] kM]
abbrev Hh:List W:=ko [dN "may_swap" 1 113 696 1221 1844 ["deed"] kM,dN "cut" 1 115 701 1228 1853 ["text","rows"] Yh,dN "read" 1 118 708 1235 1865 ["text","lines","marks"] RS,dN "lines_of" 1 119 713 1242 1874 ["rows","lines","number","row"] RS,dN "marks_of" 1 120 720 1249 1884 ["lines","marks","number","line"] RS,dN "refuse_go_without_mark" 2 121 728 1256 1894 ["lines","marks","number","line"] RS,dN "_law_whole" 1 123 733 1263 1906 ["_law_answer"] Hd,dN "_law_sign" 1 124 735 1270 1913 ["_law_number","_law_some","_law_spot"] Hd,dN "_law_piece" 2 125 741 1277 1922 ["_law_cell","_law_room","_law_many","_law_number","_law_signs","_law_k"] Hd,dN "_law_cut" 2 126 751 1284 1934 ["_law_left","_law_piece_here","_law_rows_here","_law_sign_here"] Hd,[bJ,i6,fn "_law_rows" "_law_rows" (top 127),C "_law_rows" "_law_rows" 1944 1947 760 2 0 0 3 1291 true 1292 .none .none .none (r 1293),fO "_law_rows" "_law_rows" (top 127) Hd 1294],dN "_law_refused" 2 128 762 1296 1950 ["_law_blade","_law_way","_law_sorts","e"] Hd,dN "_law_named" 1 129 774 1303 1960 ["_law_blade","_law_refused_here"] Hd,[bJ,i6,fn "law" "law" (top 130),C "law" "law" 1968 1971 781 1 0 0 3 1310 true 1311 .none .none .none (r 1312),fO "law" "law" (top 130) Hd 1313]]
abbrev os:List W:=a0++(a1++(a2++(a3++(a4++(a5++(a6++(a7++(a8++(a9++(Ti++(Hh)))))))))))
abbrev tr(n:Nat)(q:List (Nat×W)):Params->BT:=br 12 (ov os 0 n q)
abbrev lf:Life:=⟨[],[],[],0,[],[],false,#[],[],0,false,false,false,0,[2000,10,10],false,0,true,[],[],0,false⟩
abbrev TA(w:World)(os:OsState):SharedT:=⟨tr 15 [(3,boot_o_3),(12,i6)] w.params,15,lf,⟨[]⟩,⟨0,0,0,0⟩,187,os⟩
abbrev T0(w:World)(os:OsState):SharedT:=⟨tr 76 [(3,di 14 (("__name__",165,(.str "rowblade.errors" 187))::d0)),(12,lt 0 l0),(24,cG "BladeError" [(.type "ValueError")] [(r 24),(.type "ValueError"),(.type "Exception"),(.type "BaseException"),(.type "object")] 23 [(r 37),(r 49),(r 61),(r 73)] (some (r 15)) 189 "ValueError.__new__")] w.params,76,lf,⟨[]⟩,⟨0,0,0,0⟩,271,os⟩
abbrev T1(w:World)(os:OsState):SharedT:=⟨tr 152 [(3,di 18 (("__name__",165,(.str "rowblade.lines" 373))::d1)),(12,lt 0 l1)] w.params,152,lf,⟨[]⟩,⟨0,0,0,0⟩,375,os⟩
abbrev T2(w:World)(os:OsState):SharedT:=⟨tr 239 [(3,di 23 (("__name__",165,(.str "rowblade.lines" 373))::d2)),(12,lt 0 l2),(203,c0 "Cond" 202 [(r 217),(r 236)] 435)] w.params,239,lf,⟨[]⟩,⟨0,0,0,0⟩,496,os⟩
abbrev T3(w:World)(os:OsState):SharedT:=⟨tr 327 [(3,di 28 (("__name__",165,(.str "rowblade.lines" 373))::d3)),(12,lt 0 l3),(203,c0 "Cond" 202 [(r 217),(r 236),(r 248),(r 267),(r 286),(r 305),(r 324)] 435)] w.params,327,lf,⟨[]⟩,⟨0,0,0,0⟩,616,os⟩
abbrev T4(w:World)(os:OsState):SharedT:=⟨tr 396 [(3,di 33 (("__name__",165,(.str "rowblade.lines" 373))::d4)),(12,lt 0 l4),(348,c0 "Deed" 347 [(r 369),(r 381),(r 393)] 632)] w.params,396,lf,⟨[]⟩,⟨0,0,0,0⟩,709,os⟩
abbrev T5(w:World)(os:OsState):SharedT:=⟨tr 484 [(3,di 38 (("__name__",165,(.str "rowblade.lines" 373))::d5)),(12,lt 0 l5),(348,c0 "Deed" 347 [(r 369),(r 381),(r 393),(r 405),(r 424),(r 443),(r 462),(r 481)] 632)] w.params,484,lf,⟨[]⟩,⟨0,0,0,0⟩,831,os⟩
abbrev T6(w:World)(os:OsState):SharedT:=⟨tr 579 [(3,di 55 (("__name__",165,(.str "rowblade.patterns" 947))::d6)),(12,lt 0 l6)] w.params,579,lf,⟨[]⟩,⟨0,0,0,0⟩,979,os⟩
abbrev T7(w:World)(os:OsState):SharedT:=⟨tr 775 [(3,di 77 (("__name__",165,(.str "rowblade.pieces" 1248))::d7)),(12,lt 0 l7)] w.params,775,lf,⟨[]⟩,⟨0,0,0,0⟩,1250,os⟩
abbrev T8(w:World)(os:OsState):SharedT:=⟨tr 991 [(3,di 88 (("__name__",165,(.str "rowblade.blade" 1522))::d8)),(12,lt 0 l8)] w.params,991,lf,⟨[]⟩,⟨0,0,0,0⟩,1537,os⟩
abbrev T9(w:World)(os:OsState):SharedT:=⟨tr 1179 [(3,di 106 (("__name__",165,(.str "rowblade.linereading" 1633))::d9)),(12,lt 0 l9)] w.params,1179,lf,⟨[]⟩,⟨0,0,0,0⟩,1793,os⟩
abbrev N5(w:World)(os:OsState):SharedT:=⟨tr 1315 [] w.params,1315,lf,⟨[]⟩,⟨0,0,0,0⟩,1974,os⟩
abbrev bE:DD:=behindTheImports pw
abbrev nv:Env:={scope:=pw.main.scope,locals:=mainNs,globals:=mainNs,cells:=[],code:=(r 13),frame:=some 14}
abbrev cE:Code:=.body bE nv
abbrev BF:List Frame:=[topFrame ⟨0,0,0,0⟩]
abbrev an:D1:=(some (r 6))
abbrev N6:DD:=(bE.drop 0).take 6
abbrev N7:DD:=(bE.drop 6).take 5
abbrev N8:DD:=(bE.drop 11).take 5
abbrev N9:DD:=(bE.drop 16).take 5
abbrev N_:DD:=(bE.drop 21).take 5
abbrev Oa:DD:=(bE.drop 26).take 5
abbrev Oc:DD:=(bE.drop 31).take 19
abbrev Od:DD:=(bE.drop 50).take 25
abbrev Oe:DD:=(bE.drop 75).take 13
abbrev Of:DD:=(bE.drop 88).take 19
abbrev Hi:DD:=(bE.drop 107).take 24
abbrev S0(w:World)(os:OsState):Shared:=⟨boot_heap w.params,Array.mk [],boot_drawn,boot_toks,os⟩
abbrev Yk:Thread:=piecesOf N6 nv cE ⟨0,0,0,0⟩ BF
abbrev Yl:Thread:=piecesOf N7 nv cE ⟨10,0,11,8⟩ BF
abbrev Ym:Thread:=piecesOf N8 nv cE ⟨29,0,29,8⟩ BF
abbrev Yn:Thread:=piecesOf N9 nv cE ⟨43,0,46,28⟩ BF
abbrev Yo:Thread:=piecesOf N_ nv cE ⟨63,0,66,26⟩ BF
abbrev Yp:Thread:=piecesOf Oa nv cE ⟨77,0,78,8⟩ BF
abbrev Yq:Thread:=piecesOf Oc nv cE ⟨95,0,99,24⟩ BF
abbrev Yr:Thread:=piecesOf Od nv cE ⟨135,0,146,31⟩ BF
abbrev Ys:Thread:=piecesOf Oe nv cE ⟨296,0,296,8⟩ BF
abbrev Yt:Thread:=piecesOf Of nv cE ⟨494,0,501,12⟩ BF
abbrev Tj:Thread:=piecesOf Hi nv cE ⟨657,0,661,56⟩ BF
abbrev Yu:Thread:=⟨denote treeTable cE,cE,⟨0,0,0,0⟩,BF⟩
abbrev Yv:Thread:=blockOf bE nv cE ⟨0,0,0,0⟩ BF
abbrev Yw:Thread:=⟨doneF .next,cE,⟨781,0,807,65⟩,BF⟩
def Wm:Nat->Nat->Nat->B1
 |0,a,_=>[a]
 |k+1,a,n=>a::Wm k (a+n % 16) (n/16)
noncomputable abbrev as:BM:=Wm 746 2 0x1311212112121131121211212112121121211212112121121211212112121121211212112121121211212112121121211212112121121211212112121121211311212311111121211212112121121211212112128311111121211212112121121211212112121121211212112128121211311212113311111121211212113112121121211212112121121211212112121121211212112121121211212112121121211212112121121211212812121121211311212112121121211212311111121211311212113a111111212112128121211212112121121211212111212112121131121211212112121121211311212112121121211212112121121211212113311731111212731111212731111212731111212731111212731111212731111212731173117311731111212731111a1173111121273111121273111121273111121273117311112127311731111a111111212a111111212a11112127311112127311112127311112127311731173117311731117c1
def sl:List W->Nat->B1->List W
 |[],_,_=>[]
 |x::l,i,q=>(match q with
  |[]=>[]
  |y::r=>(match y.beq i with
   |true=>x::sl l (i+1) r
   |false=>sl l (i+1) q))
abbrev K(P:Params):Frag:=as.zip ((sl os 0 as).map λo=>o P)
abbrev vw:Program:={pw with main:={pw.main with body:=([1,2,3,4,5,6,7,8,9,11,12,13,14,15,16,17,18,19,20,21,22,23,24,25,26,27,28,29,30,31,32,33,34,36,37,38,39,40,42,43,44,45,46,47,48,49,50,51,52,53,54,55,56,57,58,59,60,61,63,65,66,67,68,70,71,72,73,75,76,77,78,79,80,82,83,84,86,87,88,90,91,92,93,94,95,96,97,98,99,100,101,102,103,104,105,106,107,108,109,110,111,112,113,115,117,118,119,120,121,123,124,125,126,127,128,129,130]:B1).map top}}
abbrev lz:Bi:=["stretch"]
theorem pre:∀w:World,(λos=>topGo treeTable pw w 11 an 12 (S0 w os) (topStub pw))=λos=>some ((TA w os).abs,Yu):=by
 exact λw=>by kernel_rfl
theorem RT:∀w:World,(λos=>segRun treeTable pw w 11 an 1 1 (TA w os).abs Yv)=λos=>some (Flow.next,(TA w os).abs,cE,(⟨0,0,0,0⟩:Pos)):=by
 exact λw=>by kernel_rfl
theorem g0:∀w:World,(λos=>segRunT treeTable pw w 11 an 1 1048 (TA w os) Yk)=λos=>some (Flow.next,T0 w os,cE,(⟨10,0,11,8⟩:Pos)):=by
 rewrite [PySem.W.Fast.te10110043849684766642]
 exact λw=>by kernel_rfl
theorem g1:∀w:World,(λos=>segRunT treeTable pw w 11 an 1 992 (T0 w os) Yl)=λos=>some (Flow.next,T1 w os,cE,(⟨29,0,29,8⟩:Pos)):=by
 rewrite [PySem.W.Fast.te10110043849684766642]
 exact λw=>by kernel_rfl
theorem g2:∀w:World,(λos=>segRunT treeTable pw w 11 an 1 1095 (T1 w os) Ym)=λos=>some (Flow.next,T2 w os,cE,(⟨43,0,46,28⟩:Pos)):=by
 rewrite [PySem.W.Fast.te10110043849684766642]
 exact λw=>by kernel_rfl
theorem g3:∀w:World,(λos=>segRunT treeTable pw w 11 an 1 1198 (T2 w os) Yn)=λos=>some (Flow.next,T3 w os,cE,(⟨63,0,66,26⟩:Pos)):=by
 rewrite [PySem.W.Fast.te10110043849684766642]
 exact λw=>by kernel_rfl
theorem g4:∀w:World,(λos=>segRunT treeTable pw w 11 an 1 1075 (T3 w os) Yo)=λos=>some (Flow.next,T4 w os,cE,(⟨77,0,78,8⟩:Pos)):=by
 rewrite [PySem.W.Fast.te10110043849684766642]
 exact λw=>by kernel_rfl
theorem g5:∀w:World,(λos=>segRunT treeTable pw w 11 an 1 1200 (T4 w os) Yp)=λos=>some (Flow.next,T5 w os,cE,(⟨95,0,99,24⟩:Pos)):=by
 rewrite [PySem.W.Fast.te10110043849684766642]
 exact λw=>by kernel_rfl
theorem g6:∀w:World,(λos=>segRunT treeTable pw w 11 an 1 1169 (T5 w os) Yq)=λos=>some (Flow.next,T6 w os,cE,(⟨135,0,146,31⟩:Pos)):=by
 rewrite [PySem.W.Fast.te10110043849684766642]
 exact λw=>by kernel_rfl
theorem g7:∀w:World,(λos=>segRunT treeTable pw w 11 an 1 1197 (T6 w os) Yr)=λos=>some (Flow.next,T7 w os,cE,(⟨296,0,296,8⟩:Pos)):=by
 rewrite [PySem.W.Fast.te10110043849684766642]
 exact λw=>by kernel_rfl
theorem g8:∀w:World,(λos=>segRunT treeTable pw w 11 an 1 1172 (T7 w os) Ys)=λos=>some (Flow.next,T8 w os,cE,(⟨494,0,501,12⟩:Pos)):=by
 rewrite [PySem.W.Fast.te10110043849684766642]
 exact λw=>by kernel_rfl
theorem g9:∀w:World,(λos=>segRunT treeTable pw w 11 an 1 1194 (T8 w os) Yt)=λos=>some (Flow.next,T9 w os,cE,(⟨657,0,661,56⟩:Pos)):=by
 rewrite [PySem.W.Fast.te10110043849684766642]
 exact λw=>by kernel_rfl
theorem Yx:∀w:World,(λos=>segRunT treeTable pw w 11 an 1 646 (T9 w os) Tj)=λos=>some (Flow.next,N5 w os,cE,(⟨781,0,807,65⟩:Pos)):=by
 rewrite [PySem.W.Fast.te10110043849684766642]
 exact λw=>by kernel_rfl
theorem fin:∀w:World,(λos=>topRun treeTable pw w 11 an 2 (N5 w os).abs Yw)=λos=>some (N5 w os).abs:=by
 exact λw=>by kernel_rfl
theorem Yy(w:World)(os:OsState):∀l,l=(N6++(N7++(N8++(N9++(N_++(Oa++(Oc++(Od++(Oe++(Of++(Hi++[])))))))))))->topRun treeTable pw w 11 an (1048+(992+(1095+(1198+(1075+(1200+(1169+(1197+(1172+(1194+(646+2))))))))))) (TA w os).abs (restOf l nv cE ⟨0,0,0,0⟩ BF)=some (N5 w os).abs:=λl e=>by
 rw[e];exact piece_app (segRun_of (congrFun (g0 w) os)) (piece_app (segRun_of (congrFun (g1 w) os)) (piece_app (segRun_of (congrFun (g2 w) os)) (piece_app (segRun_of (congrFun (g3 w) os)) (piece_app (segRun_of (congrFun (g4 w) os)) (piece_app (segRun_of (congrFun (g5 w) os)) (piece_app (segRun_of (congrFun (g6 w) os)) (piece_app (segRun_of (congrFun (g7 w) os)) (piece_app (segRun_of (congrFun (g8 w) os)) (piece_app (segRun_of (congrFun (g9 w) os)) (piece_app (segRun_of (congrFun (Yx w) os)) (congrFun (fin w) os)))))))))))
theorem run(w:World)(os:OsState):topRun treeTable pw w 11 an (12+(1+(1048+(992+(1095+(1198+(1075+(1200+(1169+(1197+(1172+(1194+(646+2))))))))))))) (S0 w os) (topStub pw)=some (N5 w os).abs:=go_top (congrFun (pre w) os) (piece_block (congrFun (RT w) os) (Yy w os bE (by kernel_rfl)))
theorem MH:∀P,as=(K P).map (·.1):=λ_=>by kernel_rfl
abbrev H:Hook:=kHook K as MH
abbrev H1(P:Params):Heap:=absHeap ((tr 1315 []) P) 1315 lf
abbrev SF(w:World)(os:OsState):Shared:=⟨H1 w.params,Array.mk [],⟨0,0,0,0⟩,1974,os⟩
abbrev Xt(s:Shared):Bool:=xlAt vw [] s&&recOk (RowW.records (OpenRow.toRowW (OpenLaw.row PySem.Challenge.rw_rowblade_k41_rows_of_pieces))) s
theorem Yz:∀w:World,(fencedOpening treeTable pw w 24076).map (λs=>(s.heap,s.gens,s.drawn,s.toks))=some (boot_heap w.params,Array.mk [],boot_drawn,boot_toks):=boot_open (by kernel_rfl) (by decide) (λs=>by kernel_rfl)
theorem YA:∀w:World,((boot_heap w.params).isNs mainGlobals&&(Array.mk []:Array GenState).size == 0,(boot_heap w.params).objs.size,(boot_heap w.params).nsMap mainGlobals "__annotations__")=(true,11,an):=λw=>by kernel_rfl
theorem YB:∀w:World,(λos=>(staticsOk (importedModules pw.main.body) (boot_heap w.params) (H1 w.params)&&namesBound pw (H1 w.params)&&gensDone (SF w os)&&laidKept (boot_heap w.params) (H1 w.params)))=λ_=>true:=λw=>by kernel_rfl
theorem q1:∀w:World,(λos=>PyProof.Rows.seen (yR (λx=>x.name) (GS vw)) (PyProof.Rows.ownsOf vw) [] {heap:=(SF w os).heap,drawn:=(SF w os).drawn,toks:=(SF w os).toks,os:=(SF w os).os})=λ_=>PyProof.Rows.expectedOf vw:=λw=>by kernel_rfl
theorem q2:∀w:World,(λos=>(SF w os).heap.bltView)=λ_=>bltViewBooted:=λw=>by kernel_rfl
theorem b1:∀w:World,(λos=>(SF w os).heap.keysOk (looseW vw lz) (yR (λx=>x.name) (GS vw)) (yR (λx=>x.fst) (PyProof.Rows.litsOf vw)) (yR (λx=>x.name) (PyProof.Rows.clssOf vw (looseW vw lz))))=λ_=>true:=λw=>by kernel_rfl
theorem b2:∀w:World,(λos=>(SF w os).heap.accountedOkI (importedModules pw.main.body))=λ_=>true:=λw=>by kernel_rfl
theorem b3:∀w:World,(λos=>(SF w os).heap.isNs mainGlobals)=λ_=>true:=λw=>by kernel_rfl
theorem b4:∀w:World,(λos=>(SF w os).heap.isNs builtinsNs)=λ_=>true:=λw=>by kernel_rfl
theorem b5:∀w:World,(λos=>PyProof.Rows.tablesOk vw (SF w os).heap)=λ_=>true:=λw=>by kernel_rfl
theorem b6:∀w:World,(λos=>Xt (SF w os))=λ_=>true:=λw=>by kernel_rfl
theorem q4:∀w:World,(λos=>PyProof.Rows.tabsOk vw (SF w os))=λ_=>true:=λw=>by kernel_rfl
theorem q5:∀w:World,(λos=>pinSeenD vw (GU vw) (SF w os))=λ_=>pinGoodD (GU vw):=λw=>by kernel_rfl
theorem q6:∀w:World,(λos=>PyProof.Rows.plainSeenE vw (looseW vw lz) (SF w os))=λ_=>PyProof.Rows.plainGoodE vw (looseW vw lz):=λw=>by kernel_rfl
theorem q7:∀w:World,(λos=>PyProof.Rows.plainSeenD vw lz (SF w os))=λ_=>PyProof.Rows.plainGoodD vw lz:=λw=>by kernel_rfl
theorem q8:∀w:World,(λos=>wideSeen vw (SF w os))=λ_=>wideGood vw:=λw=>by kernel_rfl
theorem q9:∀w:World,(λos=>clsSeenW vw lz (SF w os))=λ_=>clsGoodW vw lz:=λw=>by kernel_rfl
theorem YC:∀w:World,(λos=>openSeen vw lz (importedModules pw.main.body) Xt true (SF w os))=λ_=>openGood vw lz:=λw=>funext λos=>looks_pair (congrFun (q1 w) os) (looks_pair (congrFun (q2 w) os) (looks_pair (by
 show(_&&_&&_&&_&&_&&_&&_)=true;rw[congrFun (b1 w) os,congrFun (b2 w) os,congrFun (b3 w) os,congrFun (b4 w) os,congrFun (b5 w) os,congrFun (b6 w) os];rfl) (looks_pair (congrFun (q4 w) os) (looks_pair (congrFun (q5 w) os) (looks_pair (congrFun (q6 w) os) (looks_pair (congrFun (q7 w) os) (looks_pair (congrFun (q8 w) os) (congrFun (q9 w) os))))))))
theorem sp{α β γ:Type}{f:α->γ}{g:β->γ}(n:Nat){a:List α}{k:List β}(h1:(a.take n).map f=(k.take n).map g)(h2:(a.drop n).map f=(k.drop n).map g):a.map f=k.map g:=by
 rw[<- GD n a,<- GD n k,jI,jI,h1,h2]
theorem YD:∀w:World,(λos=>(as.take 250).map (SF w os).heap.get?)=λ_=>((K w.params).take 250).map λp=>some p.2:=λw=>by kernel_rfl
theorem YE:∀w:World,(λos=>((as.drop 250).take 250).map (SF w os).heap.get?)=λ_=>(((K w.params).drop 250).take 250).map λp=>some p.2:=λw=>by kernel_rfl
theorem YF:∀w:World,(λos=>((as.drop 250).drop 250).map (SF w os).heap.get?)=λ_=>(((K w.params).drop 250).drop 250).map λp=>some p.2:=λw=>by kernel_rfl
theorem YG:∀w:World,(λos=>Hook.obs H (SF w os))=λ_=>Hook.val H w:=λw=>funext λos=>sp 250 (congrFun (YD w) os) (sp 250 (congrFun (YE w) os) (congrFun (YF w) os))
theorem left:LeftO pw vw lz Xt (Hook.obs H) (Hook.val H) 24076:=LeftO.of_pieces (H₁:=H1) (gs₁:=Array.mk []) (d₁:=⟨0,0,0,0⟩) (k₁:=1974) Yz YA run (by decide) λw=>funext λos=>looks_pair (congrFun (YB w) os) (looks_pair (congrFun (YC w) os) (congrFun (YG w) os))
end KH
end
namespace L2
open PySem PySem.Spec PyProof.Rows
section
variable{κ:Type}[DecidableEq κ]
def iL(aw:List (κ×V))(k:κ):Option V:=(aw.find? λkv=>decide (kv.1=k)).map (·.2)
def putK(aw:List (κ×V))(k:κ)(v:V):List (κ×V):=
 if(aw.any λkv=>decide (kv.1=k))=true then aw.map (λkv=>if kv.1=k then(kv.1,v)else kv)else aw++[(k,v)]
theorem gS{p:κ×V}{r:List (κ×V)}{k:κ}(e:p.1=k):iL (p::r) k=some p.2:=by simp[iL,wB,e]
theorem gT{p:κ×V}{r:List (κ×V)}{k:κ}(e:¬ p.1=k):iL (p::r) k=iL r k:=by simp[iL,wB,e]
theorem lF(k:κ):∀aw:List (κ×V),(aw.any λkv=>decide (kv.1=k))=(iL aw k).isSome
 |[]=>rfl
 |p::r=>by
  rw[mT];by_cases e:p.1=k
  ·simp only[gS e,decide_eq_true e,Bool.true_or,Option.isSome_some]
  ·rw[gT e,decide_eq_false e,Bool.false_or];exact lF k r
theorem gU(aw:List (κ×V))(k:κ)(v:V):(putK aw k v).length<=aw.length+1:=by
 unfold putK;split
 ·rw[dB];omega
 ·rw[gH,cT,CP];omega
theorem gA.fJ{o:Option V}{u:D1}(r:gA o u):o.isSome=u.isSome:=by
 cases o with
 |none=>cases u with
  |none=>rfl
  |some _=>exact(show False from r).elim
 |some _=>cases u with
  |none=>exact(show False from r).elim
  |some _=>rfl
theorem gA.getD{o:Option V}{u:D1}{d:V}{d':Value}(r:gA o u)(rd:RelV d d'):RelV (o.getD d) (u.getD d'):=by
 cases o with
 |none=>cases u with
  |none=>exact rd
  |some _=>exact(show False from r).elim
 |some _=>cases u with
  |none=>exact(show False from r).elim
  |some _=>exact r
theorem KV.val{aw:List (κ×V)}{vs:List (κ×Value)}(r:KV aw vs)(k:κ):gA (iL aw k) (valueAt vs k):=by
 unfold KV at r
 induction r with
 |nil=>exact True.intro
 | @cons p q ps qs h t ih=>
  obtain⟨h1,h2⟩:=h;by_cases e:p.1=k
  ·have e':q.1=k:=h1.symm.trans e
   have b:valueAt (q::qs) k=some q.2:=by simp[valueAt,wB,e']
   rw[gS e,b];exact h2
  ·have e':¬ q.1=k:=λz=>e (h1.trans z)
   have b:valueAt (q::qs) k=valueAt qs k:=by simp[valueAt,wB,e']
   rw[gT e,b];exact ih
theorem KV.any{aw:List (κ×V)}{vs:List (κ×Value)}(r:KV aw vs)(k:κ):(aw.any λkv=>decide (kv.1=k))=vs.any λkv=>decide (kv.1=k):=by
 unfold KV at r
 induction r with
 |nil=>rfl
 |cons h t ih=>rw[mT,mT,ih,h.1]
theorem KV.Jw{aw:List (κ×V)}{vs:List (κ×Value)}(r:KV aw vs)(k:κ){y:V}{u:Value}(ry:RelV y u) :
  KV (aw.map λkv=>if kv.1=k then(kv.1,y)else kv) (vs.map λkv=>if kv.1=k then(kv.1,u)else kv):=by
 unfold KV at r ⊢
 induction r with
 |nil=>exact .nil
 | @cons p q ps qs h t ih=>
  rw[dY,dY];refine .cons ?_ ih;obtain⟨h1,h2⟩:=h;by_cases e:p.1=k
  ·rw[if_pos e,if_pos (h1.symm.trans e)];exact⟨h1,ry⟩
  ·rw[if_neg e,if_neg (λz=>e (h1.trans z))];exact⟨h1,h2⟩
theorem KV.put{aw:List (κ×V)}{vs:List (κ×Value)}(r:KV aw vs)(k:κ){y:V}{u:Value}(ry:RelV y u):KV (putK aw k y) (stored vs k u):=by
 unfold putK stored;rw[r.any k];by_cases e:(vs.any λkv=>decide (kv.1=k))=true
 ·rw[if_pos e,if_pos e];exact r.Jw k ry
 ·rw[if_neg e,if_neg e];exact Paired.snoc r ⟨rfl,ry⟩
theorem KV.length{aw:List (κ×V)}{vs:List (κ×Value)}(r:KV aw vs):aw.length=vs.length:=Paired.length r
end
theorem lG{P:Program}{w:World}{k:Key}{u:Value}(r:RelV (kV k) u):(aN P w).is k u=true:=by
 cases k with
 |inl i=>obtain⟨t,e⟩:=(show ∃t,u=Value.int i t from r);subst e;exact qr P w i t
 |inr x=>obtain⟨t,e⟩:=(show ∃t,u=Value.str x t from r);subst e;exact qt P w x t
theorem nX{P:Program}{w:World}:∀{ks:List Key}{us:B2},Vals (ks.map kV) us->ItemsAre (aN P w) ks us
 |[],_,r=>by rw[y_]at r;cases r;exact .nil
 |k::ks,_,r=>by
  rw[dY]at r;cases r with
  |cons h t=>exact .cons (lG h) (nX t)
abbrev KT(H:Hp):List (List Key×V)->List (List Key×Addr×Value)->Prop:=Paired λp q=>p.1=q.1/\H q.2.1=some (.tup (p.1.map kV))/\RelV p.2 q.2.2
theorem KT.val{H:Hp}{aw:List (List Key×V)}{xs:List (List Key×Addr×Value)}(r:KT H aw xs)(k:List Key):gA (iL aw k) ((atKey xs k).map (·.2)):=by
 induction r with
 |nil=>exact True.intro
 | @cons p q ps qs h t ih=>
  obtain⟨h1,_,h2⟩:=h;by_cases e:p.1=k
  ·have e':q.1=k:=h1.symm.trans e
   have b:atKey (q::qs) k=some q.2:=by simp[atKey,wB,e']
   rw[gS e,b];exact h2
  ·have e':¬ q.1=k:=λz=>e (h1.trans z)
   have b:atKey (q::qs) k=atKey qs k:=by simp[atKey,wB,e']
   rw[gT e,b];exact ih
theorem KT.Jw{H:Hp}{aw:List (List Key×V)}{xs:List (List Key×Addr×Value)}(r:KT H aw xs)(k:List Key){y:V}{u:Value}(ry:RelV y u) :
  KT H (aw.map λkv=>if kv.1=k then(kv.1,y)else kv) (xs.map (putAt k u)):=by
 induction r with
 |nil=>exact .nil
 | @cons p q ps qs h t ih=>
  rw[dY,dY];refine .cons ?_ ih;obtain⟨h1,h2,h3⟩:=h;unfold putAt;by_cases e:p.1=k
  ·rw[if_pos e,if_pos (h1.symm.trans e)];exact⟨h1,h2,ry⟩
  ·rw[if_neg e,if_neg (λz=>e (h1.trans z))];exact⟨h1,h2,h3⟩
theorem KT.put{H:Hp}{aw:List (List Key×V)}{xs:List (List Key×Addr×Value)}(r:KT H aw xs)(k:List Key){b:Addr}{y:V}{u:Value}(hb:H b=some (.tup (k.map kV)))(ry:RelV y u) :
  KT H (putK aw k y) (storedH xs k b u):=by
 have e:(aw.any λkv=>decide (kv.1=k))=(atKey xs k).isSome:=by
  rw[lF,(r.val k).fJ,yG]
 unfold putK storedH;rw[e];by_cases q:(atKey xs k).isSome=true
 ·rw[if_pos q,if_pos q];exact r.Jw k ry
 ·rw[if_neg q,if_neg q];exact Paired.snoc r ⟨rfl,hb,ry⟩
theorem KT.keeps{H H':Hp}{aw:List (List Key×V)}{xs:List (List Key×Addr×Value)}(r:KT H aw xs)(ht:∀b ys,H b=some (.tup ys)->H' b=some (.tup ys)):KT H' aw xs:=
 Paired.IB r λ_ _ z=>⟨z.1,ht _ _ z.2.1,z.2.2⟩
variable{a:Addr}{A:Around}{X:Cx}{H:Hp}{ae:b7}{s:Shared}{σ:St}{y:V}{u:Value}{E:Value->Shared->Prop}
section
variable{P:Program}{w:World}{h:Heap}
theorem Hj{u:HO}(ok:iI P w H h)(e:Rd H a u):bA P w H h a u:=e.ok ok
theorem lH{aw:List (Key×V)}(ok:iI P w H h)(e:Rd H a (.dK aw)):aw.length<=sizeLine/\(a == sysModules)=false/\∃vs,KV aw vs/\h.DictOf (aN P w) a vs:=
 show bA P w H h a (.dK aw)from Hj ok e
theorem uN{aw:List (Key×V)}(ok:iI P w H h)(e:H a=some (.dK aw)):aw.length<=sizeLine/\(a == sysModules)=false/\∃vs,KV aw vs/\h.DictOf (aN P w) a vs:=lH ok (.inl e)
theorem jM{ks:List Key}(ok:iI P w H h)(e:H a=some (.tup (ks.map kV))):(tupleKind (aN P w)).is h ks a:=by
 obtain⟨_,av,r,o,h1,h2,n,h3⟩:=(show bA P w H h a (.tup (ks.map kV))from ok a _ e);exact⟨o,av.toArray,n,h1,h2,h3,by simpa using nX r⟩
theorem lI{aw:List (List Key×V)}(ok:iI P w H h)(e:Rd H a (.dT aw)):aw.length<=sizeLine/\(a == sysModules)=false /\
  ∃xs,KT H aw xs/\h.DictOfH (tupleKind (aN P w)) a xs:=by
 obtain⟨z,y,xs,r,o,es,ep,h1,h2,h3,h4,h5⟩:=(show bA P w H h a (.dT aw)from Hj ok e);refine⟨z,y,xs,r,o,es,ep,h1,h2,h3,h4,λx hx=>?_,h5⟩;have all:∀{l:List (List Key×V)}{m:List (List Key×Addr×Value)},KT H l m->∀x∈m,(tupleKind (aN P w)).is h x.1 x.2.1:=by
  intro l m q
  induction q with
  |nil=>intro x hx;exact nomatch hx
  | @cons p q ps qs hq t ih=>
   intro x hx;rcases cH.mp hx with e|hx
   ·subst e
    exact jM ok (by rw[<- hq.1];exact hq.2.1)
   ·exact ih x hx
 exact all r x hx
theorem Og{aw:List (List Key×V)}(ok:iI P w H h)(e:H a=some (.dT aw)):aw.length<=sizeLine/\(a == sysModules)=false /\
  ∃xs,KT H aw xs/\h.DictOfH (tupleKind (aN P w)) a xs:=lI ok (.inl e)
end
def nk(H:Hp)(a:Addr)(y:V)(r:Option V):Prop:=
 (∃aw k,Rd H a (.dK aw)/\y=kV k/\r=iL aw k)\/∃aw k b,Rd H a (.dT aw)/\y=.ref b/\H b=some (.tup (k.map kV))/\r=iL aw k
def DC(H:Hp)(a:Addr)(y v:V)(H':Hp):Prop:=
 (∃aw k,H a=some (.dK aw)/\y=kV k/\aw.length<sizeLine/\H'=upd H a (.dK (putK aw k v))) \/
 ∃aw k b,H a=some (.dT aw)/\y=.ref b/\H b=some (.tup (k.map kV))/\aw.length<sizeLine/\H'=upd H a (.dT (putK aw k v))
theorem nk.k{H:Hp}{a:Addr}{aw:List (Key×V)}{k:Key}(e:H a=some (.dK aw)):nk H a (kV k) (iL aw k):=.inl ⟨aw,k,.inl e,rfl,rfl⟩
theorem DC.k{H:Hp}{a:Addr}{aw:List (Key×V)}{k:Key}{v:V}(e:H a=some (.dK aw))(hl:aw.length<sizeLine):DC H a (kV k) v (upd H a (.dK (putK aw k v))):=.inl ⟨aw,k,e,rfl,hl,rfl⟩
section
variable{v:V}{r:Value}{o:Option V}
theorem Inv.big(I:Inv X ae σ H s):sysModules<s.heap.objs.size:=by
 have h:mainGlobals<s.heap.objs.size:=(I.mod.glob.keeps I.bk).lt;exact Gw (by decide) h
theorem xo{Q:Value->Shared->Prop}(hu:A.units+1<cLine)(I:Inv X ae σ H s)(g:nk H a y (some v))(ry:RelV y u)(h:∀w' s',Inv X ae σ H s'->RelV v w'->Q w' s') :
  wpAny (model X.prog X.w) A (getItem (.ref a) u) Q E s:=by
 rcases g with⟨aw,k,e,ey,l⟩|⟨aw,k,b,e,ey,eb,l⟩
 ·subst ey
  obtain⟨z,hd,vs,rel,dd⟩:=lH I.aV e;obtain⟨w',hw,qF⟩:=gA.some_of (v:=v) (o:=valueAt vs k) (by rw[l];exact rel.val k)
  exact wpAny_getItem_of (lG ry) dd.mapOf hw (h w' _ (I.tok _) qF)
 ·subst ey
  cases(show u=Value.ref b from ry);obtain⟨z,hd,xs,rel,dd⟩:=lI I.aV e;obtain⟨w',hw,qF⟩:=gA.some_of (v:=v) (o:=(atKey xs k).map (·.2)) (by rw[l];exact rel.val k)
  obtain⟨p,hp,YH⟩:=eL.mp hw;refine wpAny_getItem_heap (tupleKind_room_in1 hu) (jM I.aV eb) dd hp ?_;rw[YH];exact h w' _ (I.tok _) qF
theorem Tn{Q:Value->Shared->Prop}(hu:A.units+1<cLine)(I:Inv X ae σ H s)(g:nk H a y o)(ry:RelV y u)(h:∀s',Inv X ae σ H s'->Q (.bool o.isSome) s') :
  wpAny (model X.prog X.w) A (compareOp .In u (.ref a)) Q E s:=by
 rcases g with⟨aw,k,e,ey,l⟩|⟨aw,k,b,e,ey,eb,l⟩
 ·subst ey
  obtain⟨z,hd,vs,rel,dd⟩:=lH I.aV e;refine wpAny_in_of (lG ry) hd dd.mapOf ?_;rw[<- (rel.val k).fJ,<- l];exact h _ (I.tok _)
 ·subst ey
  cases(show u=Value.ref b from ry);obtain⟨z,hd,xs,rel,dd⟩:=lI I.aV e;refine wpAny_in_heap (tupleKind_room_in1 hu) (jM I.aV eb) hd dd ?_;have q:=(rel.val k).fJ;rw[yG]at q;rw[<- q,<- l];exact h _ (I.tok _)
theorem DE{Q:Value->Shared->Prop}(hu:A.units+1<cLine)(I:Inv X ae σ H s)(g:nk H a y o)(ry:RelV y u)(h:∀s',Inv X ae σ H s'->Q (.bool (!o.isSome)) s') :
  wpAny (model X.prog X.w) A (compareOp .NotIn u (.ref a)) Q E s:=by
 rcases g with⟨aw,k,e,ey,l⟩|⟨aw,k,b,e,ey,eb,l⟩
 ·subst ey
  obtain⟨z,hd,vs,rel,dd⟩:=lH I.aV e;refine wpAny_notIn_of (lG ry) hd dd.mapOf ?_;rw[<- (rel.val k).fJ,<- l];exact h _ (I.tok _)
 ·subst ey
  cases(show u=Value.ref b from ry);obtain⟨z,hd,xs,rel,dd⟩:=lI I.aV e;refine wpAny_notIn_heap (tupleKind_room_in1 hu) (jM I.aV eb) hd dd ?_;have q:=(rel.val k).fJ;rw[yG]at q;rw[<- q,<- l];exact h _ (I.tok _)
theorem pO{h':Heap}{t':Nat}{ob:HO}(I:Inv X ae σ H s)(mu:M6 (H a))(hs:Heap.SameBut a s.heap h')(he:∃q,h'.get? a=some q)(new:bA X.prog X.w (upd H a ob) h' a ob) :
  Inv X ae σ (upd H a ob) {s with heap:=h',toks:=t'}:=
 I.write (x:=a) (e:=a) mu (.inl rfl) (λb q hb z=>(hs.2 b hb).trans z) he new
theorem tm{P:Program}{w:World}{H':Hp}{h':Heap}{aw:List (Key×V)}{vs:List (Key×Value)}(z:aw.length<=sizeLine)(hd:(a == sysModules)=false)(rel:KV aw vs)(dd:h'.DictOf (aN P w) a vs) :
  bA P w H' h' a (.dK aw):=⟨z,hd,vs,rel,dd⟩
theorem xq{H':Hp}{Q:Unit->Shared->Prop}(hu:A.units+1<cLine)(I:Inv X ae σ H s)(g:DC H a y v H')(ry:RelV y u)(rv:RelV v r)(h:∀s',Inv X ae σ H' s'->Q () s') :
  wpAny (model X.prog X.w) A (setItem (.ref a) u r) Q E s:=by
 rcases g with⟨aw,k,e,ey,l,eH⟩|⟨aw,k,b,e,ey,eb,l,eH⟩
 ·subst ey eH
  obtain⟨z,hd,vs,rel,dd⟩:=uN I.aV e;have hz:vs.length<=sizeLine:=by rw[<- rel.length];exact z
  have hl:(putK aw k v).length<=sizeLine:=by have:=gU aw k v;omega
  refine wpAny_setItem_pairs (hsz:=hz) (lG ry) dd λh' Jx hs=>h _ ?_;have he:∃q,h'.get? a=some q:=let⟨q,_,_,hq,_⟩:=Jx;⟨q,hq⟩;exact pO I (by rw[e];exact True.intro) hs he (tm hl hd (rel.put k rv) Jx)
 ·subst ey eH
  cases(show u=Value.ref b from ry);obtain⟨z,hd,xs,rel,dd⟩:=Og I.aV e;have hz:xs.length<=sizeLine:=by rw[<- Paired.length rel];exact z
  have hl:(putK aw k v).length<=sizeLine:=by have:=gU aw k v;omega
  refine wpAny_setItem_heap (hsz:=hz) (tupleKind_room_in1 hu) (jM I.aV eb) dd λh' Jx hs=>h _ ?_;obtain⟨q,es,ep,hq,h2,h3,h4,_,h5⟩:=Jx;refine pO I (by rw[e];exact True.intro) hs ⟨q,hq⟩ ⟨hl,hd,_,(rel.put k eb rv).keeps λc ys ec=>?_,q,es,ep,hq,h2,h3,h4,h5⟩
  rw[ak (M5 ec e (λz=>nomatch z))];exact ec
end
section
variable{aw:List (Key×V)}{k:Key}
end
def Jy(i:Expr):Prop:=∀ov iv,subscripted i false ov iv=operate [ov,iv] (getItem ov iv)
theorem DF{prog:Program}{w:World}{A:Around}{E:Value->Shared->Prop}{s:Shared}{env:Env}{value slice:Expr}{pos:Pos}{T id:String}{Q:Value->Shared->Prop}
  (hl:typeLookup (.type T) "__getitem__" = pure (some (.builtin id))) (hs:Jy slice)
  (h:wpAny (model prog w) A (eval value env) (λo s₁=>wpAny (model prog w) A (eval slice env) (λi s₂=>s₂.TypeIs o T/\wpAny (model prog w) A (getItem o i) Q E s₂) E s₁) E s) :
  wpAny (model prog w) A (eval (.Subscript value slice pos) env) Q E s:=by
 refine Subscript_ (wpAny_mono h (λo s₁ h₁=>wpAny_mono h₁ (λi s₂ h₂=>?_) λ_ _ x=>x) λ_ _ x=>x);obtain⟨hT,h₂⟩:=h₂;unfold subscriptTail;refine wpAny_bind ?_;rw[getitemInPython_of_ne hT.not_modules];refine wpAny_bind (wpAny_specialOf hT hl ?_);have fin:wpAny (model prog w) A (subscripted slice false o i) (λr s₃=>wpAny (model prog w) A (letTemporaryGo value o r >>= λ_=>pure r) Q E s₃) E s₂:=by
  rw[hs o i];exact wpAny_operating (wpAny_mono h₂ (λr s₃ h₃=>wpAny_bind (wpAny_letTemporaryGo (wpAny_pure h₃))) λ_ _ x=>x)
 first
  |exact wpAny_pure (wpAny_bind fin)
  |exact wpAny_bind (wpAny_pure (wpAny_bind fin))
  |exact wpAny_bind fin
theorem qK{X:Cx}{ae:b7}{σ:St}{H:Hp}{s:Shared}{a:Addr}{y:V}{o:Option V}(I:Inv X ae σ H s)(g:nk H a y o):s.TypeIs (.ref a) "dict" := by
 rcases g with⟨aw,k,e,_,_⟩|⟨aw,k,b,e,_,_,_⟩
 ·obtain⟨_,_,vs,_,dd⟩:=lH I.aV e
  exact dd.typeIs
 ·obtain⟨_,_,xs,_,dd⟩:=lI I.aV e
  exact dd.typeIs
def Oh(td ty:TE):TE:=λσ H Q=>td σ H λx H1=>ty σ H1 λy H2=>∃a v,x=.ref a/\nk H2 a y (some v)/\Q v H2
def Oi(td ty tv:TE):TS:=λD σ H=>tv σ H λv H1=>td σ H1 λx H2=>ty σ H2 λy H3=>∃a H4,x=.ref a/\DC H3 a y v H4/\D.nx σ H4
section
variable{o i e value:Expr}{pos bM gB:Pos}{td ty tv:TE}
theorem uO(hu:X.A.units+1<cLine)(ho:PE X o td)(hi:PE X i ty)(hs:Jy i):PE X (.Subscript o i pos) (Oh td ty):=by
 intro ae s σ H Q I h;refine DF PySem.F.slot_dict_getitem.lookup hs (bo (ho ae s σ H _ I h) λu s1 ⟨x,H1,I1,rx,q1⟩=>bo (hi ae s1 σ H1 _ I1 q1) λiv s2 zz=>?_);obtain⟨y,H2,I2,ry,a,v,ex,g,q2⟩:=zz;subst ex
 obtain rfl:u=Value.ref a:=rx
 exact⟨qK I2 g,xo hu I2 g ry λw' s3 I3 qF=>⟨v,H2,I3,qF,q2⟩⟩
theorem uP(hu:X.A.units+1<cLine)(ho:PE X o td)(hi:PE X i ty)(hv:PE X value tv)(hs:swapsWith value (some (.Subscript o i bM)) pos.line X.env=pure false) :
  PS X (.Assign [.Subscript o i bM] value pos) (Oi td ty tv):=by
 intro ae s σ H D I h;refine wpAny_Assign_Subscript (bo (hv ae s σ H _ I h) λr s1 ⟨v,H1,I1,rv,q1⟩=>bo (ho ae s1 σ H1 _ I1 q1) λu s2 ⟨x,H2,I2,rx,q2⟩=>bo (hi ae s2 σ H2 _ I2 q2) λiv s3 ⟨y,H3,I3,ry,a,H4,ex,g,q3⟩=>?_) hs;subst ex
 obtain rfl:u=Value.ref a:=rx
 exact xq hu I3 g ry rv λs4 I4=>⟨σ,H4,I4,q3⟩
end
theorem qL{P:Program}{w:World}{H:Hp}(h:Heap)(hb:sysModules<h.objs.size):bA P w H (h.push {cls:=.type "dict",data:=.dict #[]}) h.objs.size (.dK []):=
 ⟨kh _,beq_eq_false_iff_ne.mpr (Ne.symm (cL hb)),[],.nil,Heap.DictOf.new h⟩
def Jz:TE:=λ_ H Q=>∀p,H p=none->Q (.ref p) (upd H p (.dK []))
section
variable{pos:Pos}
theorem lJ:PE X (.Dict [] [] pos) Jz:=λae s σ H Q I h=>
 wpAny_Dict_empty ⟨.ref s.heap.objs.size,_,I.laid (a:=s.heap.objs.size) (o:=.dK []) (t':=s.toks) (λ_ _ q=>Heap.get?_push_of_some _ q) (cC _) (qL s.heap I.big),rfl,h _ (I.aV.fresh (cC _))⟩
end
def pP:List (TE×TE)->St->Hp->(List (V×V)->Hp->Prop)->Prop
 |[],_,H,Q=>Q [] H
 |(tk,tv)::r,σ,H,Q=>tk σ H λx H1=>tv σ H1 λy H2=>pP r σ H2 λps H3=>Q ((x,y)::ps) H3
abbrev VV:List (V×V)->List (Value×Value)->Prop:=Paired λp q=>RelV p.1 q.1/\RelV p.2 q.2
def Oj(X:Cx)(pos:Pos)(keys:List (Option Expr))(values:Bz)(DG:List (TE×TE)):Prop:=
 ∀(ae:b7)(s:Shared)(σ:St)(H:Hp)(Q:List (V×V)->Hp->Prop),Inv X ae σ H s->pP DG σ H Q ->
  wpAny (model X.prog X.w) X.A (evalPairs (pairTrees keys values X.env pos)) (λvs s'=>∃ps H',Inv X ae σ H' s'/\VV ps vs/\Q ps H') X.xe s
theorem DH{X:Cx}{pos:Pos}:Oj X pos [] [] []:=λae s σ H Q I h=>pairTrees_nil_walk ⟨[],H,I,.nil,h⟩
theorem Ab{X:Cx}{pos:Pos}{k v:Expr}{ks:List (Option Expr)}{vs:Bz}{tk tv:TE}{DG:List (TE×TE)}(hk:PE X k tk)(hv:PE X v tv)(hr:Oj X pos ks vs DG) :
  Oj X pos (some k::ks) (v::vs) ((tk,tv)::DG):=λae s σ H Q I h=>
 pairTrees_cons_walk (bo (hk ae s σ H _ I h) λu s1 ⟨x,H1,I1,rx,q1⟩=>bo (hv ae s1 σ H1 _ I1 q1) λw2 s2 ⟨y,H2,I2,ry,q2⟩=>
  bo (hr ae s2 σ H2 _ I2 q2) λws s3 ⟨ps,H3,I3,rel,q3⟩=>⟨(x,y)::ps,H3,I3,.cons ⟨rx,ry⟩ rel,q3⟩)
def iM(aw more:List (Key×V)):List (Key×V):=more.foldl (λeG kv=>putK eG kv.1 kv.2) aw
theorem KV.merge:∀{more:List (Key×V)}{rs:List (Key×Value)}{aw:List (Key×V)}{vs:List (Key×Value)},KV more rs->KV aw vs->KV (iM aw more) (merged vs rs):=by
 intro more rs aw vs r;unfold KV at r
 induction r generalizing aw vs with
 |nil=>intro q;exact q
 | @cons p q ps qs h t ih=>
  intro r0;have e:KV (putK aw p.1 p.2) (stored vs q.1 q.2):=by
   have:=r0.put p.1 h.2
   rw[<- h.1];exact this
  exact ih e
theorem iD:∀(more aw:List (Key×V)),(iM aw more).length<=aw.length+more.length
 |[],aw=>by show aw.length<=aw.length+0;omega
 |p::r,aw=>by
  have h1:=iD r (putK aw p.1 p.2);have h2:=gU aw p.1 p.2;show(iM (putK aw p.1 p.2) r).length<=_;rw[cT];omega
theorem lK{P:Program}{w:World}:∀{aw:List (Key×V)}{ws:List (Value×Value)},VV (aw.map λkv=>(kV kv.1,kv.2)) ws->∃rs,Carries (aN P w) ws rs/\KV aw rs
 |[],_,r=>by rw[y_]at r;cases r;exact⟨[],True.intro,.nil⟩
 |p::aw,_,r=>by
  rw[dY]at r;cases r with
  | @cons a b as bs h t=>
   obtain⟨rs,c,q⟩:=lK (P:=P) (w:=w) t;obtain⟨b1,b2⟩:=b;exact⟨(p.1,b2)::rs,⟨lG h.1,rfl,c⟩,.cons ⟨rfl,h.2⟩ q⟩
def Ol(DG:List (TE×TE)):TE:=λσ H Q=>∀p,H p=none->pP DG σ (upd H p (.dK [])) λps H2=>H2 p=some (.dK [])/\∃aw:List (Key×V),ps=aw.map (λkv=>(kV kv.1,kv.2))/\aw.length<=15/\Q (.ref p) (upd H2 p (.dK (iM [] aw)))
theorem DI{X:Cx}{pos:Pos}{keys:List (Option Expr)}{values:Bz}{DG:List (TE×TE)}(h:Oj X pos keys values DG)(zV:keys.all (·.isSome)=true)(hl:keys.length=values.length)(h0:keys≠[])
  (To:keys.length<=15):PE X (.Dict keys values pos) (Ol DG):=by
 intro ae s σ H Q I q;have hn:=I.aV.fresh (cC s.heap.objs.size);have I1:=I.laid (a:=s.heap.objs.size) (o:=.dK []) (h':=s.heap.push {cls:=.type "dict",data:=.dict #[]}) (t':=s.toks) (λ_ _ q=>Heap.get?_push_of_some _ q) (cC _) (qL s.heap I.big);refine wpAny_Dict_walk (knd:=aN X.prog X.w) zV hl h0 To (bo (h ae _ σ _ _ I1 (q _ hn)) λws s2 zz=>?_);obtain⟨ps,H2,I2,rel,e,aw,ep,lk,q2⟩:=zz;subst ep;obtain⟨rs,c,rk⟩:=lK (P:=X.prog) (w:=X.w) rel;obtain⟨z,hd,RU,r0,dd⟩:=uN I2.aV e;cases r0;refine⟨rs,c,dd,λh' Jx hs=>⟨.ref s.heap.objs.size,_,?_,rfl,q2⟩⟩;have hz:(iM [] aw).length<=sizeLine:=by
  have h1:=iD aw [];rw[CP]at h1;rw[sizeLine_eq];omega
 have he:∃q,h'.get? s.heap.objs.size=some q:=let⟨q,_,_,hq,_⟩:=Jx;⟨q,hq⟩;exact pO I2 (by rw[e];exact True.intro) hs he (tm hz hd (rk.merge .nil) Jx)
structure M2(X:Cx)(o:Expr)(m:Str)(aY:Pos)(e f:Expr)(aW:Pos):Prop where
 base:attributeBase o m X.env (eval o X.env)=eval o X.env
 nY:((backTo aW (starEach [e,f] X.env)).all (λx=>!x.1)&&(backToKw aW (keywordEach [] X.env)).all (λx=>x.1.isSome)
  && decide (([e,f]:Bz).length+([]:List Keyword).length+(if([]:List Keyword).isEmpty then 0 else 1)<30))=true
 line:(aY.endLine == aW.line)=true
 trees:backTo aW (starEach [e,f] X.env)=[(false,eval e X.env),(false,eval f X.env)]
def Wn(H:Hp)(a:Addr):Prop:=(∃aw,Rd H a (.dK aw))\/∃aw,Rd H a (.dT aw)
theorem JA{X:Cx}{ae:b7}{σ:St}{H:Hp}{s:Shared}{a:Addr}(I:Inv X ae σ H s)(d:Wn H a) :
  s.TypeIs (.ref a) "dict" /\ (∀b,Value.ref a=.ref b->∃ob,s.heap.get? b=some ob/\ob.dict=none)/\(a == sysModules)=false:=by
 rcases d with⟨aw,e⟩|⟨aw,e⟩
 ·obtain⟨_,hd,vs,_,dd⟩:=lH I.aV e
  refine⟨dd.typeIs,λb q=>?_,hd⟩;cases q;obtain⟨ob,_,_,h1,h2,_⟩:=dd;exact⟨ob,h1,h2.2.1⟩
 ·obtain⟨_,hd,xs,_,dd⟩:=lI I.aV e
  refine⟨dd.typeIs,λb q=>?_,hd⟩;cases q;obtain⟨ob,_,_,h1,h2,_⟩:=dd;exact⟨ob,h1,h2.2.1⟩
section
variable{d:V}{r:Value}{o:Option V}
theorem JB{Q:Value->Shared->Prop}(hu:A.units+1<cLine)(I:Inv X ae σ H s)(g:nk H a y o)(ry:RelV y u)(rd:RelV d r)(h:∀w' s',Inv X ae σ H s'->RelV (o.getD d) w'->Q w' s') :
  wpAny (model X.prog X.w) A (call (.builtin "dict.get") [.ref a,u,r]) Q E s:=by
 rcases g with⟨aw,k,e,ey,l⟩|⟨aw,k,b,e,ey,eb,l⟩
 ·subst ey
  obtain⟨z,hd,vs,rel,dd⟩:=lH I.aV e;refine call_meetsIn PySem.F.slot_dict_get dd.typeIs PySem.F.entry_dict_get (PySem.F.args_dict_get_3 _ _ _) (meets_dict_get_default (aN X.prog X.w) a (lG ry) hd r) ⟨_,dd.mapOf,h _ _ (I.tok _) ?_⟩;rw[l];exact(rel.val k).getD rd
 ·subst ey
  cases(show u=Value.ref b from ry);obtain⟨z,hd,xs,rel,dd⟩:=lI I.aV e;refine call_meetsIn PySem.F.slot_dict_get dd.typeIs PySem.F.entry_dict_get (PySem.F.args_dict_get_3 _ _ _) (meetsH_dict_get_default (tupleKind (aN X.prog X.w)) a b hd r) ⟨tupleKind_room_in1 hu,k,xs,jM I.aV eb,dd,h _ _ (I.tok _) ?_⟩;rw[l];exact(rel.val k).getD rd
end
def JC(td ty tx:TE):TE:=λσ H Q=>td σ H λx H1=>∃a,x=.ref a/\Wn H1 a/\ty σ H1 λy H2=>tx σ H2 λz H3=>∃o,nk H3 a y o/\Q (o.getD z) H3
section
variable{o e f:Expr}{aY aW:Pos}{td ty tx:TE}
theorem Ac(hu:X.A.units+1<cLine)(ho:PE X o td)(he:PE X e ty)(hf:PE X f tx)(m:M2 X o "get" aY e f aW):PE X (.Call (.Attribute o "get" aY) [e,f] [] aW) (JC td ty tx):=by
 intro ae s σ H Q I h;refine wpAny_Call_method m.base m.nY m.line PySem.F.plainAttrs_dict PySem.F.slot_dict_get PySem.F.type_dict_get (bo (ho ae s σ H _ I h) λu s1 zz=>?_);obtain⟨x,H1,I1,rx,a,ex,d,q1⟩:=zz;subst ex
 obtain rfl:u=Value.ref a:=rx
 obtain⟨t1,t2,_⟩:=JA I1 d;refine⟨t1,t2,?_⟩;rw[m.trees];refine Calls.callWith_builtin rfl (Calls.evalArgs_plain (Calls.spliced_cons (bo (he ae s1 σ H1 _ I1 q1) λiv s2 ⟨y,H2,I2,ry,q2⟩=>
  Calls.spliced_cons (bo (hf ae s2 σ H2 _ I2 q2) λfv s3 ⟨z,H3,I3,rz,ov,g,q3⟩=>Calls.spliced_nil ?_))))
 exact JB hu I3 g ry rz λw' s4 I4 qF=>⟨_,H3,I4,qF,q3⟩
end
section
variable{aw:List (Key×V)}
end
section
end
end L2
namespace Pf
def jh:B1->B1->B1
 |seen,[]=>seen
 |seen,c::l=>jh (if c∈seen then seen else c::seen) l
end Pf
namespace L2
open PySem PySem.Spec PyProof.Rows
section
variable{prog:Program}{w:World}
def gW(seen:B1)(k:Str):Bool:=seen.any λc=>decide (k=⟨#[c]⟩)
theorem ji{A:Around}{R:Result->Shared->Prop}{I S:Addr}{x:Str}{t:Tok}(hh:A.in1.handled=none)(gR:I≠S)(hb:x.cps.size+1<scanBound) :
  ∀(l:B1)(i:Nat)(seen:B1)(s:Shared),x.cps.toList.drop i=l->seen.length<=i->i<=x.cps.size->s.heap.IsStrIter I "str_ascii_iterator" x t i->Heap.SetOf (strKind prog w) s.heap S (gW seen) seen.length ->
   (∀(h':Heap)(tk:Nat),(∀b o,b≠S->b≠I->s.heap.get? b=some o->h'.get? b=some o)->Heap.SetOf (strKind prog w) h' S (gW (Pf.jh seen l)) (Pf.jh seen l).length->R (.ok (.ret .none)) {s with heap:=h',toks:=tk}) ->
   codeAny (model prog w) A (Code.builtin "set.update.loop" {pos:=[.ref S,.ref I]}) R s
 |[],i,seen,s,hl,hsn,hi,hit,qM,h=>by
  refine codeAny_builtin F.entry_set_update_loop ?_;rw[Around.under_plainId F.plain_set_update_loop];have hx:x.cps[i]?=none:=by
   have:=List.drop_eq_nil_iff.mp hl
   rw[Array.length_toList]at this;exact Array.getElem?_eq_none (by omega)
  refine wpAny_bind (wpAny_pyNext_ascii_end hh hit hx λh' he=>?_);refine wpAny_pure ?_;refine h h' s.toks (λb o _ RV hg=>he b o RV hg) ?_;obtain⟨o,es,ep,tb,e1,e2⟩:=qM;exact⟨o,es,ep,tb,he _ _ (Ne.symm gR) e1,e2⟩
 |c::l,i,seen,s,hl,hsn,hi,hit,qM,h=>by
  refine codeAny_builtin F.entry_set_update_loop ?_;rw[Around.under_plainId F.plain_set_update_loop];have RN:x.cps.toList[i]?=some c:=by
   have:=congrArg (λq=>q[0]?) hl
   simpa using this
  have hx:x.cps[i]?=some c:=by simpa using RN
  have eX:i<x.cps.size:=(Array.getElem?_eq_some_iff.mp hx).1;refine wpAny_bind (wpAny_pyNext_ascii_item hit hx λh1 Tp Wo=>?_);have Om:Heap.SetOf (strKind prog w) h1 S (gW seen) seen.length:=by
   obtain⟨o,es,ep,tb,e1,e2⟩:=qM;exact⟨o,es,ep,tb,(Wo.2 S (Ne.symm gR)).trans e1,e2⟩
  refine wpAny_bind (wpAny_holding (wpAny_holding (wpAny_bind ((strKind prog w).pyHash (k:=⟨#[c]⟩) (strKind_is prog w ⟨#[c]⟩ _) ?_))));refine wpAny_setAddHashed_of (strKind_is prog w ⟨#[c]⟩ _) rfl Om (by omega) λh2 Wq Oo=>?_
  refine wpAny_pure ⟨plainId_quiet F.plain_set_update_loop _,?_⟩;have Oq:gW seen ⟨#[c]⟩=decide (c∈seen):=by
   unfold gW;rw[yI];simp
  have Tq:h2.IsStrIter I "str_ascii_iterator" x t (i+1):=by
   obtain⟨o,e1,e2⟩:=Tp;exact⟨o,(Wq.2 I gR).trans e1,e2⟩
  refine ji hh gR hb l (i+1) (if c∈seen then seen else c::seen) _ ?_ ?_ (by omega) Tq ?_ λh' tk hk xj=>?_
  ·have:=congrArg List.tail hl
   rw[List.tail_drop]at this;exact this
  ·split
   ·omega
   ·simp;omega
  ·refine SetOf_congr Oo (λk=>?_) ?_
   ·by_cases hc:c∈seen
    ·rw[if_pos hc]
     unfold gW;rw[yI];simp only[CH,zc,decide_eq_true_eq];constructor
     ·rintro(z|z)
      ·exact z
      ·exact⟨c,hc,z⟩
     ·exact λz=>.inl z
    ·rw[if_neg hc]
     unfold gW;rw[mT,Bool.or_comm]
   ·rw[Oq]
    by_cases hc:c∈seen
    ·rw[decide_eq_true hc,if_pos rfl,if_pos hc]
    ·rw[decide_eq_false hc,if_neg fF,if_neg hc];rfl
  ·exact h h' tk (λb o Wr RV hg=>hk b o Wr RV ((Wq.2 b Wr).trans ((Wo.2 b RV).trans hg))) xj
theorem pQ{A:Around}{E:Value->Shared->Prop}{s:Shared}{x:Str}{t:Tok}{Q:Value->Shared->Prop}(hh:A.handled=none)(ha:x.cps.all (· < 128)=true)(hb:x.cps.size+1<scanBound)
  (h:∀h' tk,(∀b o,s.heap.get? b=some o->h'.get? b=some o)->Heap.SetOf (strKind prog w) h' s.heap.objs.size (gW (Pf.jh [] x.cps.toList)) (Pf.jh [] x.cps.toList).length->Q (.ref s.heap.objs.size) {s with heap:=h',toks:=tk}) :
  wpAny (model prog w) A (call (.type "set") [.str x t]) Q E s:=by
 obtain⟨hp,g,d,Ws,os⟩:=s;obtain⟨c,tl,hm⟩:=F.called_set.mro;refine wpAny_call (codeAny_of_tree ?_);refine wpAny_pure ⟨Code.quiet_builtin _ (by decide +kernel),codeAny_builtin F.entry_type_call ?_⟩
 rw[Around.under_plain (weight_type_call_type _ _ _) rfl];unfold Builtin.«type.__call__»;dsimp only;refine wpAny_ite_false ?_ ?_
 ·rw[F.called_set.notType];rfl
 refine wpAny_ite_false ?_ ?_
 ·rw[F.called_set.canCreate];rfl
 refine wpAny_bind (wpAny_of_eq (F.typeCall_set_1 _) ?_);refine wpAny_bind (wpAny_of_eq hm ?_);refine wpAny_ite_false rfl ?_;refine wpAny_bind (wpAny_of_eq F.called_set.made ?_);refine wpAny_bind (wpAny_pure ?_);refine wpAny_bind (wpAny_holding (wpAny_call (codeAny_mono (code_set_new_1 (E:=λ_ _=>False) (Q₁:=λv s'=>∃led,v=.ref hp.objs.size/\s'=⟨hp.push {cls:=.type "set",data:=.set #[] 0 (SetTable.fresh 0 0 led)},g,d,Ws,os⟩) (.str x t) λled=>⟨led,rfl,rfl⟩) ?_)));intro r s1 hr;cases r with
 |error e=>exact hr.elim
 |ok f=>
  cases f with
  |next=>exact hr.elim
  |brk=>exact hr.elim
  |cont=>exact hr.elim
  |ret v=>
   obtain⟨led,rfl,rfl⟩:=hr;have hg:=Heap.get?_push_size hp (o:={cls:=.type "set",data:=.set #[] 0 (SetTable.fresh 0 0 led)}) rfl;have hT:Shared.TypeIs ⟨hp.push {cls:=.type "set",data:=.set #[] 0 (SetTable.fresh 0 0 led)},g,d,Ws,os⟩ (.ref hp.objs.size) "set" := ⟨_,hg,rfl⟩;refine wpAny_bind (wpAny_isInstance hT F.called_set.sub ?_);refine wpAny_ite_false rfl ?_;refine wpAny_bind (wpAny_holding ?_);unfold callSpecial?;refine wpAny_bind (wpAny_specialOf hT F.called_set.init.lookup ?_);dsimp only;refine wpAny_holding (wpAny_bind (wpAny_of_eq (F.called_set.init.bind _) ?_));dsimp only;refine wpAny_bind (wpAny_call (codeAny_call_builtin F.called_set.init.plain F.entry_set_init (check_set_init_1 hT ?_)));have Wt:=F.sub_str_set;have Wu:=F.sub_str_frozenset
   wp_walk using wpAny_pyIter_ascii ha
   have hz:(hp.push {cls:=.type "set",data:=.set #[] 0 (SetTable.fresh 0 0 led)}).objs.size=hp.objs.size+1:=Heap.size_push ..;refine ji (A:=A.in1.in1) (x:=x) (t:=t) (show A.in1.in1.in1.handled=none from hh) ?_ hb x.cps.toList 0 [] _ yS (kh _) (kh _) ?_ ?_ λh' tk hk hs=>?_
   ·show(hp.push _).objs.size≠hp.objs.size
    rw[hz];omega
   ·exact⟨_,Heap.get?_push_size _ rfl,rfl,rfl⟩
   ·refine SetOf_congr ((setObjOf_fresh led).setOf (Heap.get?_push_of_some _ hg) (by decide)) (λ_=>rfl) rfl
   ·refine wpAny_pure (wpAny_pure (wpAny_pure (wpAny_ite_false rfl (wpAny_pure ?_))))
    refine h h' tk (λb o xu=>?_) hs;have eX:b<hp.objs.size:=Heap.lt_size xu;refine hk b o (cL eX) ?_ (Heap.get?_push_of_some _ (Heap.get?_push_of_some _ xu));show b≠(hp.push _).objs.size;rw[hz];exact cL (yO eX)
end
section
variable{X:Cx}{a:Expr}{p p1 pos f6:Pos}{ta:TE}
theorem xw(hc:X.calm=true)(Ot:X.mg "len" = none)(Tr:X.mg "set" = none)(ha:PE X a ta)(Ou:Gl X "len" := by rfl)(Tt:Gl X "set" := by rfl)
  (hs:starEach [a] X.env=(false,eval a X.env)::starEach [] X.env:=by rfl) (hpl:(backTo f6 (starEach [] X.env)).any (·.1)=false:=by rfl)
  (lj:starEach [.Call (.Name "set" p1) [a] [] f6] X.env=(false,eval (.Call (.Name "set" p1) [a] [] f6) X.env)::starEach [] X.env:=by rfl) (Tu:(backTo pos (starEach [] X.env)).any (·.1)=false:=by rfl) :
  PE X (.Call (.Name "len" p) [.Call (.Name "set" p1) [a] [] f6] [] pos) (λσ H Q=>ta σ H λv H1=>∃z:Str,v=.str z/\z.cps.all (· < 128)=true/\z.cps.size+1<scanBound/\Q (.int ((Pf.jh [] z.cps.toList).length:Nat)) H1):=by
 intro ae s σ H Q I h;have inner:wpAny (model X.prog X.w) X.A (eval (.Call (.Name "set" p1) [a] [] f6) X.env) (λu s'=>∃(D:Addr)(n:Nat)(S:Str->Bool)(H1:Hp),u=.ref D/\Inv X ae σ H1 s'/\Heap.SetOf (strKind X.prog X.w) s'.heap D S n/\n<scanBound/\Q (.int (n:Nat)) H1) X.xe s:=by
  have hA:=(az ha aO hs) f6 ae s σ H (λvs H1=>∃z:Str,vs=[.str z]/\z.cps.all (· < 128)=true/\z.cps.size+1<scanBound/\Q (.int ((Pf.jh [] z.cps.toList).length:Nat)) H1) I (by
   show ta σ H _;exact cast (congrArg (ta σ H) (funext λv=>funext λH1=>propext ⟨λ⟨z,e,q⟩=>⟨z,by rw[e],q⟩,λ⟨z,e,q⟩=>⟨z,(by cases e;rfl),q⟩⟩)) h)
  refine wpAny_Call_Name_kw (dI I Tt Tr PyProof.Rows.boot_set (sI (bo hA λus s1 ⟨vs,H1,I1,r1,q1⟩=>?_) hs hpl));obtain⟨z,rfl,YI,Tv,q⟩:=q1;obtain⟨u,rfl,⟨t,rfl⟩⟩:=r1.one;refine pQ (I1.ok.hd hc) YI Tv λh' tk hk qM=>?_;have eX:(Pf.jh [] z.cps.toList).length<scanBound:=by
   obtain⟨o,es,ep,tb,_,_,_,_,_,e6,_,e8⟩:=qM;omega
  exact⟨_,_,_,H1,rfl,I1.kept (t':=tk) hk,qM,eX,q⟩
 refine wpAny_Call_Name_kw (dI I Ou Ot PySem.boot_len (GR ?_ lj Tu));rw[lj];refine Calls.spliced_cons (bo inner λu s1 zz=>?_);obtain⟨D,n,S,H1,e,I1,qM,eX,q⟩:=zz;subst e;refine wpAny_pure ?_;obtain⟨o,es,ep,tb,e1,e2,e3,e4,e5,e6,e7,e8⟩:=qM;have Wb:scanBound=4096:=rfl;refine call_len_set e1 e2 e3 e7 (by omega) ⟨.int (n:Nat),H1,I1.kept (t':=s1.toks+1+1) (λ_ _ z=>z),⟨s1.toks+1,?_⟩,q⟩
 rw[e8]
end
end L2
namespace PySem
open Sem (wp)
open AutoSeq1 (wpAny_loadPart')
section
variable{prog:Program}{w:World}{A:Around}{E:Value->Shared->Prop}{s:Shared}
set_option maxHeartbeats 4000000 in
theorem gX(l:Addr)(items:Array Value)(n:Nat)(c8:Option Addr)(sl:Array D1)(t:Tok) :
  Meets (Builtin.«enumerate.__new__» ⟨[.type "enumerate",.ref l],[(Str.ofString "start",.int 1 t)]⟩) (λ_ R s=>s.heap.get? l=some {cls:=.type "list",dict:=c8,data:=.seq items n,slots:=sl} /\
   R (.ok (.ret (.ref (s.heap.push {cls:=.type "list_iterator",data:=.fields #[.ref l,.int 0 0]}).objs.size)))
    {s with heap:=(s.heap.push {cls:=.type "list_iterator",data:=.fields #[.ref l,.int 0 0]}).push {cls:=.type "enumerate",data:=.fields #[.none,.bool false,.ref s.heap.objs.size,rawInt 1,.none,.none]}}):=
 .of_wp λprog w A R s h=>by
  obtain⟨hp,g,d,tk,os⟩:=s;obtain⟨hl,h⟩:=h;have Tw:=sub_enumerate;have hL:Heap.IsList (Shared.heap ⟨hp,g,d,tk,os⟩) l items:=⟨_,hl,rfl,n,rfl⟩
  wp_walk using wpAny_loadPart' hl
  refine wpAny_stack_any λst=>wpAny_pure ?_;split
  ·rename_i c _ _ _ _ _
   cases(c == Value.type "enumerate")
   ·wp_walk using wpAny_loadPart' hl,wpAny_pyIter_list hL
    exact⟨_,rfl,h⟩
   ·wp_walk using wpAny_loadPart' hl,wpAny_pyIter_list hL
    exact⟨_,rfl,h⟩
  ·wp_walk using wpAny_loadPart' hl,wpAny_pyIter_list hL
   exact⟨_,rfl,h⟩
theorem iN{T newId:String}{self:Value}{rest:B2}{kw:List (Str×Value)}(hl:typeLookup (.type T) "__init__" = pure (some (.builtin "object.__init__")))
  (hm:Bind.madeBy (.type T)=pure (some newId)) (gR:(some newId != some "object.__new__")=true) :
  Meets (Builtin.«object.__init__» ⟨self::rest,kw⟩) (λ_ R s=>s.TypeIs self T/\R (.ok (.ret .none)) s):=by
 refine Meets.of_wp λprog w A R s hs=>?_;obtain⟨hT,hq⟩:=hs;cases rest with
 |nil=>
  cases kw with
  |nil=>exact wpAny_pure ⟨_,rfl,hq⟩
  |cons a kw=>
   repeat (any_goals (first|assumption|wp_step))
   exact⟨_,rfl,hq⟩
 |cons a rest=>
  repeat (any_goals (first|assumption|wp_step))
  exact⟨_,rfl,hq⟩
theorem gY(a b:Value):checkTypeCall "enumerate" ⟨[a],[(Str.ofString "start",b)]⟩=pure ():=by kernel_rfl
theorem iw(a b:Value):checkBuiltinCall "enumerate.__new__" ⟨[.type "enumerate",a],[(Str.ofString "start",b)]⟩=pure ():=by kernel_rfl
theorem qN(o a b:Value):argsOk "object.__init__" ⟨[o,a],[(Str.ofString "start",b)]⟩:=by
 unfold argsOk;rw[signature?_of (id := "object.__init__") (n:=['_','_','t','i','n','i','_','_']) (o:=['t','c','e','j','b','o']) (by kernel_rfl) F.owner_object];kernel_rfl
set_option maxHeartbeats 4000000 in
theorem jN{l:Addr}{items:Array Value}{t:Tok}{Q:Value->Shared->Prop}(hL:s.heap.IsList l items)
  (h:∀h',IsEnum h' (s.heap.objs.size+1) s.heap.objs.size 1 .none->h'.IsListIter s.heap.objs.size l 0->h'.objs.size=s.heap.objs.size+2 ->
   (∀b o,s.heap.get? b=some o->h'.get? b=some o)->Q (.ref (s.heap.objs.size+1)) {s with heap:=h'}) :
  wpAny (model prog w) A (call (.type "enumerate") [.ref l] [(Str.ofString "start",.int 1 t)]) Q E s:=by
 obtain⟨⟨c,c8,dt,sl⟩,hl,hc,n,hd⟩:=hL
 replace hc:c=.type "list" := hc
 replace hd:dt=.seq items n:=hd
 subst hc hd;have ft:=F.called_enumerate;obtain⟨c,tl,YJ⟩:=ft.mro;have Wv:=ft.made;have Tw:=ft.sub;have hct:=gY (.ref l) (.int 1 t);have YK:=iw (.ref l) (.int 1 t);refine wpAny_call (codeAny_of_tree ?_);show wpAny _ _ (callAny (.type "enumerate") _) _ _ _;refine wpAny_pure ⟨Code.quiet_builtin _ (by decide +kernel),codeAny_builtin F.entry_type_call ?_⟩
 rw[Around.under_plain (weight_type_call_type "enumerate" _ _) (units_type_call_type "enumerate" _ _)];have h1:=ft.notType;have h2:=ft.canCreate
 repeat (any_goals (first|assumption|wp_step))
 have hz:(s.heap.push {cls:=.type "list_iterator",data:=.fields #[.ref l,.int 0 0]}).objs.size=s.heap.objs.size+1:=Heap.size_push ..;have he:IsEnum ((s.heap.push {cls:=.type "list_iterator",data:=.fields #[.ref l,.int 0 0]}).push
   {cls:=.type "enumerate",data:=.fields #[.none,.bool false,.ref s.heap.objs.size,rawInt 1,.none,.none]}) (s.heap.objs.size+1) s.heap.objs.size 1 .none:=by
  have:=Heap.get?_push_size (s.heap.push {cls:=.type "list_iterator",data:=.fields #[.ref l,.int 0 0]})
   (o:={cls:=.type "enumerate",data:=.fields #[.none,.bool false,.ref s.heap.objs.size,rawInt 1,.none,.none]}) rfl
  rw[hz]at this;exact this
 have fin:=h _ he ⟨_,Heap.get?_push_of_some _ (Heap.get?_push_size _ rfl),rfl,rfl⟩ (by rw[Heap.size_push,hz]) λb o x=>Heap.get?_push_of_some _ (Heap.get?_push_of_some _ x)
 refine codeAny_mono (codeAny_call_builtin ft.plain F.entry_enumerate_new (wpAny_of_eq YK (gX l items n c8 sl t prog w A.in1 (wants (λobj s₁=>s₁.TypeIs obj "enumerate" /\ Q obj s₁) E) s ⟨hl,?_⟩))) λr s₁ hr=>?_
 ·show _/\_
  rw[hz];exact⟨⟨_,he,rfl⟩,fin⟩
 cases r with
 |error e=>exact hr
 |ok fl=>
  cases fl with
  |ret obj=>
   obtain⟨hT,hq⟩:=hr;have Tz:=ft.init.lookup;have hbi:=ft.init.bind obj
   repeat (any_goals (first|assumption|wp_step))
   refine codeAny_mono (codeAny_call_builtin ft.init.plain F.entry_object_init (ft.init.check _ _ _ _ _ _ _ _ hT (qN _ _ _) (iN ft.init.lookup ft.made (by decide) prog w A.in1 (wants (λr s₂=>r=.none/\Q obj s₂) E) s₁ ⟨hT,rfl,hq⟩))) λr₂ s₂ hr₂=>?_
   cases r₂ with
   |error e=>exact hr₂
   |ok fl₂=>
    cases fl₂ with
    |ret r=>
     obtain⟨rfl,hq⟩:=hr₂
     repeat (any_goals (first|assumption|wp_step))
    |_=>exact hr₂.elim
  |_=>exact hr.elim
end
end PySem
namespace L2
open PySem PySem.Spec PyProof.Rows
theorem Ad{prog:Program}{w:World}{A:Around}{it:Addr}{fp:BM}{n:Nat}{P:Nat->Value->Prop}{St:Nat->Heap->Prop}(D:Draws prog w A it fp n P St)(m:Nat):Draws prog w A it fp (m+n) (λj x=>∃i,j=m+i/\P i x) (λj h=>∃i,j=m+i/\St i h) where
 live:=λ_ h ⟨i,_,st⟩=>D.live i h st
 frame:=λ_ h h' ⟨i,e,st⟩ k=>⟨i,e,D.frame i h h' st k⟩
 item:=λj s Q E hj ⟨i,e,st⟩ hQ=>D.item i s Q E (by omega) st λx h' tk p mZ sb=>hQ x h' tk ⟨i,e,p⟩ ⟨i+1,by omega,mZ⟩ sb
 done:=λs Q E ⟨i,e,st⟩ hE=>by
  have:i=n:=by omega
  subst this;exact D.done s Q E st hE
def Ov(K:aS)(m:Nat)(l:Addr)(xs:List V):It:=
 ⟨λi H=>i<xs.length/\bW K H l xs,λi H v H'=>∃p x,H p=none/\xs[i]?=some x/\v=.ref p/\H'=upd H p (.tup [.int ((m+i:Nat):Int),x]),λi H=>i=xs.length/\bW K H l xs⟩
theorem lL{P:Program}{w:World}{K:aS}{elts:Bz}{x1:Nat}{pos:Pos}{l e it:Addr}{xs:List V}{m:Nat}(TF:e≠it)(hle:l≠e)(Tz:l≠it) :
  Turn P w K (.Tuple elts x1 pos) (Ov K m l xs) [e,it] e (λi h=>(∃old,IsEnum h e it ((m+i:Nat):Int) old)/\h.IsListIter it l i) where
 mem:=by simp
 obj:=λi h st b hb=>by
  obtain⟨⟨old,he⟩,o1,e1,_,d1⟩:=st;simp only[cH,mU,or_false]at hb;rcases hb with rfl|rfl
  ·exact⟨_,he,λv q=>by cases q⟩
  ·exact⟨o1,e1,λv q=>by rw[d1]at q;cases q⟩
 keep:=λi h h' st k=>by
  obtain⟨⟨old,he⟩,h1⟩:=st;exact⟨⟨old,k e (by simp) _ he⟩,h1.at λo q=>k it (by simp) o q⟩
 item:=by
  intro X hP hw hK hc i ae s σ H E I hf st hg;subst hP hw hK;obtain⟨hi,hq⟩:=hg;obtain⟨⟨old,he⟩,h1⟩:=st;obtain⟨av,rv,pl,hsz⟩:=I.list hq;obtain⟨u,hu,ru⟩:=rv.get (eM hi);have YL:i<av.toArray.size:=by rw[eU,<- rv.length];exact hi
  have D:=Ad (Draws.list (prog:=X.prog) (w:=X.w) (A:=X.A.in1) (I.ok.hd hc) it l Tz av.toArray) m;refine wpAny_pyNext_enum_itemD (n:=m+av.toArray.size) D he ⟨i,rfl,h1,pl.isList⟩ (by omega) TF (by simp only[cH,mU,or_false,not_or];exact⟨TF,Ne.symm hle⟩) λx h' tk px a1 a2 a3 a4 kk=>?_
  obtain⟨i',ei,px⟩:=px
  have:i'=i:=by omega
  subst this;have hx:x=u:=by
   rw[List.getElem?_toArray,hu]at px;exact(jH.inj px).symm
  subst hx;obtain⟨i2,ei2,a2,_⟩:=a2
  have:i2=i'+1:=by omega
  subst this;refine⟨.ref s.heap.objs.size,rfl,?_⟩;refine wpAny_letOwnedTupleGo_enum (s:={s with heap:=h',toks:=tk+1}) a1 λCt b1 b2=>?_
  have lt:∀{d o},s.heap.get? d=some o->s.heap.objs.size≠d:=λe=>CJ (Heap.lt_size e);have YM:∀b∈[e,it],s.heap.objs.size≠b:=λb hb=>by
   obtain⟨o1,e1,_⟩:=h1;simp only[cH,mU,or_false]at hb;rcases hb with rfl|rfl
   ·exact lt he
   ·exact lt e1
  have keep:∀b o,b∉[e,it]->s.heap.get? b=some o->Ct.get? b=some o:=λb o hb q=>by
   simp only[cH,mU,or_false,not_or]at hb;exact(b2.2 b hb.1).trans (kk b o hb.1 hb.2 q)
  have hn:H s.heap.objs.size=none:=I.aV.fresh (cC _);have hT:Ct.get? s.heap.objs.size=some {cls:=.type "tuple",data:=.seq #[.int ((m+i':Nat):Int) tk,x]}:=(b2.2 _ (lt he)).trans a3;have Ow:IsTup Ct s.heap.objs.size ([.int ((m+i':Nat):Int) tk,x]:B2).toArray:=⟨_,hT,rfl,0,rfl⟩;have Ox:∀b v,H b=some v->b∉[e,it]:=λb v q hb=>by rw[(hf b hb).1]at q;cases q
  have I1:Inv X ae σ (upd H s.heap.objs.size (.tup [.int ((m+i':Nat):Int),xs[i']])) {s with heap:=Ct,toks:=tk+1}:=by
   refine I.step (g':=s.gens) (d':=s.drawn) (t':=tk+1) (ch:=[e,it]) (λb hb=>⟨(hf b hb).2.2.2.1,(hf b hb).2.1,(hf b hb).2.2.2.2.1,(hf b hb).2.2.2.2.2⟩) (λb o _ _ hb e _=>keep b o hb e) (λb o _ _ hb e _=>⟨o.slots,keep b o hb e⟩)
    (λb o hb e n=>by rw[ak (Ne.symm (lt e))];exact n) (λb o hb e=>⟨o,keep b o hb e⟩) (λb ys e=>by rw[ak (aC e hn)];exact e) (λb o v e=>by rw[ak (aC e hn)];exact e)
    (λb ps e=>⟨#[],by rw[ak (aC e hn),e];simp⟩) (λm hm=>?_) ?_ I.bare
   ·obtain⟨o,es,ep,ho,r⟩:=hm
    exact⟨o,es,ep,keep _ o (λhb=>(hf _ hb).2.1 rfl) ho,r⟩
   ·intro b v e
    by_cases hb:b=s.heap.objs.size
    ·subst hb
     rw[af]at e;cases e;exact⟨by show 2<=sizeLine;decide,_,.cons ⟨_,rfl⟩ (.cons ru .nil),Ow⟩
    ·rw[ak hb]at e
     refine(I.aV b v e).o9 (λc o hc q=>keep c o ?_ q) (λc q=>by rw[ak (aC q hn)];exact q) λc ys q=>by rw[ak (aC q hn)];exact q
     rcases hc with rfl|hc
     ·exact Ox c v e
     ·exact Ox c _ hc
  have eN:((m+i':Nat):Int)+1=((m+(i'+1):Nat):Int):=by omega
  refine⟨.ref s.heap.objs.size,_,I1,rfl,⟨_,_,hn,eM hi,rfl,rfl⟩,⟨⟨x,eN▸b1⟩,a2.at λo q=>(b2.2 it TF.symm).trans q⟩,λb hb=>?_⟩;rw[ak (Ne.symm (YM b hb))];exact(hf b hb).1
 done:=by
  intro X hP hw hK hc i ae s σ H E I hf st hg;subst hP hw hK;obtain⟨hi,hq⟩:=hg;obtain⟨⟨old,he⟩,h1⟩:=st;obtain⟨av,rv,pl,hsz⟩:=I.list hq;have hl:=rv.length;have D:=Ad (Draws.list (prog:=X.prog) (w:=X.w) (A:=X.A.in1) (I.ok.hd hc) it l Tz av.toArray) m;refine wpAny_pyNext_enum_endD (n:=m+av.toArray.size) D he ⟨i,by rw[eU];omega,h1,pl.isList⟩ λh' kk=>⟨rfl,?_⟩
  have Ox:∀b v,H b=some v->b∉[e,it]:=λb v q hb=>by rw[(hf b hb).1]at q;cases q
  have keep:∀b o,b∉[e,it]->s.heap.get? b=some o->h'.get? b=some o:=λb o hb q=>by
   simp only[cH,mU,or_false,not_or]at hb;exact kk b o hb.2 q
  refine I.step (g':=s.gens) (d':=s.drawn) (t':=s.toks) (ch:=[e,it]) (λb hb=>⟨(hf b hb).2.2.2.1,(hf b hb).2.1,(hf b hb).2.2.2.2.1,(hf b hb).2.2.2.2.2⟩) (λb o _ _ hb e _=>keep b o hb e) (λb o _ _ hb e _=>⟨o.slots,keep b o hb e⟩)
   (λb o hb e n=>n) (λb o hb e=>⟨o,keep b o hb e⟩) (λ_ _ e=>e) (λ_ _ _ e=>e) (λb ps e=>⟨#[],by rw[e];simp⟩) (λm hm=>?_) (λb v e=>?_) I.bare
  ·obtain⟨o,es,ep,ho,r⟩:=hm
   exact⟨o,es,ep,keep _ o (λhb=>(hf _ hb).2.1 rfl) ho,r⟩
  ·refine(I.aV b v e).o9 (λc o hc q=>keep c o ?_ q) (λ_ q=>q) λ_ _ q=>q
   rcases hc with rfl|hc
   ·exact Ox c v e
   ·exact Ox c _ hc
 self:=λ_ _ _ _ _ st h=>by obtain⟨⟨old,he⟩,_⟩:=st;exact wpAny_pyIter_enum he h
section
variable{X:Cx}
def JD(K:aS)(m:Nat)(ta:TA):TI:=λσ H R=>ta σ H λvs H1=>∃l xs,vs=[.ref l]/\bW K H1 l xs/\R (Ov K m l xs) H1
theorem Oz{a:Expr}{ta:TA}{elts:Bz}{x1:Nat}{gB p pos:Pos}(hg:Gl X "enumerate")(hm:X.mg "enumerate" = none)(ha:PA X [a] ta)(hs:starEach [a] X.env=[(false,eval a X.env)]) :
  PI X (.Tuple elts x1 gB) (.Call (.Name "enumerate" p) [a] [] pos) (JD X.K 0 ta):=by
 intro ae s σ H R I h;refine Call_ (dI I hg hm GW (sI (bo (ha pos ae s σ H _ I h) λus s1 ⟨vs,H1,I1,r1,q1⟩=>?_) (by rw[hs];rfl) rfl))
 obtain⟨l,xs,e,hq,q⟩:=q1;subst e;obtain⟨u,rfl,rx⟩:=vals1 r1;cases rx;obtain⟨av,rv,pl,hz⟩:=I1.list hq;refine call_enumerate_list pl.isList λh' a1 a2 _ kk=>wpAny_pyIter_enum (s:={s1 with heap:=h'}) a1 ?_
 have ll:l<s1.heap.objs.size:=let⟨_,e,_⟩:=pl.isList;Heap.lt_size e;refine⟨s1.heap.objs.size+1,_,_,_,H1,rfl,I1.kept (t':=s1.toks) kk,lL (l:=l) (it:=s1.heap.objs.size) (CJ (sD _)) (cL (yO ll)) (cL ll),⟨⟨_,a1⟩,a2⟩,λb hb=>?_,q⟩;have xu:s1.heap.objs.size<=b:=by
  simp only[cH,mU,or_false]at hb;rcases hb with rfl|rfl
  ·exact sE _ _
  ·exact cC _
 exact I1.pD xu (I1.aV.fresh xu)
theorem JE{a:Expr}{ta:TA}{elts:Bz}{x1 k1:Nat}{gB p pos p1 kp:Pos}(hg:Gl X "enumerate")(hm:X.mg "enumerate" = none)(ha:PA X [a] ta)(hs:starEach [a] X.env=[(false,eval a X.env)]) :
  PI X (.Tuple elts x1 gB) (.Call (.Name "enumerate" p) [a] [⟨some (Str.ofString "start"),.Constant (.int 1) k1 p1,kp⟩] pos) (JD X.K 1 ta):=by
 intro ae s σ H R I h;refine wpAny_Call_Name_kw (dI I hg hm GW ?_);refine Gh (P:=λ_=>True) (by rw[hs];rfl) (λh _=>⟨.machine,.inr (.inl rfl),.now⟩) ?_
 refine GX rfl (bo (ha pos ae s σ H _ I h) λus s1 ⟨vs,H1,I1,r1,q1⟩=>?_) hs;show wpAny _ _ (evalAll [(do let v <- eval (.Constant (.int 1) k1 p1) X.env;standAt pos;pure v)]) _ _ s1
 refine wpAny_evalAll_cons (wpAny_bind (wpAny_Constant_int (wpAny_bind (wpAny_standAt (wpAny_pure (wpAny_evalAll_nil ⟨trivial,?_⟩))))));obtain⟨l,xs,e,hq,q⟩:=q1;subst e;obtain⟨u,rfl,rx⟩:=vals1 r1;cases rx;have I2:Inv X ae σ H1 {s1 with toks:=s1.toks+1}:=I1.tok _
 obtain⟨av,rv,pl,hz⟩:=I2.list hq;show wpAny _ _ (call (.type "enumerate") [.ref l] [(Str.ofString "start",.int 1 s1.toks)]) _ _ {s1 with toks:=s1.toks+1}
 refine jN pl.isList λh' a1 a2 _ kk=>wpAny_pyIter_enum (s:={s1 with heap:=h',toks:=s1.toks+1}) a1 ?_
 have ll:l<s1.heap.objs.size:=let⟨_,e,_⟩:=pl.isList;Heap.lt_size e;refine⟨s1.heap.objs.size+1,_,_,_,H1,rfl,I2.kept (t':=s1.toks+1) kk,lL (m:=1) (l:=l) (it:=s1.heap.objs.size) (CJ (sD _)) (cL (yO ll)) (cL ll),⟨⟨_,a1⟩,a2⟩,λb hb=>?_,q⟩;have xu:s1.heap.objs.size<=b:=by
  simp only[cH,mU,or_false]at hb;rcases hb with rfl|rfl
  ·exact sE _ _
  ·exact cC _
 exact I2.pD xu (I2.aV.fresh xu)
end
end L2
namespace D
inductive Ky where
 |i (n:Int)|s (l:B1)
 deriving DecidableEq
inductive T where
 |non|bl (b:Bool)|int (i:Int)|str (l:B1)|tup (xs:List T)|lst (xs:List T)
 |scr (ns:Dx)
 |obj (c:Nat) (fs:List T)
 |own (k:Nat)
 |c8 (ks:List Ky) (vs:List T)
inductive C where
 |val (t:T)|ol (ts:List T)|od (ks:List Ky) (vs:List T)
 |yg (t:T)
structure Ob where
 c:Nat
 fs:List C
structure S where
 r:List (Option C)
 m:List Ob
abbrev Fh:=List (Option C)
abbrev Fm:=Option (List T)
abbrev Fs:=List T
abbrev FK:=Option T
abbrev FR:=List Ob
inductive Res(α:Type) where
 |ok (a:α)|bad
 |exc (c:Nat) (fs:Fs) (s:S)
noncomputable def Res.bind{α β:Type}(x:Res α)(f:α->Res β):Res β:=match x with
 |.ok a=>f a
 |.bad=>.bad
 |.exc c fs s=>.exc c fs s
theorem aa{α β:Type}{x:Res α}{f:α->Res β}{b:β}(h:x.bind f=.ok b):∃a,x=.ok a/\f a=.ok b:=by
 cases x with
 |ok a=>exact⟨a,rfl,h⟩
 |bad=>cases h
 |exc c fs s=>cases h
noncomputable def aT{α:Type}:Option α->Res α
 |some a=>.ok a
 |none=>.bad
theorem ah{α:Type}{o:Option α}{a:α}(h:aT o=.ok a):o=some a:=by
 cases o with
 |none=>cases h
 |some b=>cases h;rfl
noncomputable def gd{α:Type}(p:Prop)[Decidable p](x:α):Option α:=if p then some x else none
theorem aL{α:Type}{p:Prop}[Decidable p]{x a:α}(h:gd p x=some a):p/\x=a:=by
 unfold gd at h;split at h
 ·rename_i q;cases h;exact⟨q,rfl⟩
 ·cases h
abbrev FE:=S->Res (T×S)
abbrev FT:=S->Res (Bool×S)
abbrev FL:=S->Res (Fs×S)
inductive Out where
 |nx|rt (t:T)|bk|ct
abbrev FS:=S->Res (Out×S)
abbrev Fn:=Fs->FR->Res (T×FR)
def OA:T->T->FK
 |.int i,.int j=>some (.int (i+j))
 |.str a,.str b=>gd (a.length+b.length<=1000000) (.str (a++b))
 |.lst a,.lst b=>gd (a.length+b.length<=1000000) (.lst (a++b))
 |_,_=>none
def OB:T->T->FK
 |.int i,.int j=>some (.int (i-j))
 |_,_=>none
def OC:T->T->FK
 |.int i,.int j=>gd (((-(2^64)<i/\i<2^64)\/(-(2^64)<j/\j<2^64))\/(i.natAbs.log2<2000000/\j.natAbs.log2<2000000)) (.int (i*j))
 |.lst a,.int k=>gd (k<1000000/\-1000000<k/\a.length*k.toNat<=1000000) (.lst (cj k.toNat a).flatten)
 |.str a,.int k=>gd (2<=k/\k<1000000/\a≠[]/\a.length*k.toNat<=1000000) (.str (cj k.toNat a).flatten)
 |_,_=>none
def OD:T->T->FK
 |.int i,.int j=>gd (0<j/\j<1073741824) (.int (i/j))
 |_,_=>none
def OE:T->T->FK
 |.int i,.int j=>gd (0<j) (.int (i % j))
 |_,_=>none
def OF:T->T->FK
 |.int i,.int j=>gd (0<=j/\j<=1000000/\i.natAbs<2^64) (.int (i^j.toNat))
 |_,_=>none
def xx:T->FK
 |.int i=>some (.int (-i))
 |_=>none
def Ae(f:Int->Int->Bool):T->T->FK
 |.int i,.int j=>some (.bl (f i j))
 |_,_=>none
mutual
noncomputable def eqT:T->T->Bool
 |.non,.non=>true
 |.bl a,.bl b=>a == b
 |.int a,.int b=>decide (a=b)
 |.bl a,.int b=>decide ((if a then 1 else 0:Int)=b)
 |.int a,.bl b=>decide (a=(if b then 1 else 0:Int))
 |.str a,.str b=>decide (a=b)
 |.tup a,.tup b=>gZ a b
 |.lst a,.lst b=>gZ a b
 |.scr a,.scr b=>decide (a=b)
 |.obj c a,.obj d b=>decide (c=d)&&gZ a b
 |.own a,.own b=>decide (a=b)
 |.c8 ks a,.c8 ls b=>decide (ks=ls)&&gZ a b
 |_,_=>false
noncomputable def gZ:Fs->Fs->Bool
 |[],[]=>true
 |a::as,b::bs=>eqT a b&&gZ as bs
 |_,_=>false
end
mutual
theorem lM:∀t:T,eqT t t=true
 |.non=>rfl
 |.bl b=>by cases b<;>rfl
 |.int i=>decide_eq_true rfl
 |.str l=>decide_eq_true rfl
 |.tup xs=>fK xs
 |.lst xs=>fK xs
 |.scr ns=>decide_eq_true rfl
 |.obj c xs=>by
  show(decide (c=c)&&gZ xs xs)=true;rw[decide_eq_true rfl,fK xs];rfl
 |.own k=>decide_eq_true rfl
 |.c8 ks xs=>by
  show(decide (ks=ks)&&gZ xs xs)=true;rw[decide_eq_true rfl,fK xs];rfl
theorem fK:∀ts:Fs,gZ ts ts=true
 |[]=>rfl
 |t::ts=>by
  show(eqT t t&&gZ ts ts)=true;rw[lM t,fK ts];rfl
end
def bg:T->Bool
 |.bl _=>true
 |.int _=>true
 |.str _=>true
 |.non=>true
 |_=>false
def all2(p:T->T->Bool):Fs->Fs->Bool
 |a::as,b::bs=>p a b&&all2 p as bs
 |_,_=>true
def shape:Nat->T->T->Bool
 |n+1,.tup as,.tup bs=>all2 (shape n) as bs
 |n+1,.lst as,.lst bs=>all2 (shape n) as bs
 |_+1,.c8 [] [],.c8 [] []=>true
 |_,a,b=>bg a&&bg b
def TH:T->T->FK:=λa b=>gd (shape 5 a b=true) (.bl (eqT a b))
def TJ:T->T->FK:=λa b=>gd (shape 5 a b=true) (.bl (!eqT a b))
def TL:T->T->FK
 |.bl a,.bl b=>some (.bl (a == b))
 |.non,.non=>some (.bl true)
 |.own _,.own _=>none
 |_,.non=>some (.bl false)
 |_,_=>none
def JF:T->T->FK
 |.bl a,.bl b=>some (.bl (a != b))
 |.non,.non=>some (.bl false)
 |.own _,.own _=>none
 |_,.non=>some (.bl true)
 |_,_=>none
def TM:B1->B1->Bool
 |[c],l=>decide (c∈l)
 |x,l=>(cD (l.length+1)).any λi=>decide (i+x.length<=l.length)&&((l.drop i).take x.length == x)
def JG:T->T->Option Bool
 |.str x,.str l=>some (TM x l)
 |x,.tup ys=>gd (bg x=true/\ys.all bg=true) (ys.any λy=>eqT y x)
 |x,.lst ys=>gd (bg x=true/\ys.all bg=true) (ys.any λy=>eqT y x)
 |_,_=>none
def inD:T->T->FK:=λx y=>(JG x y).map .bl
def JH:T->T->FK:=λx y=>(JG x y).map λb=>.bl (!b)
noncomputable def atT{α:Type}(xs:List α)(i:Int):Option α:=if 0<=i then(if i<xs.length then xs[i.toNat]? else none)else if -(xs.length:Int)<=i then xs[(i+xs.length).toNat]? else none
def nq(ks:List Ky)(vs:Fs)(k:Ky):FK:=match ks,vs with
 |a::ks,v::vs=>if a=k then some v else nq ks vs k
 |_,_=>none
def putK:List Ky->Fs->Ky->T->List Ky×Fs
 |a::ks,v::vs,k,t=>if a=k then(a::ks,t::vs)else let p:=putK ks vs k t;(a::p.1,v::p.2)
 |_,_,k,t=>([k],[t])
def pR:T->Option Ky
 |.int i=>some (.i i)
 |.str l=>some (.s l)
 |_=>none
def OG:T->T->FK
 |.lst xs,.int i=>atT xs i
 |.tup xs,.int i=>atT xs i
 |.str l,.int i=>(atT l i).map λc=>.str [c]
 |.scr ns,.int i=>(atT ns i).map .int
 |.c8 ks vs,x=>(pR x).bind (nq ks vs)
 |_,_=>none
def TN:T->FK
 |.str l=>some (.int l.length)
 |.tup xs=>some (.int xs.length)
 |.lst xs=>some (.int xs.length)
 |.scr ns=>some (.int ns.length)
 |.c8 ks _=>some (.int ks.length)
 |_=>none
def gP(n d:Nat):D2->Nat
 |none=>d
 |some v=>if v<0 then(v+(n:Int)).toNat else min v.toNat n
noncomputable def dQ{α:Type}(xs:List α)(lo hi:D2):List α:=(xs.drop (gP xs.length 0 lo)).take (gP xs.length xs.length hi-gP xs.length 0 lo)
def RW(lo hi:D2):T->FK
 |.str l=>some (.str (dQ l lo hi))
 |.lst l=>some (.lst (dQ l lo hi))
 |.scr ns=>some (.lst ((dQ ns lo hi).map .int))
 |_=>none
def OH:T->Option Bool
 |.bl b=>some b
 |.lst ts=>some (!ts.isEmpty)
 |_=>none
noncomputable def strsOf:Fs->Option Ap
 |[]=>some []
 |.str l::ts=>(strsOf ts).map (l::·)
 |_=>none
noncomputable def gp(sep:B1):Ap->B1
 |[]=>[]
 |[a]=>a
 |a::b::r=>a++sep++gp sep (b::r)
def Hk:T->T->FK
 |.str sep,.lst ts=>(strsOf ts).bind λys=>gd ((ys.map (·.length)).sum+ys.length*sep.length<=1000000) (.str (gp sep ys))
 |_,_=>none
noncomputable def pre(s l:B1):Bool:=decide (s.length<=l.length)&&(l.take s.length == s)
noncomputable def TQ(s l:B1):Bool:=decide (s.length<=l.length)&&(l.drop (l.length-s.length) == s)
def boolsOf:Fs->Option Ee
 |[]=>some []
 |.bl b::ts=>(boolsOf ts).map (b::·)
 |_=>none
def JI:T->FK
 |.lst ts=>(boolsOf ts).map λbs=>.bl (bs.all id)
 |_=>none
def OI:T->FK
 |.lst ts=>(boolsOf ts).map λbs=>.bl (bs.any id)
 |_=>none
def Hl:T->FK
 |.lst a=>some (.lst a)
 |.tup a=>some (.lst a)
 |_=>none
def OJ:T->FK
 |.int i=>some (.int (if i<0 then -i else i))
 |_=>none
def aK:FE:=λ_=>.bad
def cF(t:T):FE:=λs=>.ok (t,s)
def i7(s:S)(i:Nat)(c:C):S:={s with r:=s.r.set i (some c)}
noncomputable def vF(i:Nat):FE:=λs=>match s.r[i]? with
 |some (some (.val t))=>.ok (t,s)
 |some (some (.ol ts))=>.ok (.lst ts,i7 s i (.val (.lst ts)))
 |some (some (.od ks ts))=>.ok (.c8 ks ts,i7 s i (.val (.c8 ks ts)))
 |_=>.bad
def kN(g:T->FK)(a:FE):FE:=λs=>(a s).bind λp=>(aT (g p.1)).bind λt=>.ok (t,p.2)
def dD(g:T->T->FK)(a b:FE):FE:=λs=>(a s).bind λp=>(b p.2).bind λq=>(aT (g p.1 q.1)).bind λt=>.ok (t,q.2)
def aU:FL:=λs=>.ok ([],s)
def cJ(a:FE)(r:FL):FL:=λs=>(a s).bind λp=>(r p.2).bind λq=>.ok (p.1::q.1,q.2)
def ee:FL:=λ_=>.bad
def eg(g:Fs->FK)(a:FL):FE:=λs=>(a s).bind λp=>(aT (g p.1)).bind λt=>.ok (t,p.2)
def iO(ts:Fs):FK:=gd (ts.length<=1000) (.tup ts)
def lN(ts:Fs):FK:=gd (ts.length<=1000) (.lst ts)
def nu:FT:=λ_=>.bad
def tB(a:FE):FT:=λs=>(a s).bind λp=>(aT (OH p.1)).bind λb=>.ok (b,p.2)
def JJ(a b:FT):FT:=λs=>(a s).bind λp=>if p.1 then b p.2 else .ok (false,p.2)
def sf(a b:FT):FT:=λs=>(a s).bind λp=>if p.1 then .ok (true,p.2)else b p.2
def g_(a:FT):FT:=λs=>(a s).bind λp=>.ok (!p.1,p.2)
def tu:FT:=λs=>.ok (true,s)
def OL:T->Option Bool
 |.bl b=>some b
 |_=>none
def qO(a b:FE):FE:=λs=>(a s).bind λp=>(aT (OL p.1)).bind λk=>if k then b p.2 else .ok (.bl false,p.2)
def Ww(a b:FE):FE:=λs=>(a s).bind λp=>(aT (OL p.1)).bind λk=>if k then .ok (.bl true,p.2)else b p.2
def JK(a:FE):FE:=λs=>(a s).bind λp=>(aT (OL p.1)).bind λk=>.ok (.bl (!k),p.2)
def RX(c:FT)(a b:FE):FE:=λs=>(c s).bind λp=>if p.1 then a p.2 else b p.2
abbrev FO:=S->Res (D2×S)
def MI:FO:=λs=>.ok (none,s)
def TR:T->D2
 |.int i=>some i
 |_=>none
def Hm(a:FE):FO:=λs=>(a s).bind λp=>(aT (TR p.1)).bind λi=>.ok (some i,p.2)
def MJ(a:FE)(lo hi:FO):FE:=λs=>(a s).bind λp=>(lo p.2).bind λq=>(hi q.2).bind λz=>(aT (RW q.1 z.1 p.1)).bind λt=>.ok (t,z.2)
def jO:Option (Option C)->Fm
 |some (some (.ol ts))=>some ts
 |_=>none
def Hn(i:Nat):FE:=λs=>(aT (jO s.r[i]?)).bind λts=>.ok (.int ts.length,s)
def OM(i:Nat)(b:FE):FE:=λs=>(aT (jO s.r[i]?)).bind λ_=>(b s).bind λp=>(aT (jO p.2.r[i]?)).bind λts=>(aT (OG (.lst ts) p.1)).bind λt=>.ok (t,p.2)
def gD(tab:Ap)(c f:Nat):Option Nat:=(tab[c]?).bind λns=>ns.idxOf? f
def aI(tab:Ap)(f:Nat)(a:FE):FE:=λs=>(a s).bind λp=>match p.1 with
 |.obj c fs=>(aT ((gD tab c f).bind λj=>fs[j]?)).bind λt=>.ok (t,p.2)
 |.own k=>(aT ((p.2.m[k]?).bind λob=>(gD tab ob.c f).bind λj=>ob.fs[j]?)).bind λc=>(match c with
  |.val t=>.ok (t,p.2)
  |_=>.bad)
 |_=>.bad
def DJ(c n:Nat)(fl:FL):FE:=λs=>(fl s).bind λp=>if p.1.length=n then .ok (.obj c p.1,p.2)else .bad
def ny(c:Nat)(g:Fn)(fl:FL):FE:=λs=>(fl s).bind λp=>match g (.own p.2.m.length::p.1) (p.2.m++[⟨c,[]⟩])with
 |.ok (.non,m')=>.ok (.own p.2.m.length,{p.2 with m:=m'})
 |.exc c fs s'=>.exc c fs {p.2 with m:=s'.m}
 |_=>.bad
def JL(c:Nat):T->FK
 |.lst ts=>some (.obj c [.lst ts])
 |_=>none
def bj(g:Fn)(ds:Fs)(fl:FL):FE:=λs=>(fl s).bind λp=>match g (p.1++ds) p.2.m with
 |.ok q=>.ok (q.1,{p.2 with m:=q.2})
 |.bad=>.bad
 |.exc c fs s'=>.exc c fs {p.2 with m:=s'.m}
def aH(g:Nat->Option Fn)(o:FE)(fl:FL):FE:=λs=>(o s).bind λp=>match p.1 with
 |.own k=>(aT ((p.2.m[k]?).bind λob=>g ob.c)).bind λh=>bj h [] (λs=>(fl s).bind λq=>.ok (.own k::q.1,q.2)) p.2
 |.obj c fs=>(aT (g c)).bind λh=>bj h [] (λs=>(fl s).bind λq=>.ok (.obj c fs::q.1,q.2)) p.2
 |_=>.bad
def RY:T->Fm
 |.lst ts=>some ts
 |.tup ts=>some ts
 |.str l=>some (l.map λc=>.str [c])
 |.scr ns=>some (ns.map .int)
 |_=>none
def tD(a:FE):FL:=λs=>(a s).bind λp=>(aT (RY p.1)).bind λts=>.ok (ts,p.2)
def mK(lo:Int)(n:Nat):Fs:=(cD n).map λk=>.int (lo+(k:Nat))
def tF:Fs->Fm
 |[.int j]=>gd (j<1000000/\-1000000<j) (mK 0 j.toNat)
 |[.int i,.int j]=>gd (i<1000000/\-1000000<i/\j<1000000/\-1000000<j) (mK i (j-i).toNat)
 |[.int i,.int j,.int k]=>gd (k=-1/\i<1000000/\-1000000<i/\j<1000000/\-1000000<j) ((cD (i-j).toNat).map λk=>.int (i-(k:Nat)))
 |_=>none
def DK(g:Fs->Fm)(a:FL):FL:=λs=>(a s).bind λp=>(aT (g p.1)).bind λts=>.ok (ts,p.2)
def qP:Int->Fs->Fs
 |_,[]=>[]
 |n,t::ts=>.tup [.int n,t]::qP (n+1) ts
def ON(n:Int):T->Fm
 |.lst ts=>some (qP n ts)
 |_=>none
def iE(n:Int)(a:FE):FL:=λs=>(a s).bind λp=>(aT (ON n p.1)).bind λts=>.ok (ts,p.2)
abbrev FG:=T->Fh->Option Fh
def setG(i:Nat):FG:=λt r=>some (r.set i (some (.val t)))
def nZ:B1->Fs->Fh->Option Fh
 |[],[],r=>some r
 |i::is,t::ts,r=>nZ is ts (r.set i (some (.val t)))
 |_,_,_=>none
def gq(is:B1):FG:=λt r=>match t with
 |.tup ts=>nZ is ts r
 |_=>none
def DL(r:Fh)(j:Nat):Fh:=match r[j]? with
 |some (some (.ol ts))=>r.set j (some (.val (.lst ts)))
 |_=>r
def jP:B1->Fh->Fh
 |[],r=>r
 |j::js,r=>jP js (DL r j)
def iP(k:Nat)(js:B1)(r:Fh):Fh:=cj k none++js.map λj=>match r[j]? with
 |some (some (.val t))=>some (.val t)
 |_=>none
def dJ(g:FG)(c:FT)(e:FE)(b:Fh):Fs->FR->Res (Fs×FR)
 |[],m=>.ok ([],m)
 |t::ts,m=>(aT (g t b)).bind λb1=>(c ⟨b1,m⟩).bind λp=>if p.1 then(e p.2).bind λq=>(dJ g c e b ts q.2.m).bind λz=>.ok (q.1::z.1,z.2)else dJ g c e b ts p.2.m
def eY(src:FL)(k:Nat)(js:B1)(g:FG)(c:FT)(e:FE):FL:=λs=>(src s).bind λp=>if p.1.length<=1000000 then
  (dJ g c e (iP k js (jP js p.2.r)) p.1 p.2.m).bind λq=>.ok (q.1,⟨jP js p.2.r,q.2⟩)else .bad
def jj(fl:FL):FE:=λs=>(fl s).bind λp=>.ok (.lst p.1,p.2)
def bZ:FS:=λs=>.ok (.nx,s)
def dc:FS:=λ_=>.bad
def ao(a b:FS):FS:=λs=>(a s).bind λp=>match p.1 with
 |.nx=>b p.2
 |o=>.ok (o,p.2)
def aZ(i:Nat)(a:FE):FS:=λs=>(a s).bind λp=>.ok (.nx,i7 p.2 i (.val p.1))
def pS(i:Nat)(a:FL):FS:=λs=>(a s).bind λp=>.ok (.nx,i7 p.2 i (.ol p.1))
def qQ(g:FG)(a:FE):FS:=λs=>(a s).bind λp=>(aT (g p.1 p.2.r)).bind λr=>.ok (.nx,{p.2 with r:=r})
def bw(a:FE):FS:=λs=>(a s).bind λp=>.ok (.rt p.1,p.2)
def bq(a:FE):FS:=λs=>(a s).bind λp=>.ok (.nx,p.2)
def fW(c:FT)(a b:FS):FS:=λs=>(c s).bind λp=>if p.1 then a p.2 else b p.2
def OO:FS:=λs=>.ok (.bk,s)
def OP:FS:=λs=>.ok (.ct,s)
def iQ(i:Nat)(a:FE):FS:=λs=>(aT (jO s.r[i]?)).bind λ_=>(a s).bind λp=>(aT (jO p.2.r[i]?)).bind λts=>(aT (gd (ts.length<1000000) ts)).bind λts=>.ok (.nx,i7 p.2 i (.ol (ts++[p.1])))
def cV(i:Nat)(b a:FE):FS:=λs=>(a s).bind λp=>(aT (jO p.2.r[i]?)).bind λ_=>(b p.2).bind λq=>(aT (jO q.2.r[i]?)).bind λts=>(aT (TR q.1)).bind λj=>(aT (gd (0<=j/\j<ts.length) (ts.set j.toNat p.1))).bind λus=>.ok (.nx,i7 q.2 i (.ol us))
def JM(g:T->T->FK)(i:Nat)(a:FE):FS:=λs=>match s.r[i]? with
 |some (some (.val x))=>(a s).bind λp=>(aT (g x p.1)).bind λt=>.ok (.nx,i7 p.2 i (.val t))
 |_=>.bad
def setAt(fs:List C)(j:Nat)(c:C):Option (List C):=if j<fs.length then some (fs.set j c)else if j=fs.length then some (fs++[c])else none
def cy(tab:Ap)(f:Nat)(c:C)(ob:Ob):Option Ob:=(gD tab ob.c f).bind λj=>(setAt ob.fs j c).map λfs=>⟨ob.c,fs⟩
def aE(tab:Ap)(f:Nat)(o a:FE):FS:=λs=>(a s).bind λp=>(o p.2).bind λq=>match q.1 with
 |.own k=>(aT ((q.2.m[k]?).bind (cy tab f (.val p.1)))).bind λob=>.ok (.nx,{q.2 with m:=q.2.m.set k ob})
 |_=>.bad
def dg(g:FG)(b:FS):Fs->FS
 |[],s=>.ok (.nx,s)
 |t::ts,s=>(aT (g t s.r)).bind λr=>(b ⟨r,s.m⟩).bind λp=>match p.1 with
  |.nx=>dg g b ts p.2
  |.ct=>dg g b ts p.2
  |.bk=>.ok (.nx,p.2)
  |.rt t=>.ok (.rt t,p.2)
def iy(src:FL)(g:FG)(b:FS):FS:=λs=>(src s).bind λp=>dg g b p.1 p.2
def dR(c:FT)(b:FS):Nat->FS
 |0,_=>.bad
 |n+1,s=>(c s).bind λp=>if p.1 then(b p.2).bind λq=>(match q.1 with
  |.nx=>dR c b n q.2
  |.ct=>dR c b n q.2
  |.bk=>.ok (.nx,q.2)
  |.rt t=>.ok (.rt t,q.2))else .ok (.nx,p.2)
def jQ(n:Nat)(c:FT)(b:FS):FS:=dR c b n
def iF(c:Nat)(fl:FL):FE:=λs=>(fl s).bind λp=>.ok (.own p.2.m.length,{p.2 with m:=p.2.m++[⟨c,[.ol p.1]⟩]})
def aR(np n:Nat)(b:FS):Fn:=λts m=>if ts.length=np then(b ⟨ts.map (λt=>some (.val t))++cj (n-ts.length) none,m⟩).bind λp=>match p.1 with
 |.rt t=>.ok (t,p.2.m)
 |.nx=>.ok (.non,p.2.m)
 |_=>.bad else .bad
mutual
def noOwn:T->Bool
 |.own _=>false
 |.tup xs=>bD xs
 |.lst xs=>bD xs
 |.obj _ xs=>bD xs
 |.c8 _ xs=>bD xs
 |_=>true
def bD:Fs->Bool
 |[]=>true
 |t::ts=>noOwn t&&bD ts
end
noncomputable def cz(g:Fn):Fn:=λts m=>if bD ts=true then(match g ts []with
 |.ok q=>if noOwn q.1=true then .ok (q.1,m)else .bad
 |.bad=>.bad
 |.exc c fs s=>if bD fs=true then .exc c fs ⟨s.r,m⟩else .bad)else .bad
end D
namespace D
open PySem L2
abbrev SV(l:B1):V:=.str ⟨l.toArray⟩
structure KT where
 K:aS
 P:Program
 w:World
 cn:Bi
 fn:List Bi
def f9(B:KT)(c:Nat)(C:Addr)(ns:Bi):Prop:=∃n,B.cn[c]?=some n/\B.fn[c]?=some ns/\ns.Nodup/\kZ B.K mainGlobals n=some (some (.ref C))
theorem f9.eq{B:KT}{c:Nat}{C C':Addr}{ns yi:Bi}(h:f9 B c C ns)(h':f9 B c C' yi):C=C'/\ns=yi:=by
 obtain⟨n,a,b,_,d⟩:=h;obtain⟨n',a',b',_,d'⟩:=h';rw[a]at a';cases a';rw[b]at b';cases b';rw[d]at d';cases d';exact⟨rfl,rfl⟩
def iR:Ky->Key
 |.i n=>.inl n
 |.s l=>.inr ⟨l.toArray⟩
inductive hU where
 |loc (i:Nat)|ob (k:Nat)|fld (k j:Nat)
 deriving DecidableEq
structure G where
 HF:Hp
 o:Addr->Option hU
 al:BM
mutual
def Rep(B:KT)(al:BM)(H:Hp):T->V->Prop
 |.non,v=>v=.non
 |.bl b,v=>v=.bl b
 |.int i,v=>v=.int i
 |.str l,v=>v=SV l/\l.length<=1000000
 |.tup ts,v=>∃a vs,v=.ref a/\jZ B.K H a vs/\aq B al H ts vs
 |.lst ts,v=>∃a vs,v=.ref a/\H a=some (.lst vs)/\aq B al H ts vs
 |.scr ns,v=>∃a,v=.ref a/\bW B.K H a (ns.map V.int)
 |.obj c ts,v=>∃a C dx ns vs,v=.ref a/\f9 B c C ns/\H a=some (.ins C dx (ns.zip vs))/\vs.length<=ns.length/\H dx=some (.own a)/\aq B al H ts vs
 |.own k,v=>∃a,v=.ref a/\al[k]?=some a
 |.c8 ks ts,v=>∃a vs,v=.ref a/\H a=some (.dK ((ks.map iR).zip vs))/\ks.length=vs.length/\aq B al H ts vs
def aq(B:KT)(al:BM)(H:Hp):Fs->List V->Prop
 |[],vs=>vs=[]
 |t::ts,vs=>∃v r,vs=v::r/\Rep B al H t v/\aq B al H ts r
end
theorem bB{K:aS}{H H':Hp}(s:aA H H'){a:Addr}{xs:List V}(q:jZ K H a xs):jZ K H' a xs:=by
 rcases q with(q|⟨o,q⟩)|q
 ·exact .inl (.inl (s _ _ q))
 ·exact .inl (.inr ⟨o,s _ _ q⟩)
 ·exact .inr q
theorem cu{α:Type}{l m:List α}(p:l <+: m){k:Nat}{a:α}(h:l[k]?=some a):m[k]?=some a:=by
 obtain⟨r,rfl⟩:=p;rw[gI (eT.mp h).1];exact h
variable{X:Cx}{a b c e:Expr}{fa fb fc:FE}{g g':G}{H H':Hp}{B:KT}{p pos:Pos}{s s':S}{σ:St}
variable{al Af:BM}{HF eK:Hp}
mutual
theorem Rep.mv(p:al <+: Af)(s:aA H H'):∀{t:T}{v:V},Rep B al H t v->Rep B Af H' t v
 |.non,_,h=>h
 |.bl _,_,h=>h
 |.int _,_,h=>h
 |.str _,_,h=>h
 |.tup ts,_,h=>by
  obtain⟨a,vs,e,q,r⟩:=h;exact⟨a,vs,e,bB s q,aq.mv p s r⟩
 |.lst ts,_,h=>by
  obtain⟨a,vs,e,q,r⟩:=h;exact⟨a,vs,e,s _ _ q,aq.mv p s r⟩
 |.scr ns,_,h=>by
  obtain⟨a,e,q⟩:=h;exact⟨a,e,s.seq q⟩
 |.obj c ts,_,h=>by
  obtain⟨a,C,dx,ns,vs,e,z,q,l,q2,r⟩:=h;exact⟨a,C,dx,ns,vs,e,z,s _ _ q,l,s _ _ q2,aq.mv p s r⟩
 |.own k,_,h=>by
  obtain⟨a,e,q⟩:=h;exact⟨a,e,cu p q⟩
 |.c8 ks ts,_,h=>by
  obtain⟨a,vs,e,q,l,r⟩:=h;exact⟨a,vs,e,s _ _ q,l,aq.mv p s r⟩
theorem aq.mv(p:al <+: Af)(s:aA H H'):∀{ts:Fs}{vs:List V},aq B al H ts vs->aq B Af H' ts vs
 |[],_,h=>h
 |t::ts,_,h=>by
  obtain⟨v,r,e,h1,h2⟩:=h;exact⟨v,r,e,Rep.mv p s h1,aq.mv p s h2⟩
end
theorem Rep.same(s:aA H H'){t:T}{v:V}(h:Rep B al H t v):Rep B al H' t v:=h.mv cA s
theorem aq.same(s:aA H H'){t:Fs}{v:List V}(h:aq B al H t v):aq B al H' t v:=h.mv cA s
theorem aq.len:∀{ts:Fs}{vs:List V},aq B al H ts vs->ts.length=vs.length
 |[],_,h=>by cases(show _=[]from h);rfl
 |t::ts,_,h=>by
  obtain⟨v,r,rfl,_,h2⟩:=h;simp[aq.len h2]
theorem aq.get:∀{ts:Fs}{vs:List V},aq B al H ts vs->∀{i:Nat}{t:T},ts[i]?=some t->∃v,vs[i]?=some v/\Rep B al H t v
 |[],_,_,_,_,e=>by simp at e
 |t::ts,_,h,0,_,e=>by
  obtain⟨v,r,rfl,h1,_⟩:=h;simp at e;subst e;exact⟨v,rfl,h1⟩
 |t::ts,_,h,i+1,_,e=>by
  obtain⟨v,r,rfl,_,h2⟩:=h;obtain⟨v',e',h'⟩:=aq.get h2 (i:=i) (by simpa using e)
  exact⟨v',by simpa using e',h'⟩
theorem aq.tG:∀{ts:Fs}{vs:List V},aq B al H ts vs->∀{i:Nat}{v:V},vs[i]?=some v->∃t,ts[i]?=some t/\Rep B al H t v
 |[],_,h,_,_,e=>by have h:_=[]:=h;subst h;simp at e
 |t::ts,_,h,0,_,e=>by
  obtain⟨v,r,rfl,h1,_⟩:=h;simp at e;subst e;exact⟨t,rfl,h1⟩
 |t::ts,_,h,i+1,_,e=>by
  obtain⟨v,r,rfl,_,h2⟩:=h;obtain⟨t',e',h'⟩:=aq.tG h2 (i:=i) (by simpa using e)
  exact⟨t',by simpa using e',h'⟩
theorem aq.app:∀{ts us:Fs}{vs ws:List V},aq B al H ts vs->aq B al H us ws->aq B al H (ts++us) (vs++ws)
 |[],_,_,_,h,h'=>by have h:_=[]:=h;subst h;exact h'
 |t::ts,_,_,_,h,h'=>by
  obtain⟨v,r,rfl,h1,h2⟩:=h;exact⟨v,_,rfl,h1,h2.app h'⟩
theorem aq.drop:∀{ts:Fs}{vs:List V}(n:Nat),aq B al H ts vs->aq B al H (ts.drop n) (vs.drop n)
 |ts,vs,0,h=>by simpa using h
 |[],_,n+1,h=>by have h:_=[]:=h;subst h;rfl
 |t::ts,_,n+1,h=>by
  obtain⟨v,r,rfl,_,h2⟩:=h;simpa using h2.drop n
theorem aq.take:∀{ts:Fs}{vs:List V}(n:Nat),aq B al H ts vs->aq B al H (ts.take n) (vs.take n)
 |ts,vs,0,h=>by simp[aq]
 |[],_,n+1,h=>by have h:_=[]:=h;subst h;rfl
 |t::ts,_,n+1,h=>by
  obtain⟨v,r,rfl,h1,h2⟩:=h;exact⟨v,r.take n,rfl,h1,h2.take n⟩
theorem aq.set{t:T}{v:V}(q:Rep B al H t v):∀{ts:Fs}{vs:List V}(n:Nat),aq B al H ts vs->aq B al H (ts.set n t) (vs.set n v)
 |[],_,n,h=>by have h:_=[]:=h;subst h;rfl
 |_::ts,_,0,h=>by
  obtain⟨w,r,rfl,h1,h2⟩:=h;exact⟨v,r,rfl,q,h2⟩
 |u::ts,_,n+1,h=>by
  obtain⟨w,r,rfl,h1,h2⟩:=h;exact⟨w,r.set n v,rfl,h1,h2.set q n⟩
theorem aq.flat{ts:Fs}{vs:List V}(h:aq B al H ts vs):∀n:Nat,aq B al H (cj n ts).flatten (cj n vs).flatten
 |0=>rfl
 |n+1=>by
  rw[sF,sF,wA,wA];exact h.app (h.flat n)
theorem aq.one{t:T}{v:V}(q:Rep B al H t v):aq B al H [t] [v]:=⟨v,[],rfl,q,rfl⟩
theorem aq.ints:∀ns:Dx,aq B al H (ns.map T.int) (ns.map V.int)
 |[]=>rfl
 |n::ns=>⟨_,_,rfl,rfl,aq.ints ns⟩
theorem aq.signs:∀l:B1,aq B al H (l.map λc=>T.str [c]) (l.map λc=>V.str ⟨#[c]⟩)
 |[]=>rfl
 |c::l=>⟨_,_,rfl,⟨rfl,by simp⟩,aq.signs l⟩
mutual
theorem Rep.no:∀{t:T}{v:V},noOwn t=true->Rep B al H t v->Rep B Af H t v
 |.non,_,_,h=>h
 |.bl _,_,_,h=>h
 |.int _,_,_,h=>h
 |.str _,_,_,h=>h
 |.tup ts,_,n,h=>by
  obtain⟨a,vs,e,q,r⟩:=h;exact⟨a,vs,e,q,aq.no n r⟩
 |.lst ts,_,n,h=>by
  obtain⟨a,vs,e,q,r⟩:=h;exact⟨a,vs,e,q,aq.no n r⟩
 |.scr ns,_,_,h=>h
 |.obj c ts,_,n,h=>by
  obtain⟨a,C,dx,ns,vs,e,z,q,l,q2,r⟩:=h;exact⟨a,C,dx,ns,vs,e,z,q,l,q2,aq.no n r⟩
 |.own k,_,n,h=>by cases n
 |.c8 ks ts,_,n,h=>by
  obtain⟨a,vs,e,q,l,r⟩:=h;exact⟨a,vs,e,q,l,aq.no n r⟩
theorem aq.no:∀{ts:Fs}{vs:List V},bD ts=true->aq B al H ts vs->aq B Af H ts vs
 |[],_,_,h=>h
 |t::ts,_,n,h=>by
  obtain⟨v,r,e,h1,h2⟩:=h;have n:(noOwn t&&bD ts)=true:=n;rw[bL]at n;exact⟨v,r,e,Rep.no n.1 h1,aq.no n.2 h2⟩
end
structure Gr(HF H eK H':Hp):Prop where
 fr:aA HF eK
 sub:aA eK H'
 rest:∀b o,H b=some o->HF b=none->H' b=some o/\eK b=none
theorem Gr.refl{HF H:Hp}(s:aA HF H):Gr HF H HF H:=⟨aA.refl _,s,λ_ _ h n=>⟨h,n⟩⟩
theorem Gr.trans{HF H Wx H1 Wy H2:Hp}(a:Gr HF H Wx H1)(b:Gr Wx H1 Wy H2):Gr HF H Wy H2:=
 ⟨a.fr.trans b.fr,b.sub,λc o h n=>let⟨h1,n1⟩:=a.rest c o h n;b.rest c o h1 n1⟩
theorem Gr.same{HF H eK H':Hp}(s:aA HF H)(a:Gr HF H eK H'):aA H H':=λb o h=>by
 cases e:HF b with
 |none=>exact(a.rest b o h e).1
 |some u=>
  have:=s b u e
  rw[h]at this;cases this;exact a.sub _ _ (a.fr _ _ e)
theorem aF{H:Hp}{p:Addr}{o:HO}(h:H p=none):aA H (upd H p o):=λb u e=>by rw[ak (aC e h)];exact e
theorem Gr.new{HF H:Hp}(s:aA HF H){p:Addr}{o:HO}(h:H p=none):Gr HF H (upd HF p o) (upd H p o):=by
 have hf:HF p=none:=s.free h;refine⟨aF hf,λb u e=>?_,λb u e n=>?_⟩
 ·by_cases hb:b=p
  ·subst hb;rw[af]at e ⊢;exact e
  ·rw[ak hb]at e ⊢;exact s _ _ e
 ·have hb:b≠p:=aC e h
  rw[ak hb,ak hb];exact⟨e,n⟩
theorem Gr.iz{HF H:Hp}(s:aA HF H){p:Addr}{o:HO}(h:H p=none):Gr HF H HF (upd H p o):=
 ⟨aA.refl _,s.trans (aF h),λb u e n=>⟨aF h _ _ e,n⟩⟩
def aM(B:KT)(g:G)(H:Hp)(p:hU):C->V->Prop
 |.val t,v=>Rep B g.al g.HF t v
 |.ol ts,v=>∃l vs,v=.ref l/\g.o l=some p/\H l=some (.lst vs)/\aq B g.al g.HF ts vs
 |.od ks ts,v=>∃l vs,v=.ref l/\g.o l=some p/\H l=some (.dK ((ks.map iR).zip vs))/\ks.length=vs.length/\aq B g.al g.HF ts vs
 |.yg t,v=>∃HY:Hp,(∀b u,HY b=some u->g.o b=some p/\H b=some u)/\Rep B [] HY t v
structure yj(B:KT)(g:G)(H:Hp)(k:Nat)(ob:Ob)(a C dx:Addr)(ns:Bi)(vs:List V):Prop where
 al:g.al[k]?=some a
 o:g.o a=some (.ob k)
 cl:f9 B ob.c C ns
 h:H a=some (.ins C dx (ns.zip vs))
 le:vs.length<=ns.length
 ln:vs.length=ob.fs.length
 f:∀j c,ob.fs[j]?=some c->∃v,vs[j]?=some v/\aM B g H (.fld k j) c v
structure OQ(B:KT)(g:G)(H:Hp)(k:Nat)(ob:Ob)(a:Addr):Prop where
 al:g.al[k]?=some a
 nc:B.cn[ob.c]?=none
 nf:B.fn[ob.c]?=none
 f:∀c,ob.fs=[c]->aM B g H (.ob k) c (.ref a)
def JN(B:KT)(g:G)(H:Hp)(k:Nat)(ob:Ob):Prop:=(∃a C dx ns vs,yj B g H k ob a C dx ns vs)\/∃a,OQ B g H k ob a
structure cO(B:KT)(g:G)(H:Hp)(m:FR):Prop where
 sub:aA g.HF H
 live:∀b p,g.o b=some p->g.HF b=none/\∃u,H b=some u
 len:m.length=g.al.length
 at_:∀k ob,m[k]?=some ob->JN B g H k ob
structure lO(B:KT)(g:G)(H:Hp)(σ:St)(r:Fh):Prop where
 len:r.length=σ.length
 at_:∀i c,r[i]?=some (some c)->∃v,σ[i]?=some (some v)/\aM B g H (.loc i) c v
structure SR(B:KT)(g:G)(H:Hp)(σ:St)(s:S):Prop where
 st:cO B g H s.m
 lc:lO B g H σ s.r
structure b8(g:G)(H:Hp)(g':G)(H':Hp):Prop where
 fr:aA g.HF g'.HF
 pre:g.al <+: g'.al
 rest:∀b u,H b=some u->g.HF b=none->g.o b=none->H' b=some u/\g'.HF b=none/\g'.o b=none
 there:∀b,H' b=none->H b=none
variable{g1 g2:G}{H1 H2:Hp}
theorem b8.refl:b8 g H g H:=⟨aA.refl _,cA,λ_ _ h n o=>⟨h,n,o⟩,λ_ h=>h⟩
theorem b8.trans(a:b8 g H g1 H1)(b:b8 g1 H1 g2 H2):b8 g H g2 H2:=
 ⟨a.fr.trans b.fr,a.pre.trans b.pre,λc u h n o=>let⟨h1,n1,o1⟩:=a.rest c u h n o;b.rest c u h1 n1 o1,λc h=>a.there c (b.there c h)⟩
abbrev G.grow(g:G)(eK:Hp):G:={g with HF:=eK}
theorem aM.grow(gr:Gr g.HF H eK H')(lv:∀b p,g.o b=some p->g.HF b=none/\∃u,H b=some u){p:hU}:∀{c:C}{v:V},aM B g H p c v->aM B (g.grow eK) H' p c v
 |.val t,v,h=>h.same gr.fr
 |.ol ts,v,h=>by
  obtain⟨l,vs,e,o,q,r⟩:=h;exact⟨l,vs,e,o,(gr.rest l _ q (lv l p o).1).1,r.same gr.fr⟩
 |.od ks ts,v,h=>by
  obtain⟨l,vs,e,o,q,n,r⟩:=h;exact⟨l,vs,e,o,(gr.rest l _ q (lv l p o).1).1,n,r.same gr.fr⟩
 |.yg t,v,h=>by
  obtain⟨HY,h1,r⟩:=h;exact⟨HY,λb u e=>let⟨h2,h3⟩:=h1 b u e;⟨h2,(gr.rest b u h3 (lv b p h2).1).1⟩,r⟩
theorem yj.grow{k:Nat}{ob:Ob}{a C dx:Addr}{ns:Bi}{vs:List V}(x:yj B g H k ob a C dx ns vs)(gr:Gr g.HF H eK H')(lv:∀b p,g.o b=some p->g.HF b=none/\∃u,H b=some u):yj B (g.grow eK) H' k ob a C dx ns vs:=
 ⟨x.al,x.o,x.cl,(gr.rest _ _ x.h (lv _ _ x.o).1).1,x.le,x.ln,λj c e=>let⟨v,h1,h2⟩:=x.f j c e;⟨v,h1,h2.grow gr lv⟩⟩
theorem JN.grow{k:Nat}{ob:Ob}(x:JN B g H k ob)(gr:Gr g.HF H eK H')(lv:∀b p,g.o b=some p->g.HF b=none/\∃u,H b=some u):JN B (g.grow eK) H' k ob:=by
 rcases x with⟨a,C,dx,ns,vs,y⟩|⟨a,y⟩
 ·exact .inl ⟨a,C,dx,ns,vs,y.grow gr lv⟩
 ·exact .inr ⟨a,y.al,y.nc,y.nf,λc e=>(y.f c e).grow gr lv⟩
theorem cO.grow{m:FR}(x:cO B g H m)(gr:Gr g.HF H eK H'):cO B (g.grow eK) H' m:=
 ⟨gr.sub,λb p e=>by
  obtain⟨h1,u,h2⟩:=x.live b p e;obtain⟨h3,h4⟩:=gr.rest b u h2 h1;exact⟨h4,u,h3⟩,x.len,λk ob e=>(x.at_ k ob e).grow gr x.live⟩
theorem SR.grow(x:SR B g H σ s)(gr:Gr g.HF H eK H'):SR B (g.grow eK) H' σ s:=
 ⟨x.st.grow gr,x.lc.len,λi c e=>let⟨v,h1,h2⟩:=x.lc.at_ i c e;⟨v,h1,h2.grow gr x.st.live⟩⟩
theorem SR.sub(x:SR B g H σ s):aA g.HF H:=x.st.sub
theorem Gr.free(gr:Gr HF H eK H')(sm:aA HF H){b:Addr}(h:H' b=none):H b=none:=(gr.same sm).free h
theorem SR.dW(x:SR B g H σ s)(gr:Gr g.HF H eK H'):b8 g H (g.grow eK) H':=
 ⟨gr.fr,cA,λb u h n o=>let⟨h1,h2⟩:=gr.rest b u h n;⟨h1,h2,o⟩,λb h=>gr.free x.sub h⟩
variable{m:FR}
theorem aM.mv{p:hU}(fr:aA g.HF g'.HF)(pre:g.al <+: g'.al)(k:∀l,g.o l=some p->g'.o l=some p/\H' l=H l):∀{c:C}{v:V},aM B g H p c v->aM B g' H' p c v
 |.val t,v,h=>Rep.mv pre fr h
 |.ol ts,v,h=>by
  obtain⟨l,vs,e,o,q,r⟩:=h;obtain⟨o',h'⟩:=k l o;exact⟨l,vs,e,o',h'.trans q,r.mv pre fr⟩
 |.od ks ts,v,h=>by
  obtain⟨l,vs,e,o,q,n,r⟩:=h;obtain⟨o',h'⟩:=k l o;exact⟨l,vs,e,o',h'.trans q,n,r.mv pre fr⟩
 |.yg t,v,h=>by
  obtain⟨HY,h1,r⟩:=h;exact⟨HY,λb u e=>let⟨h2,h3⟩:=h1 b u e;let⟨h4,h5⟩:=k b h2;⟨h4,h5.trans h3⟩,r⟩
theorem yj.mv{k:Nat}{ob:Ob}{a C dx:Addr}{ns:Bi}{vs:List V}(x:yj B g H k ob a C dx ns vs)(fr:aA g.HF g'.HF)(pre:g.al <+: g'.al)(kk:∀l p,g.o l=some p->(p=.ob k\/∃j,p=.fld k j)->g'.o l=some p/\H' l=H l):yj B g' H' k ob a C dx ns vs:=by
 obtain⟨o',h'⟩:=kk a _ x.o (.inl rfl);exact⟨cu pre x.al,o',x.cl,h'.trans x.h,x.le,x.ln,λj c e=>let⟨v,h1,h2⟩:=x.f j c e;⟨v,h1,h2.mv fr pre λl z=>kk l _ z (.inr ⟨j,rfl⟩)⟩⟩
theorem JN.mv{k:Nat}{ob:Ob}(x:JN B g H k ob)(fr:aA g.HF g'.HF)(pre:g.al <+: g'.al)(kk:∀l p,g.o l=some p->(p=.ob k\/∃j,p=.fld k j)->g'.o l=some p/\H' l=H l):JN B g' H' k ob:=by
 rcases x with⟨a,C,dx,ns,vs,y⟩|⟨a,y⟩
 ·exact .inl ⟨a,C,dx,ns,vs,y.mv fr pre kk⟩
 ·exact .inr ⟨a,cu pre y.al,y.nc,y.nf,λc e=>(y.f c e).mv fr pre λl z=>kk l _ z (.inl rfl)⟩
theorem cO.mv(x:cO B g H m)(sub:aA g'.HF H')(live:∀b p,g'.o b=some p->g'.HF b=none/\∃u,H' b=some u)(fr:aA g.HF g'.HF)(OR:g'.al=g.al)(kk:∀l p,g.o l=some p->(∀i,p≠.loc i)->g'.o l=some p/\H' l=H l):cO B g' H' m:=
 ⟨sub,live,by rw[OR];exact x.len,λk ob e=>(x.at_ k ob e).mv fr (by rw[OR];exact cA) λl p h q=>kk l p h (by
  rcases q with q|⟨j,q⟩
  ·subst q;exact λi z=>by cases z
  ·subst q;exact λi z=>by cases z)⟩
theorem lO.set{r:Fh}{i:Nat}{v:V}{c:C}(x:lO B g H σ r)(q:aM B g' H' (.loc i) c v)(kk:∀j c v,j≠i->aM B g H (.loc j) c v->aM B g' H' (.loc j) c v):lO B g' H' (σ.set i (some v)) (r.set i (some c)):=by
 refine⟨by rw[dH,dH];exact x.len,λj d h=>?_⟩
 by_cases hj:i=j
 ·subst hj
  have eX:i<r.length:=by have:=(eT.mp h).1;rw[dH]at this;exact this
  rw[c9 eX]at h;cases h;exact⟨v,c9 (by rw[<- x.len];exact eX),q⟩
 ·rw[gF hj]at h
  obtain⟨w,h1,h2⟩:=x.at_ j d h;exact⟨w,by rw[gF hj];exact h1,kk j d w (Ne.symm hj) h2⟩
theorem SR.set(x:SR B g H σ s){i:Nat}{t:T}{v:V}(r:Rep B g.al g.HF t v):SR B g H (σ.set i (some v)) (i7 s i (.val t)):=
 ⟨x.st,x.lc.set r λ_ _ _ _ h=>h⟩
def G.gJ(g:G)(l:Addr)(o:HO):G:={g with HF:=upd g.HF l o,o:=λb=>if b=l then none else g.o b}
theorem lP{p q:hU}{l:Addr}{o:HO}(hl:g.o l=some p)(hf:g.HF l=none)(hq:q≠p){c:C}{v:V}(h:aM B g H q c v):aM B (g.gJ l o) H q c v:=
 aM.mv (g':=g.gJ l o) (aF hf) cA (λb hb=>by
  have:b≠l:=λe=>hq (by rw[e,hl]at hb;cases hb;rfl)
  exact⟨by show(if b=l then none else g.o b)=_;rw[if_neg this];exact hb,rfl⟩) h
theorem pT{p:hU}{l:Addr}{o:HO}(hl:g.o l=some p)(hf:g.HF l=none):b8 g H (g.gJ l o) H:=
 ⟨aF hf,cA,λb u h n z=>by
  have:b≠l:=λe=>by rw[e,hl]at z;cases z
  exact⟨h,by show upd g.HF l o b=none;rw[ak this];exact n,by show(if b=l then none else g.o b)=none;rw[if_neg this];exact z⟩,λ_ h=>h⟩
theorem uQ{i:Nat}{l:Addr}{o:HO}(x:cO B g H m)(hl:g.o l=some (.loc i))(hh:H l=some o):cO B (g.gJ l o) H m:=by
 have hf:=(x.live l _ hl).1;refine x.mv (λb u e=>?_) (λb p e=>?_) (aF hf) rfl λb p hb hp=>?_
 ·have e:upd g.HF l o b=some u:=e
  by_cases hb:b=l
  ·subst hb;rw[af]at e;cases e;exact hh
  ·rw[ak hb]at e;exact x.sub _ _ e
 ·have e:(if b=l then none else g.o b)=some p:=e
  by_cases hb:b=l
  ·rw[if_pos hb]at e;cases e
  ·rw[if_neg hb]at e
   obtain⟨h1,h2⟩:=x.live b p e;exact⟨by show upd g.HF l o b=none;rw[ak hb];exact h1,h2⟩
 ·have:b≠l:=λe=>hp i (by rw[e,hl]at hb;cases hb;rfl)
  exact⟨by show(if b=l then none else g.o b)=_;rw[if_neg this];exact hb,rfl⟩
theorem SR.gJ(x:SR B g H σ s){i:Nat}{ts:Fs}(h:s.r[i]?=some (some (.ol ts))):∃g' v,b8 g H g' H/\SR B g' H σ (i7 s i (.val (.lst ts)))/\σ[i]?=some (some v)/\Rep B g'.al g'.HF (.lst ts) v:=by
 obtain⟨v,h1,l,vs,rfl,ho,hh,r⟩:=x.lc.at_ i _ h;have hf:=(x.st.live l _ ho).1;have rp:Rep B (g.gJ l (.lst vs)).al (g.gJ l (.lst vs)).HF (.lst ts) (.ref l):=⟨l,vs,rfl,af,r.mv cA (aF hf)⟩;refine⟨g.gJ l (.lst vs),.ref l,pT ho hf,⟨uQ x.st ho hh,?_⟩,h1,rp⟩
 have:=x.lc.set (i:=i) (v:=.ref l) (c:=.val (.lst ts)) rp λj c v hj q=>lP (q:=.loc j) ho hf (λz=>hj (by cases z;rfl)) q
 have es:σ.set i (some (.ref l))=σ:=by
  apply CQ;intro j;by_cases hj:i=j
  ·subst hj
   rw[c9 (eT.mp h1).1,h1]
  ·rw[gF hj]
 rw[es]at this;exact this
theorem SR.TU(x:SR B g H σ s){i:Nat}{ks:List Ky}{ts:Fs}(h:s.r[i]?=some (some (.od ks ts))):∃g' v,b8 g H g' H/\SR B g' H σ (i7 s i (.val (.c8 ks ts)))/\σ[i]?=some (some v)/\Rep B g'.al g'.HF (.c8 ks ts) v:=by
 obtain⟨v,h1,l,vs,rfl,ho,hh,hl,r⟩:=x.lc.at_ i _ h;have hf:=(x.st.live l _ ho).1;have rp:Rep B (g.gJ l (.dK ((ks.map iR).zip vs))).al (g.gJ l (.dK ((ks.map iR).zip vs))).HF (.c8 ks ts) (.ref l):=⟨l,vs,rfl,af,hl,r.mv cA (aF hf)⟩;refine⟨g.gJ l (.dK ((ks.map iR).zip vs)),.ref l,pT ho hf,⟨uQ x.st ho hh,?_⟩,h1,rp⟩
 have:=x.lc.set (i:=i) (v:=.ref l) (c:=.val (.c8 ks ts)) rp λj c v hj q=>lP (q:=.loc j) ho hf (λz=>hj (by cases z;rfl)) q
 have es:σ.set i (some (.ref l))=σ:=by
  apply CQ;intro j;by_cases hj:i=j
  ·subst hj
   rw[c9 (eT.mp h1).1,h1]
  ·rw[gF hj]
 rw[es]at this;exact this
def G.own(g:G)(l:Addr)(p:hU):G:={g with o:=λb=>if b=l then some p else g.o b}
theorem qR{p q:hU}{l:Addr}(hn:g.o l=none){c:C}{v:V}(h:aM B g H q c v):aM B (g.own l p) H q c v:=
 aM.mv (g:=g) (g':=g.own l p) (aA.refl g.HF) cA (λb hb=>by
  have:b≠l:=λe=>by rw[e,hn]at hb;cases hb
  exact⟨by show(if b=l then some p else g.o b)=_;rw[if_neg this];exact hb,rfl⟩) h
theorem uR{p:hU}{l:Addr}{u:HO}(x:cO B g H m)(hn:g.o l=none)(hf:g.HF l=none)(hh:H l=some u):cO B (g.own l p) H m:=by
 refine x.mv x.sub (λb q e=>?_) (aA.refl _) rfl λb q hb hp=>?_
 ·have e:(if b=l then some p else g.o b)=some q:=e
  by_cases hb:b=l
  ·subst hb;exact⟨hf,u,hh⟩
  ·rw[if_neg hb]at e;exact x.live b q e
 ·have:b≠l:=λe=>by rw[e,hn]at hb;cases hb
  exact⟨by show(if b=l then some p else g.o b)=_;rw[if_neg this];exact hb,rfl⟩
theorem SR.own(x:SR B g H σ s){i:Nat}{l:Addr}{ts:Fs}{vs:List V}(hn:g.o l=none)(hf:g.HF l=none)(hh:H l=some (.lst vs))(r:aq B g.al g.HF ts vs):SR B (g.own l (.loc i)) H (σ.set i (some (.ref l))) (i7 s i (.ol ts)):=
 ⟨uR x.st hn hf hh,x.lc.set (c:=.ol ts) ⟨l,vs,rfl,by show(if l=l then some (hU.loc i)else g.o l)=_;rw[if_pos rfl],hh,r⟩ λj c v hj q=>qR hn q⟩
theorem SR.TV(x:SR B g H σ s){i:Nat}{l:Addr}{ks:List Ky}{ts:Fs}{vs:List V}(hn:g.o l=none)(hf:g.HF l=none)(hh:H l=some (.dK ((ks.map iR).zip vs)))(hk:ks.length=vs.length)(r:aq B g.al g.HF ts vs):SR B (g.own l (.loc i)) H (σ.set i (some (.ref l))) (i7 s i (.od ks ts)):=
 ⟨uR x.st hn hf hh,x.lc.set (c:=.od ks ts) ⟨l,vs,rfl,by show(if l=l then some (hU.loc i)else g.o l)=_;rw[if_pos rfl],hh,hk,r⟩ λj c v hj q=>qR hn q⟩
theorem uS{l:Addr}{i:Nat}{u:HO}(x:cO B g H m)(ho:g.o l=some (.loc i)):cO B g (upd H l u) m:=by
 have hf:=(x.live l _ ho).1;refine x.mv (λb w e=>?_) (λb q e=>?_) (aA.refl _) rfl λb q hb hp=>?_
 ·have:b≠l:=λz=>by rw[z,hf]at e;cases e
  rw[ak this];exact x.sub _ _ e
 ·obtain⟨h1,w,h2⟩:=x.live b q e
  by_cases hb:b=l
  ·exact⟨h1,u,by rw[hb,af]⟩
  ·exact⟨h1,w,by rw[ak hb];exact h2⟩
 ·have:b≠l:=λe=>hp i (by rw[e,ho]at hb;cases hb;rfl)
  exact⟨hb,by rw[ak this]⟩
theorem kO{l:Addr}{p:hU}{u:HO}(ho:g.o l=some p):b8 g H g (upd H l u):=
 ⟨aA.refl _,cA,λb w h n z=>by
  have:b≠l:=λe=>by rw[e,ho]at z;cases z
  exact⟨by rw[ak this];exact h,n,z⟩,λb h=>by
  by_cases hb:b=l
  ·subst hb;rw[af]at h;cases h
  ·rw[ak hb]at h;exact h⟩
theorem SR.chg(x:SR B g H σ s){i:Nat}{ts xy:Fs}{l:Addr}{dX:List V}(h:s.r[i]?=some (some (.ol ts)))(hσ:σ[i]?=some (some (.ref l)))(r:aq B g.al g.HF xy dX):SR B g (upd H l (.lst dX)) σ (i7 s i (.ol xy))/\b8 g H g (upd H l (.lst dX)):=by
 obtain⟨v,h1,l',vs,rfl,ho,hh,r0⟩:=x.lc.at_ i _ h;rw[hσ]at h1;cases h1;refine⟨⟨uS x.st ho,?_⟩,kO ho⟩
 have:=x.lc.set (g':=g) (H':=upd H l (.lst dX)) (i:=i) (v:=.ref l) (c:=.ol xy) ⟨l,dX,rfl,ho,af,r⟩ λj c v hj q=>q.mv (aA.refl _) cA λb hb=>by
  have:b≠l:=λe=>hj (by rw[e,ho]at hb;cases hb;rfl)
  exact⟨hb,ak this⟩
 have es:σ.set i (some (.ref l))=σ:=by
  apply CQ;intro j;by_cases hj:i=j
  ·subst hj
   rw[c9 (eT.mp hσ).1,hσ]
  ·rw[gF hj]
 rw[es]at this;exact this
theorem SR.TX(x:SR B g H σ s){i:Nat}{ks MK:List Ky}{ts xy:Fs}{l:Addr}{dX:List V}(h:s.r[i]?=some (some (.od ks ts)))(hσ:σ[i]?=some (some (.ref l)))(hk:MK.length=dX.length)(r:aq B g.al g.HF xy dX):SR B g (upd H l (.dK ((MK.map iR).zip dX))) σ (i7 s i (.od MK xy))/\b8 g H g (upd H l (.dK ((MK.map iR).zip dX))):=by
 obtain⟨v,h1,l',vs,rfl,ho,hh,ML,r0⟩:=x.lc.at_ i _ h;rw[hσ]at h1;cases h1;refine⟨⟨uS x.st ho,?_⟩,kO ho⟩
 have:=x.lc.set (g':=g) (H':=upd H l (.dK ((MK.map iR).zip dX))) (i:=i) (v:=.ref l) (c:=.od MK xy) ⟨l,dX,rfl,ho,af,hk,r⟩ λj c v hj q=>q.mv (aA.refl _) cA λb hb=>by
  have:b≠l:=λe=>hj (by rw[e,ho]at hb;cases hb;rfl)
  exact⟨hb,ak this⟩
 have es:σ.set i (some (.ref l))=σ:=by
  apply CQ;intro j;by_cases hj:i=j
  ·subst hj
   rw[c9 (eT.mp hσ).1,hσ]
  ·rw[gF hj]
 rw[es]at this;exact this
def OS:Option hU->Option hU
 |some (.loc _)=>none
 |x=>x
def G.aj(g:G):G:={g with o:=λb=>OS (g.o b)}
theorem xA{q:Option hU}{p:hU}:OS q=some p ↔ q=some p/\∀i,p≠.loc i:=by
 cases q with
 |none=>exact⟨λh=>(by cases h),λh=>(by cases h.1)⟩
 |some q=>
  cases q with
  |loc i=>exact⟨λh=>(by cases h),λh=>(by obtain⟨h,n⟩:=h;cases h;exact absurd rfl (n i))⟩
  |ob k=>exact⟨λh=>(by cases h;exact⟨rfl,λi z=>(by cases z)⟩),λh=>h.1⟩
  |fld k j=>exact⟨λh=>(by cases h;exact⟨rfl,λi z=>(by cases z)⟩),λh=>h.1⟩
theorem jk{b:Addr}{p:hU}:g.aj.o b=some p ↔ g.o b=some p/\∀i,p≠.loc i:=xA
theorem cO.aj(x:cO B g H m):cO B g.aj H m:=
 x.mv x.sub (λb p e=>x.live b p (jk.mp e).1) (aA.refl _) rfl λl p h n=>⟨jk.mpr ⟨h,n⟩,rfl⟩
def TY:Option hU->Option hU->Option hU
 |some (.loc i),_=>some (.loc i)
 |_,y=>y
def G.back(g g':G):G:={g' with o:=λb=>TY (g.o b) (g'.o b)}
theorem Ag{b:Addr}{i:Nat}(h:g.o b=some (.loc i)):(G.back g g').o b=some (.loc i):=by
 show TY (g.o b) (g'.o b)=_;rw[h];rfl
theorem lQ{b:Addr}(h:∀i,g.o b≠some (.loc i)):(G.back g g').o b=g'.o b:=by
 show TY (g.o b) (g'.o b)=_;cases q:g.o b with
 |none=>rfl
 |some p=>cases p with
  |loc i=>exact absurd q (h i)
  |ob k=>rfl
  |fld k j=>rfl
theorem SR.back(x:SR B g H σ s){m':FR}(p:b8 g.aj H g' H')(y:cO B g' H' m'):b8 g H (G.back g g') H'/\SR B (G.back g g') H' σ {s with m:=m'}:=by
 have keep:∀l i,g.o l=some (.loc i)->H' l=H l/\g'.HF l=none/\g'.o l=none:=λl i e=>by
  obtain⟨h1,u,h2⟩:=x.st.live l _ e;have h3:g.aj.o l=none:=by
   cases q:g.aj.o l with
   |none=>rfl
   |some p=>obtain⟨a,b⟩:=jk.mp q;rw[e]at a;cases a;exact absurd rfl (b i)
  obtain⟨h4,h5,h6⟩:=p.rest l u h2 h1 h3;exact⟨h4.trans h2.symm,h5,h6⟩
 have TZ:∀l q,g'.o l=some q->∀i,g.o l≠some (.loc i):=λl q e i z=>by rw[(keep l i z).2.2]at e;cases e
 refine⟨⟨p.fr,p.pre,λb u h n z=>?_,p.there⟩,⟨⟨y.sub,λb q e=>?_,y.len,λk ob e=>?_⟩,x.lc.len,λi c e=>?_⟩⟩
 ·have h3:g.aj.o b=none:=by
   cases q:g.aj.o b with
   |none=>rfl
   |some p=>rw[(jk.mp q).1]at z;cases z
  obtain⟨h4,h5,h6⟩:=p.rest b u h n h3;exact⟨h4,h5,(lQ λi w=>by rw[z]at w;cases w).trans h6⟩
 ·by_cases hl:∃i,g.o b=some (.loc i)
  ·obtain⟨i,hl⟩:=hl
   obtain⟨h1,u,h2⟩:=x.st.live b _ hl;obtain⟨h4,h5,_⟩:=keep b i hl;exact⟨h5,u,h4.trans h2⟩
  ·rw[lQ λi w=>hl ⟨i,w⟩]at e
   exact y.live b q e
 ·exact(y.at_ k ob e).mv (aA.refl _) cA λl q h _=>⟨(lQ (TZ l q h)).trans h,rfl⟩
 ·obtain⟨v,h1,h2⟩:=x.lc.at_ i c e
  exact⟨v,h1,aM.mv (g:=g) (g':=G.back g g') p.fr p.pre (λl o=>⟨Ag o,(keep l i o).1⟩) h2⟩
variable{es:Bz}{fl:FL}{ft fu:FT}
abbrev KTb:=Bi×List Bi
def _root_.L2.Cx.kt(X:Cx)(t:KTb):KT:=⟨X.K,X.prog,X.w,t.1,t.2⟩
def tE(B:KT)(f:FE):TE:=λσ H Q=>∃g s t s',SR B g H σ s/\f s=.ok (t,s')/\∀v g' H',b8 g H g' H'->SR B g' H' σ s'->Rep B g'.al g'.HF t v->Q v H'
def tA(B:KT)(f:FL):TA:=λσ H Q=>∃g s ts s',SR B g H σ s/\f s=.ok (ts,s')/\∀vs g' H',b8 g H g' H'->SR B g' H' σ s'->aq B g'.al g'.HF ts vs->Q vs H'
def tT(B:KT)(f:FT):TT:=λσ H Q=>∃g s k s',SR B g H σ s/\f s=.ok (k,s')/\∀g' H',b8 g H g' H'->SR B g' H' σ s'->Q k H'
def tP(B:KT)(f:FO):TO:=λσ H Q=>∃g s k s',SR B g H σ s/\f s=.ok (k,s')/\∀g' H',b8 g H g' H'->SR B g' H' σ s'->Q k H'
def tO(B:KT)(f:FL):TE:=λσ H Q=>∃g s ts s',SR B g H σ s/\f s=.ok (ts,s')/\∀l vs g' H',b8 g H g' H'->SR B g' H' σ s'->H l=none->g'.HF l=none->g'.o l=none->H' l=some (.lst vs)->aq B g'.al g'.HF ts vs->Q (.ref l) H'
theorem aB{t t':TE}(h:PE X e t)(i:∀σ H Q,t' σ H Q->t σ H Q):PE X e t':=λae s σ H Q I q=>h ae s σ H Q I (i σ H Q q)
theorem uT{t t':TT}(h:PT X e t)(i:∀σ H Q,t' σ H Q->t σ H Q):PT X e t':=λae s σ H Q I q=>h ae s σ H Q I (i σ H Q q)
theorem Ho{t t':TT}(h:PW X e t)(i:∀σ H Q,t' σ H Q->t σ H Q):PW X e t':=λwh ae s σ H Q I q=>h wh ae s σ H Q I (i σ H Q q)
theorem uU{es:Bz}{t t':TA}(h:PA X es t)(i:∀σ H Q,t' σ H Q->t σ H Q):PA X es t':=λpo ae s σ H Q I q=>h po ae s σ H Q I (i σ H Q q)
theorem bQ{st:Stmt}{t t':TS}(h:PS X st t)(i:∀D σ H,t' D σ H->t D σ H):PS X st t':=λae s σ H D I q=>h ae s σ H D I (i D σ H q)
theorem jR{st:DD}{t t':TS}(h:fm X st t)(i:∀D σ H,t' D σ H->t D σ H):fm X st t':=λae s σ H D I q=>h ae s σ H D I (i D σ H q)
theorem Hq{e:Option Expr}{t t':TO}(h:PO X e t)(i:∀σ H Q,t' σ H Q->t σ H Q):PO X e t':=λae s σ H Q I q=>h ae s σ H Q I (i σ H Q q)
theorem j6{tg:Expr}{t t':TI}(h:PI X tg e t)(i:∀σ H Rh,t' σ H Rh->t σ H Rh):PI X tg e t':=λae s σ H Rh I q=>h ae s σ H Rh I (i σ H Rh q)
theorem aG:PE X e (tE B aK):=λ_ _ _ _ _ _ ⟨_,_,_,_,_,h,_⟩=>by cases h
theorem iS:PT X e (tT B nu):=λ_ _ _ _ _ _ ⟨_,_,_,_,_,h,_⟩=>by cases h
theorem cX:PE X e (tO B ee):=λ_ _ _ _ _ _ ⟨_,_,_,_,_,h,_⟩=>by cases h
theorem ik{t:T}{v:V}(h:PE X e (tC v))(r:∀al H,Rep B al H t v):PE X e (tE B (cF t)):=aB h λσ H Q z=>by
 obtain⟨g,s,t',s',x,h,k⟩:=z;cases h;exact k v g H .refl x (r _ _)
theorem Ah{i:Nat}{x:Str}(hN:X.N[i]?=some x)(hv:kI X.env.scope x)(hd:aQ x)(eO:dZ x):PE X (.Name x pos) (tE B (vF i)):=by
 refine aB (bG hN hv hd eO) λσ H Q zz=>?_;obtain⟨g,s,t,s',x,h,k⟩:=zz;unfold vF at h;split at h
 ·rename_i t' hr
  cases h;obtain⟨v,h1,h2⟩:=x.lc.at_ i _ hr;exact⟨v,h1,k v g H .refl x h2⟩
 ·rename_i ts hr
  cases h;obtain⟨g',v,p,y,h1,r⟩:=x.gJ hr;exact⟨v,h1,k v g' H p y r⟩
 ·rename_i ks ts hr
  cases h;obtain⟨g',v,p,y,h1,r⟩:=x.TU hr;exact⟨v,h1,k v g' H p y r⟩
 ·cases h
def L1(X:Cx)(f:T->FK)(r:V->Hp->VK->Prop):Prop:=∀(B:KT)(_:B.K=X.K)(al:BM)(HF H:Hp)(x:V)(t tx:T)(Q:VK),aA HF H->Rep B al HF tx x->f tx=some t->(∀v eK H',Gr HF H eK H'->Rep B al eK t v->Q v H')->r x H Q
def nz(X:Cx)(f:T->T->FK)(r:R2):Prop:=∀(B:KT)(_:B.K=X.K)(al:BM)(HF H:Hp)(x y:V)(t tx ty:T)(Q:VK),aA HF H->Rep B al HF tx x->Rep B al HF ty y->f tx ty=some t->(∀v eK H',Gr HF H eK H'->Rep B al eK t v->Q v H')->r x y H Q
def LN(X:Cx)(f:Fs->FK)(r:List V->Hp->VK->Prop):Prop:=∀(B:KT)(_:B.K=X.K)(al:BM)(HF H:Hp)(xs:List V)(t:T)(ts:Fs)(Q:VK),aA HF H->aq B al HF ts xs->f ts=some t->(∀v eK H',Gr HF H eK H'->Rep B al eK t v->Q v H')->r xs H Q
theorem Ai{f:T->FK}{r:V->Hp->VK->Prop}(hB:B.K=X.K)(hr:L1 X f r):∀σ H Q,tE B (kN f fa) σ H Q->VZ r (tE B fa) σ H Q:=by
 rintro σ H Q ⟨g,s,t,s',x,h,k⟩
 obtain⟨⟨tx,s1⟩,h1,h⟩:=aa h;obtain⟨t',h2,h⟩:=aa h;cases h;exact⟨g,s,tx,s1,x,h1,λv g1 H1 p1 x1 r1=>hr B hB g1.al g1.HF H1 v _ tx Q x1.sub r1 (ah h2) λu eK H' gr r2=>k u (g1.grow eK) H' (p1.trans (x1.dW gr)) (x1.grow gr) r2⟩
theorem h_{f:T->T->FK}{r:R2}(hB:B.K=X.K)(hr:nz X f r):∀σ H Q,tE B (dD f fa fb) σ H Q->zA r (tE B fa) (tE B fb) σ H Q:=by
 rintro σ H Q ⟨g,s,t,s',x,h,k⟩
 obtain⟨⟨tx,s1⟩,h1,h⟩:=aa h;obtain⟨⟨ty,s2⟩,h2,h⟩:=aa h;obtain⟨t',h3,h⟩:=aa h;cases h;exact⟨g,s,tx,s1,x,h1,λv g1 H1 p1 x1 r1=>⟨g1,s1,ty,s2,x1,h2,λw g2 H2 p2 x2 r2=>
  hr B hB g2.al g2.HF H2 v w _ tx ty Q x2.sub (r1.mv p2.pre p2.fr) r2 (ah h3) λu eK H' gr r3=>k u (g2.grow eK) H' ((p1.trans p2).trans (x2.dW gr)) (x2.grow gr) r3⟩⟩
theorem Hr{f:Fs->FK}{r:List V->Hp->VK->Prop}(hB:B.K=X.K)(hr:LN X f r):∀σ H Q,tE B (eg f fl) σ H Q->SM r (tA B fl) σ H Q:=by
 rintro σ H Q ⟨g,s,t,s',x,h,k⟩
 obtain⟨⟨ts,s1⟩,h1,h⟩:=aa h;obtain⟨t',h2,h⟩:=aa h;cases h;exact⟨g,s,ts,s1,x,h1,λvs g1 H1 p1 x1 r1=>hr B hB g1.al g1.HF H1 vs _ ts Q x1.sub r1 (ah h2) λu eK H' gr r2=>k u (g1.grow eK) H' (p1.trans (x1.dW gr)) (x1.grow gr) r2⟩
theorem tH:PA X [] (tA B aU):=uU aO λσ H Q z=>by
 obtain⟨g,s,t,s',x,h,k⟩:=z;cases h;exact k [] g H .refl x rfl
theorem pU(ha:PE X e (tE B fa))(hr:PA X es (tA B fl))(hs:starEach (e::es) X.env=(false,eval e X.env)::starEach es X.env):PA X (e::es) (tA B (cJ fa fl)):=uU (az ha hr hs) λσ H Q z=>by
 obtain⟨g,s,t,s',x,h,k⟩:=z;obtain⟨⟨tx,s1⟩,h1,h⟩:=aa h;obtain⟨⟨ty,s2⟩,h2,h⟩:=aa h;cases h;exact⟨g,s,tx,s1,x,h1,λv g1 H1 p1 x1 r1=>⟨g1,s1,ty,s2,x1,h2,λw g2 H2 p2 x2 r2=>k (v::w) g2 H2 (p1.trans p2) x2 ⟨v,w,rfl,r1.mv p2.pre p2.fr,r2⟩⟩⟩
theorem tK{n:Nat}(h:n<=1000):n<=sizeLine:=by rw[sizeLine_eq];omega
theorem OT{x1}(h:PA X es (tA B fl)):PE X (.Tuple es x1 pos) (tE B (eg iO fl)):=aB (zI h) λσ H Q z=>by
 obtain⟨g,s,t,s',x,h,k⟩:=z;obtain⟨⟨ts,s1⟩,h1,h⟩:=aa h;obtain⟨t',h2,h⟩:=aa h;cases h;obtain⟨z,rfl⟩:=aL (ah h2);refine⟨g,s,ts,s1,x,h1,λvs g1 H1 p1 x1 r1=>⟨tK (by rw[<- r1.len];exact z),λq hq=>?_⟩⟩
 have gr:=Gr.new (o:=.tup vs) x1.sub hq;exact k _ _ _ (p1.trans (x1.dW gr)) (x1.grow gr) ⟨q,vs,rfl,.inl (.inl af),r1.same gr.fr⟩
theorem OU(h:PA X es (tA B fl)):PE X (.List es pos) (tE B (eg lN fl)):=aB (lB h) λσ H Q z=>by
 obtain⟨g,s,t,s',x,h,k⟩:=z;obtain⟨⟨ts,s1⟩,h1,h⟩:=aa h;obtain⟨t',h2,h⟩:=aa h;cases h;obtain⟨z,rfl⟩:=aL (ah h2);refine⟨g,s,ts,s1,x,h1,λvs g1 H1 p1 x1 r1=>⟨tK (by rw[<- r1.len];exact z),λq hq=>?_⟩⟩
 have gr:=Gr.new (o:=.lst vs) x1.sub hq;exact k _ _ _ (p1.trans (x1.dW gr)) (x1.grow gr) ⟨q,vs,rfl,af,r1.same gr.fr⟩
def lR(fl:FL):FL:=λs=>(fl s).bind λp=>if p.1.length<=1000 then .ok p else .bad
theorem iz{l:Addr}{u:HO}(x:SR B g H σ s)(h:H l=none):Gr g.HF H g.HF (upd H l u)/\g.HF l=none/\g.o l=none:=by
 refine⟨.iz x.sub h,x.sub.free h,?_⟩;cases q:g.o l with
 |none=>rfl
 |some p=>obtain⟨_,u,z⟩:=x.st.live l p q;rw[h]at z;cases z
theorem JO(h:PA X es (tA B fl)):PE X (.List es pos) (tO B (lR fl)):=aB (lB h) λσ H Q z=>by
 obtain⟨g,s,t,s',x,h,k⟩:=z;obtain⟨⟨ts,s1⟩,h1,h⟩:=aa h;dsimp only at h;split at h
 ·rename_i z
  cases h;refine⟨g,s,_,_,x,h1,λvs g1 H1 p1 x1 r1=>⟨tK (by rw[<- r1.len];exact z),λq hq=>?_⟩⟩
  obtain⟨gr,n1,n2⟩:=iz (u:=.lst vs) x1 hq;exact k q vs _ _ (p1.trans (x1.dW gr)) (x1.grow gr) (p1.there q hq) n1 n2 af r1
 ·cases h
theorem SR.tL{l:Addr}{u:HO}(x:SR B g H σ s)(hf:g.HF l=none)(ho:g.o l=none)(hh:H l=some u):SR B (g.grow (upd g.HF l u)) H σ s:=by
 have sl:∀p c v,aM B g H p c v->aM B (g.grow (upd g.HF l u)) H p c v:=λp c v h=>aM.mv (g:=g) (g':=g.grow (upd g.HF l u)) (aF hf) cA (λ_ q=>⟨q,rfl⟩) h;refine⟨x.st.mv (λb w e=>?_) (λb p e=>?_) (aF hf) rfl λ_ _ q _=>⟨q,rfl⟩,x.lc.len,λi c e=>let⟨v,h1,h2⟩:=x.lc.at_ i c e;⟨v,h1,sl _ _ _ h2⟩⟩
 ·have e:upd g.HF l u b=some w:=e
  by_cases hb:b=l
  ·subst hb;rw[af]at e;cases e;exact hh
  ·rw[ak hb]at e;exact x.sub _ _ e
 ·obtain⟨h1,h2⟩:=x.st.live b p e
  have:b≠l:=λz=>by subst z;rw[show g.o b=some p from e]at ho;cases ho
  exact⟨by show upd g.HF l u b=none;rw[ak this];exact h1,h2⟩
theorem b8.tL{g1:G}{H1:Hp}{l:Addr}{u:HO}(p:b8 g H g1 H1)(h0:H l=none)(hf:g1.HF l=none):b8 g H (g1.grow (upd g1.HF l u)) H1:=
 ⟨p.fr.trans (aF hf),p.pre,λb w h n z=>by
  obtain⟨a,b',c⟩:=p.rest b w h n z
  have:b≠l:=aC h h0
  exact⟨a,by show upd g1.HF l u b=none;rw[ak this];exact b',c⟩,p.there⟩
theorem tM(h:PE X e (tO B fl)):PE X e (tE B (jj fl)):=aB h λσ H Q z=>by
 obtain⟨g,s,t,s',x,h,k⟩:=z;obtain⟨⟨ts,s1⟩,h1,h⟩:=aa h;cases h;refine⟨g,s,_,_,x,h1,λl vs g1 H1 p1 x1 h0 n1 n2 hl r1=>?_⟩;exact k _ _ H1 (p1.tL h0 n1) (x1.tL n1 n2 hl) ⟨l,vs,rfl,af,r1.same (aF n1)⟩
theorem JP(ha:PT X a (tT B ft)):PW X (.BoolOp .And [a] pos) (tT B ft):=C3 ha
theorem OV(ha:PT X a (tT B ft)):PW X (.BoolOp .Or [a] pos) (tT B ft):=IF ha
theorem OW{rest:Bz}(ha:PT X a (tT B ft))(hb:PW X (.BoolOp .And (b::rest) pos) (tT B fu)):PW X (.BoolOp .And (a::b::rest) pos) (tT B (JJ ft fu)):=Ho (IG ha hb) λσ H Q z=>by
 obtain⟨g,s,t,s',x,h,k⟩:=z;obtain⟨⟨d,s1⟩,h1,h⟩:=aa h;refine⟨g,s,d,s1,x,h1,λg1 H1 p1 x1=>?_⟩;cases d with
 |true=>exact ng ⟨g1,s1,_,_,x1,h,λg2 H2 p2 x2=>k g2 H2 (p1.trans p2) x2⟩
 |false=>cases h;exact lC (k g1 H1 p1 x1)
theorem T_{rest:Bz}(ha:PT X a (tT B ft))(hb:PW X (.BoolOp .Or (b::rest) pos) (tT B fu)):PW X (.BoolOp .Or (a::b::rest) pos) (tT B (sf ft fu)):=Ho (Na ha hb) λσ H Q z=>by
 obtain⟨g,s,t,s',x,h,k⟩:=z;obtain⟨⟨d,s1⟩,h1,h⟩:=aa h;refine⟨g,s,d,s1,x,h1,λg1 H1 p1 x1=>?_⟩;cases d with
 |true=>cases h;exact ng (k g1 H1 p1 x1)
 |false=>exact lC ⟨g1,s1,_,_,x1,h,λg2 H2 p2 x2=>k g2 H2 (p1.trans p2) x2⟩
theorem OX(ha:PT X a (tT B ft)):PT X (.UnaryOp .Not a pos) (tT B (g_ ft)):=uT (II ha) λσ H Q z=>by
 obtain⟨g,s,t,s',x,h,k⟩:=z;obtain⟨⟨d,s1⟩,h1,h⟩:=aa h;cases h;exact⟨g,s,d,s1,x,h1,λg1 H1 p1 x1=>k g1 H1 p1 x1⟩
theorem kP{t:T}{k:Bool}(h:OL t=some k):t=.bl k:=by
 cases t<;>first|(cases h;done)|(cases h;rfl)
theorem Aj{op}(ha:PE X a (tE B fa)):PE X (.BoolOp op [a] pos) (tE B fa):=IJ ha
theorem JQ{rest:Bz}(ha:PE X a (tE B fa))(hb:PE X (.BoolOp .And (b::rest) pos) (tE B fb)):PE X (.BoolOp .And (a::b::rest) pos) (tE B (qO fa fb)):=aB (IK ha hb) λσ H Q z=>by
 obtain⟨g,s,t,s',x,h,k⟩:=z;obtain⟨⟨d,s1⟩,h1,h⟩:=aa h;obtain⟨d',h2,h⟩:=aa h;cases kP (ah h2);refine⟨g,s,_,s1,x,h1,λv g1 H1 p1 x1 r1=>⟨d',r1,?_⟩⟩;cases d' with
 |true=>exact ng ⟨g1,s1,_,_,x1,h,λw g2 H2 p2 x2 r2=>k w g2 H2 (p1.trans p2) x2 r2⟩
 |false=>cases h;exact lC (k _ g1 H1 p1 x1 rfl)
theorem OY{rest:Bz}(ha:PE X a (tE B fa))(hb:PE X (.BoolOp .Or (b::rest) pos) (tE B fb)):PE X (.BoolOp .Or (a::b::rest) pos) (tE B (Ww fa fb)):=aB (Nd ha hb) λσ H Q z=>by
 obtain⟨g,s,t,s',x,h,k⟩:=z;obtain⟨⟨d,s1⟩,h1,h⟩:=aa h;obtain⟨d',h2,h⟩:=aa h;cases kP (ah h2);refine⟨g,s,_,s1,x,h1,λv g1 H1 p1 x1 r1=>⟨d',r1,?_⟩⟩;cases d' with
 |true=>cases h;exact ng (k _ g1 H1 p1 x1 rfl)
 |false=>exact lC ⟨g1,s1,_,_,x1,h,λw g2 H2 p2 x2 r2=>k w g2 H2 (p1.trans p2) x2 r2⟩
theorem JR(ha:PE X a (tE B fa)):PE X (.UnaryOp .Not a pos) (tE B (JK fa)):=aB (IL ha) λσ H Q z=>by
 obtain⟨g,s,t,s',x,h,k⟩:=z;obtain⟨⟨d,s1⟩,h1,h⟩:=aa h;obtain⟨d',h2,h⟩:=aa h;cases kP (ah h2);cases h;exact⟨g,s,_,s1,x,h1,λv g1 H1 p1 x1 r1=>⟨d',r1,k _ g1 H1 p1 x1 rfl⟩⟩
theorem OZ(hc:PT X c (tT B ft))(ha:PE X a (tE B fa))(hb:PE X b (tE B fb)):PE X (.IfExp c a b pos) (tE B (RX ft fa fb)):=aB (qu hc ha hb) λσ H Q z=>by
 obtain⟨g,s,t,s',x,h,k⟩:=z;obtain⟨⟨d,s1⟩,h1,h⟩:=aa h;refine⟨g,s,d,s1,x,h1,λg1 H1 p1 x1=>?_⟩;cases d with
 |true=>exact ng ⟨g1,s1,_,_,x1,h,λw g2 H2 p2 x2 r2=>k w g2 H2 (p1.trans p2) x2 r2⟩
 |false=>exact lC ⟨g1,s1,_,_,x1,h,λw g2 H2 p2 x2 r2=>k w g2 H2 (p1.trans p2) x2 r2⟩
theorem Ak{al:BM}{HF:Hp}{t:T}{k:Bool}{v:V}(h:OH t=some k)(sm:aA HF H)(r:Rep B al HF t v):Jg B.K v H k:=by
 cases t<;>first|(cases h;done)|skip
 ·cases h;cases r;rfl
 ·cases h
  obtain⟨a,vs,rfl,q,rr⟩:=r;refine .inl ⟨vs,bW.of (sm _ _ q),?_⟩
  have:=rr.len
  rename_i xs;cases xs<;>cases vs<;>first|rfl|(cases this)
theorem Hs(ha:PE X a (tE B fa))(hB:B.K=X.K)(he:∀gj,isTrue a X.env gj=(do let v <- gj;standAt a.pos;holding [v] (truthy v))):PT X a (tT B (tB fa)):=uT (zB ha he) λσ H Q z=>by
 obtain⟨g,s,t,s',x,h,k⟩:=z;obtain⟨⟨d,s1⟩,h1,h⟩:=aa h;obtain⟨d',h2,h⟩:=aa h;cases h;exact⟨g,s,_,s1,x,h1,λv g1 H1 p1 x1 r1=>⟨_,hB▸Ak (ah h2) x1.sub r1,k g1 H1 p1 x1⟩⟩
section
theorem cU(l:B1):(⟨l.toArray⟩:Str).length=l.length:=by show l.toArray.size=_;simp
theorem Ua{l:B1}(h:l.length<=1000000):(⟨l.toArray⟩:Str).length<=sizeLine:=by rw[cU,sizeLine_eq];omega
theorem JS(a b:B1):(⟨a.toArray⟩:Str)++⟨b.toArray⟩=⟨(a++b).toArray⟩:=by
 show(⟨a.toArray++b.toArray⟩:Str)=_;simp
def Ht:R2:=λx y H Q=>ye (λi j=>.int (i+j)) x y H Q\/(∃i j,x=.str i/\y=.str j/\i.length+j.length<=sizeLine/\Q (.str (i++j)) H)\/NV x y H Q
theorem DM:eQ X (binaryOp .Add) Ht:=Ja.or (sP.or pM)
theorem O0:nz X OA Ht:=λB hB al HF H x y t tx ty Q sm rx ry h k=>by
 cases tx<;>first|(cases h;done)|(cases ty<;>first|(cases h;done)|skip)
 ·cases h;exact .inl ⟨_,_,rx,ry,k _ HF H (.refl sm) rfl⟩
 ·obtain⟨c,rfl⟩:=aL h
  obtain⟨rfl,_⟩:=rx;obtain⟨rfl,_⟩:=ry;refine .inr (.inl ⟨_,_,rfl,rfl,?_,?_⟩)
  ·rw[cU,cU,sizeLine_eq];omega
  ·rw[JS]
   exact k _ HF H (.refl sm) ⟨rfl,by rw[gH];omega⟩
 ·obtain⟨c,rfl⟩:=aL h
  obtain⟨l,xs,rfl,q,r⟩:=rx;obtain⟨m,ys,rfl,q',r'⟩:=ry;refine .inr (.inr ⟨l,m,xs,ys,rfl,rfl,sm _ _ q,sm _ _ q',by rw[<- r.len,<- r'.len,sizeLine_eq];omega,λp hp=>?_⟩)
  have gr:=Gr.new (o:=.lst (xs++ys)) sm hp;exact k _ _ _ gr ⟨p,_,rfl,af,(r.app r').same gr.fr⟩
theorem O1{f:T->T->FK}{gg:Int->Int->V}{G:Int->Int->T}(hf:∀tx ty t,f tx ty=some t->∃i j,tx=.int i/\ty=.int j/\t=G i j)(hg:∀B al i j H,Rep B al H (G i j) (gg i j)):nz X f (ye gg):=λB hB al HF H x y t tx ty Q sm rx ry h k=>by
 obtain⟨i,j,rfl,rfl,rfl⟩:=hf _ _ _ h;exact⟨i,j,rx,ry,k _ HF H (.refl sm) (hg B al i j HF)⟩
theorem Al{f:T->T->FK}{gg:Int->Int->V}{G:Int->Int->T}{C:Int->Int->Prop}(hf:∀tx ty t,f tx ty=some t->∃i j,tx=.int i/\ty=.int j/\t=G i j/\C i j)(hg:∀B al i j H,Rep B al H (G i j) (gg i j)):nz X f (rI C gg):=λB hB al HF H x y t tx ty Q sm rx ry h k=>by
 obtain⟨i,j,rfl,rfl,rfl,c⟩:=hf _ _ _ h;exact⟨i,j,rx,ry,c,k _ HF H (.refl sm) (hg B al i j HF)⟩
theorem O2:nz X OB (ye λi j=>.int (i-j)):=O1 (G:=λi j=>.int (i-j)) (λtx ty t h=>by
 cases tx<;>first | (cases h;done) | (cases ty<;>first | (cases h;done) | (cases h;exact⟨_,_,rfl,rfl,rfl⟩))) λ_ _ _ _ _=>rfl
theorem O3:nz X OD (rI Nu λi j=>.int (i/j)):=Al (G:=λi j=>.int (i/j)) (λtx ty t h=>by
 cases tx<;>first | (cases h;done) | (cases ty<;>first | (cases h;done) | (obtain⟨c,rfl⟩:=aL h;exact⟨_,_,rfl,rfl,rfl,c⟩))) λ_ _ _ _ _=>rfl
theorem O4:nz X OE (rI (λ_ j=>0<j) λi j=>.int (i % j)):=Al (G:=λi j=>.int (i % j)) (λtx ty t h=>by
 cases tx<;>first | (cases h;done) | (cases ty<;>first | (cases h;done) | (obtain⟨c,rfl⟩:=aL h;exact⟨_,_,rfl,rfl,rfl,c⟩))) λ_ _ _ _ _=>rfl
theorem O5:nz X OF (rI Nv λi j=>.int (i^j.toNat)):=Al (G:=λi j=>.int (i^j.toNat)) (λtx ty t h=>by
 cases tx<;>first | (cases h;done) | (cases ty<;>first | (cases h;done) | (obtain⟨c,rfl⟩:=aL h;exact⟨_,_,rfl,rfl,rfl,c⟩))) λ_ _ _ _ _=>rfl
def uV(i j:Int):Prop:=I_ i j\/(i.natAbs.log2<2000000/\j.natAbs.log2<2000000)
theorem n_{i:Int}(h:i.natAbs.log2<2000000):Builtin.Int.intBits i<=2000000:=by
 unfold Builtin.Int.intBits;split
 ·omega
 ·omega
theorem uV.ok{i j:Int}(h:uV i j):IntMulOk i j:=by
 rcases h with h|⟨h1,h2⟩
 ·exact h.ok
 ·have a:=n_ h1
  have b:=n_ h2;intro q;rw[bL]at q;have c:=of_decide_eq_true (show decide (((Builtin.Int.intBits i:Nat):Int)+(Builtin.Int.intBits j:Nat) > (bitsLine:Nat))=true from q.2);have d:(bitsLine:Nat)=134217728:=rfl;omega
theorem DN:eQ X (binaryOp .Mult) (rI uV λi j=>.int (i*j)):=RH λ_ _ _ _ _ _ _ hc q=>PyProof.Rows.mul_int q hc.ok
def Am:R2:=λx y H Q=>∃l k,x=SV l/\y=.int k/\(k=0\/k=1)/\l≠[]/\l.length<=1000000/\Q (SV (cj k.toNat l).flatten) H
theorem An:eQ X (binaryOp .Mult) Am:=by
 intro ae s σ H x y v u Q I rx ry h;obtain⟨l,k,rfl,rfl,hk,gR,hz,q⟩:=h;obtain⟨t,rfl⟩:=rx;obtain⟨t',rfl⟩:=ry;have len:=cU l;have hsz:=sizeLine_eq;have xC:0<l.length:=List.length_pos_iff.mpr gR;refine PySem.P.mul_str (by rw[decide_eq_false (by omega),decide_eq_false (by omega)];rfl) (λhn _=>?_) (λ_ _=>?_) ?_
 ·intro yk
  rw[len]at yk;rcases hk with rfl|rfl<;>omega
 ·rw[len]
  unfold Builtin.Str.tooLong;exact decide_eq_false (by rcases hk with rfl|rfl<;>simp<;>omega)
 ·rcases hk with rfl|rfl
  ·rw[if_pos (by omega)]
   exact⟨by show 0<=_;omega,⟨SV [],H,I.tok _,⟨_,rfl⟩,q⟩⟩
  ·rw[if_neg (by omega),if_pos (by simp)]
   have e:(cj (Int.toNat 1) l).flatten=l:=by simp
   rw[e]at q;exact⟨SV l,H,I,⟨_,rfl⟩,q⟩
def Hu:R2:=λx y H Q=>rI uV (λi j=>.int (i*j)) x y H Q\/NX x y H Q\/Am x y H Q
theorem DO:eQ X (binaryOp .Mult) Hu:=DN.or (zU.or An)
def Hv:T->T->FK
 |.int i,.int j=>OC (.int i) (.int j)
 |.lst a,.int k=>OC (.lst a) (.int k)
 |.str l,.int k=>gd ((k=0\/k=1)/\l≠[]/\l.length<=1000000) (.str (cj k.toNat l).flatten)
 |_,_=>none
theorem O6:nz X Hv Hu:=λB hB al HF H x y t tx ty Q sm rx ry h k=>by
 cases tx<;>first|(cases h;done)|(cases ty<;>first|(cases h;done)|skip)
 ·obtain⟨c,rfl⟩:=aL h
  exact .inl ⟨_,_,rx,ry,c,k _ HF H (.refl sm) rfl⟩
 ·obtain⟨c,rfl⟩:=aL h
  obtain⟨rfl,_⟩:=rx;refine .inr (.inr ⟨_,_,rfl,ry,c.1,c.2.1,c.2.2,k _ HF H (.refl sm) ⟨rfl,?_⟩⟩);rcases c.1 with e|e
  ·rw[e];simp
  ·rw[e];simpa using c.2.2
 ·obtain⟨c,rfl⟩:=aL h
  obtain⟨l,xs,rfl,q,r⟩:=rx;refine .inr (.inl ⟨l,_,xs,rfl,ry,sm _ _ q,by omega,by omega,by rw[<- r.len,sizeLine_eq];omega,λp hp=>?_⟩)
  exact k _ _ _ (Gr.new sm hp) ⟨p,_,rfl,af,(r.flat _).same (aF (sm.free hp))⟩
def gE:Operator->T->T->FK
 |.Add=>OA
 |.Sub=>OB
 |.Mult=>Hv
 |.FloorDiv=>OD
 |.Mod=>OE
 |.Pow=>OF
 |_=>λ_ _=>none
theorem O7(hB:B.K=X.K)(op:Operator)(ha:PE X a (tE B fa))(hb:PE X b (tE B fb)):PE X (.BinOp a op b pos) (tE B (dD (gE op) fa fb)):=by
 have no:∀f:T->T->FK,(∀x y,f x y=none)->PE X (.BinOp a op b pos) (tE B (dD f fa fb)):=λf hf _ _ _ _ _ _ z=>by
  obtain⟨_,_,_,_,_,h,_⟩:=z;obtain⟨⟨tx,s1⟩,h1,h⟩:=aa h;obtain⟨⟨ty,s2⟩,h2,h⟩:=aa h;obtain⟨t',h3,h⟩:=aa h;rw[hf]at h3;cases h3
 cases op
 case Add=>exact aB (iC DM ha hb) (h_ hB O0)
 case Sub=>exact aB (iC Jb ha hb) (h_ hB O2)
 case Mult=>exact aB (iC DO ha hb) (h_ hB O6)
 case FloorDiv=>exact aB (iC Dd ha hb) (h_ hB O3)
 case Mod=>exact aB (iC Jc ha hb) (h_ hB O4)
 case Pow=>exact aB (iC Jd ha hb) (h_ hB O5)
 all_goals exact no _ λ_ _=>rfl
theorem O8(hB:B.K=X.K)(ha:PE X a (tE B fa)):PE X (.UnaryOp .USub a pos) (tE B (kN xx fa)):=
 aB (Nr Je ha) (Ai hB λB hB al HF H x t tx Q sm rx h k=>by
  cases tx<;>first|(cases h;done)|skip
  cases h;exact⟨_,rx,k _ HF H (.refl sm) rfl⟩)
end
section
theorem cY{B:KT}{al:BM}{H:Hp}{t:T}{v:V}(h:Rep B al H t v)(f:bg t=true):df v=true:=by
 cases t with
 |non=>cases(show v=.non from h);rfl
 |bl b=>cases(show v=.bl b from h);rfl
 |int i=>cases(show v=.int i from h);rfl
 |str l=>obtain⟨rfl,_⟩:=h;rfl
 |tup _=>cases f
 |lst _=>cases f
 |scr _=>cases f
 |obj _ _=>cases f
 |own _=>cases f
 |c8 _ _=>cases f
theorem str_beq(l m:B1):((⟨l.toArray⟩:Str) == ⟨m.toArray⟩)=decide (l=m):=by
 by_cases h:l=m
 ·subst h;simp
 ·rw[decide_eq_false h,beq_eq_false_iff_ne]
  intro e;injection e with e
  exact h (by simpa using e)
theorem jl{B:KT}{al:BM}{H:Hp}{t u:T}{v w:V}(h:Rep B al H t v)(h':Rep B al H u w)(f:bg t=true)(f':bg u=true):zO v w=eqT t u:=by
 cases t with
 |tup _=>cases f
 |lst _=>cases f
 |scr _=>cases f
 |obj _ _=>cases f
 |own _=>cases f
 |c8 _ _=>cases f
 |non=>
  cases(show v=.non from h);cases u with
  |tup _=>cases f'
  |lst _=>cases f'
  |scr _=>cases f'
  |obj _ _=>cases f'
  |own _=>cases f'
  |c8 _ _=>cases f'
  |non=>cases(show w=.non from h');rfl
  |bl b=>cases(show w=.bl b from h');rfl
  |int i=>cases(show w=.int i from h');rfl
  |str l=>obtain⟨rfl,_⟩:=h';rfl
 |bl b0=>
  cases(show v=.bl b0 from h);cases u with
  |tup _=>cases f'
  |lst _=>cases f'
  |scr _=>cases f'
  |obj _ _=>cases f'
  |own _=>cases f'
  |c8 _ _=>cases f'
  |non=>cases(show w=.non from h');rfl
  |bl b=>cases(show w=.bl b from h');rfl
  |int i=>
   cases(show w=.int i from h');show((if b0 then 1 else 0) == i)=decide ((if b0 then 1 else 0:Int)=i)
   rw[yJ]
  |str l=>obtain⟨rfl,_⟩:=h';rfl
 |int i0=>
  cases(show v=.int i0 from h);cases u with
  |tup _=>cases f'
  |lst _=>cases f'
  |scr _=>cases f'
  |obj _ _=>cases f'
  |own _=>cases f'
  |c8 _ _=>cases f'
  |non=>cases(show w=.non from h');rfl
  |bl b=>
   cases(show w=.bl b from h');show(i0 == (if b then 1 else 0))=decide (i0=(if b then 1 else 0:Int))
   rw[yJ]
  |int i=>
   cases(show w=.int i from h');show(i0 == i)=decide (i0=i);rw[yJ]
  |str l=>obtain⟨rfl,_⟩:=h';rfl
 |str l0=>
  obtain⟨rfl,_⟩:=h;cases u with
  |tup _=>cases f'
  |lst _=>cases f'
  |scr _=>cases f'
  |obj _ _=>cases f'
  |own _=>cases f'
  |c8 _ _=>cases f'
  |non=>cases(show w=.non from h');rfl
  |bl b=>cases(show w=.bl b from h');rfl
  |int i=>cases(show w=.int i from h');rfl
  |str l=>obtain⟨rfl,_⟩:=h';exact str_beq _ _
theorem jm{ae:b7}{σ:St}{H HF:Hp}{s:Shared}{a:Addr}{vs:List V}(I:Inv X ae σ H s)(sm:aA HF H)(h:jZ X.K HF a vs):∃av:B2,Vals vs av/\s.heap.IsTuple a av.toArray:=by
 obtain⟨av,r,ht,hz⟩:=I.tuple (xs:=vs) (bB sm h);exact⟨av,r,ht⟩
theorem jn{ae:b7}{σ:St}{H HF:Hp}{s:Shared}{a:Addr}{vs:List V}(I:Inv X ae σ H s)(sm:aA HF H)(h:HF a=some (.lst vs)):∃av:B2,Vals vs av/\s.heap.IsList a av.toArray:=by
 obtain⟨av,r,p,hz⟩:=I.list (bW.of (sm _ _ h));exact⟨av,r,p.isList⟩
theorem Ao{v:V}(f:df v=true):zO v v=true:=by
 cases v<;>first|(cases f;done)|rfl|(show(_ == _)=true;exact beq_self_eq_true _)
theorem jS{n:Nat}{ks:List Ky}{ts:Fs}{u:T}(h:shape (n+1) (.c8 ks ts) u=true):ks=[]/\ts=[]/\u=.c8 [] []:=by
 cases ks<;>cases ts<;>cases u<;>first|(cases h;done)|(rename_i ls us;cases ls<;>cases us<;>first|(cases h;done)|exact⟨rfl,rfl,rfl⟩)
theorem jo{P P':Program}{w w':World}{h:Heap}{a:Addr}(d:h.DictOf (aN P w) a []):h.DictOf (aN P' w') a []:=by
 obtain⟨o,es,ep,h1,h2,h3,h4,h5,h6⟩:=d;obtain⟨l⟩:=es;cases l with
 |nil=>exact⟨o,_,ep,h1,h2,h3,λe he=>by simp at he,.nil,h6⟩
 |cons x l=>cases h5
theorem Aq{ae:b7}{σ:St}{H HF:Hp}{s:Shared}{A:Around}{a b:Addr}(I:Inv X ae σ H s)(sm:aA HF H)(q:HF a=some (.dK []))(q':HF b=some (.dK []))(hu:A.units<cLine):SeqAt.RcAt A s (.ref a) (.ref b) true/\SeqAt.RcNeAt A s (.ref a) (.ref b) false:=by
 obtain⟨_,s1,vs,k1,d1⟩:=(show bA X.prog X.w H s.heap a (.dK [])from I.aV a _ (sm _ _ q));obtain⟨_,s2,ws,k2,d2⟩:=(show bA X.prog X.w H s.heap b (.dK [])from I.aV b _ (sm _ _ q'));cases k1;cases k2;exact⟨λP w E Q h=>PySem.W.keq_eq s1 s2 (jo d1) (jo d2) hu (λ_=>.nil) h,λP w E Q h=>PySem.W.keq_ne s1 s2 (jo d1) (jo d2) hu (λ_=>.nil) h⟩
theorem Ar(t u:T):shape 0 t u=(bg t&&bg u):=rfl
theorem uW{al:BM}(hB:B.K=X.K){ae:b7}{σ:St}{H HF:Hp}{s:Shared}(I:Inv X ae σ H s)(sm:aA HF H)(n:Nat):∀{t u:T}{v:V},Rep B al HF t v->Rep B al HF u v->shape n t u=true->eqT t u=true:=by
 have flat:∀{t u:T}{v:V},Rep B al HF t v->Rep B al HF u v->(bg t&&bg u)=true->eqT t u=true:=λh h' f=>by
  obtain⟨f1,f2⟩:=sC.mp f;rw[<- jl h h' f1 f2];exact Ao (cY h f1)
 induction n with
 |zero=>exact λ{t u v} h h' sh=>flat h h' ((Ar t u).symm.trans sh)
 |succ n ih=>
  intro t u v h h' sh;have items:∀{ts us:Fs}{vs:List V},aq B al HF ts vs->aq B al HF us vs->all2 (shape n) ts us=true->gZ ts us=true:=by
   intro ts
   induction ts with
   |nil=>intro us vs h h' _;cases(show vs=[]from h);cases us with
    |nil=>rfl
    |cons u us=>obtain⟨_,_,e,_⟩:=h';cases e
   |cons t ts iht=>intro us vs h h' sh;cases us with
    |nil=>obtain⟨_,_,e,_⟩:=h;cases(show vs=[]from h');cases e
    |cons u us=>
     obtain⟨v,r,rfl,h1,h2⟩:=h;obtain⟨v',r',e,O9,Ct⟩:=h';cases e;obtain⟨YN,YO⟩:=sC.mp (show(shape n t u&&all2 (shape n) ts us)=true from sh);show(eqT t u&&gZ ts us)=true;rw[ih h1 O9 YN,iht h2 Ct YO];rfl
  cases t with
  |tup ts=>
   cases u with
   |tup us=>
    obtain⟨a,vs,rfl,q,r⟩:=h;obtain⟨a',dX,e,q',r'⟩:=h';cases e;have ev:=I.nM (bB sm (hB▸q)) (bB sm (hB▸q'));subst ev;exact items r r' sh
   |_=>exact flat h h' sh
  |lst ts=>
   cases u with
   |lst us=>
    obtain⟨a,vs,rfl,q,r⟩:=h;obtain⟨a',dX,e,q',r'⟩:=h';cases e;rw[q]at q';cases q';exact items r r' sh
   |_=>exact flat h h' sh
  |c8 ks ts=>
   obtain⟨rfl,rfl,rfl⟩:=jS sh;rfl
  |_=>exact flat h h' (by cases u<;>exact sh)
theorem qS{p:T->T->Bool}:∀{as bs:Fs},all2 p as bs=true->∀{j:Nat}{a b:T},as[j]?=some a->bs[j]?=some b->p a b=true
 |a::as,b::bs,h,0,_,_,e1,e2=>by
  simp at e1 e2;subst e1 e2;exact(sC.mp h).1
 |a::as,b::bs,h,j+1,_,_,e1,e2=>qS (sC.mp h).2 (j:=j) (by simpa using e1) (by simpa using e2)
 |[],_,_,_,_,_,e1,_=>by simp at e1
 |_::_,[],_,_,_,_,_,e2=>by simp at e2
theorem eu:∀(xs ys:Fs),((cD (min xs.length ys.length)).all (λj=>eqT (xs.getD j .non) (ys.getD j .non))&&xs.length == ys.length)=gZ xs ys
 |[],[]=>rfl
 |[],_::_=>by simp[gZ]
 |_::_,[]=>by simp[gZ]
 |x::xs,y::ys=>by
  have ih:=eu xs ys;rw[cT,cT,Nat.succ_min_succ,zb,c_,GA];have e:(xs.length+1 == ys.length+1)=(xs.length == ys.length):=by
   by_cases h:xs.length=ys.length<;>simp[h]
  rw[e];show((eqT x y&&(cD (min xs.length ys.length)).all λj=>eqT (xs.getD j .non) (ys.getD j .non))&&_)=(eqT x y&&gZ xs ys);rw[<- ih,Bool.and_assoc]
theorem lT:∀{xs ys:Fs},xs.length≠ys.length->gZ xs ys=false
 |[],[],h=>absurd rfl h
 |[],_::_,_=>rfl
 |_::_,[],_=>rfl
 |x::xs,y::ys,h=>by
  show(eqT x y&&gZ xs ys)=false;rw[lT (λe=>h (by simp[e])),Gn]
theorem in1_units(A:Around):A.in1.units=A.units+1:=rfl
theorem jq{al:BM}{HF:Hp}{A:Around}{s:Shared}{ts us:Fs}{vs ws:List V}{av its':B2}{n:Nat}(r:aq B al HF ts vs)(r':aq B al HF us ws)(rv:Vals vs av)(uX:Vals ws its')(sh:all2 (shape n) ts us=true)
  (ih:∀{t u:T}{v w:V}{x y:Value},Rep B al HF t v->Rep B al HF u w->RelV v x->RelV w y->shape n t u=true->SeqAt.EqAt A s x y (eqT t u)) :
  ∀j(h1:j<av.toArray.size)(h2:j<its'.toArray.size),SeqAt.EqAt A s av.toArray[j] its'.toArray[j] ((λj=>eqT (ts.getD j .non) (us.getD j .non)) j):=by
 intro j h1 h2;have l1:=rv.length;have l2:=uX.length;have l3:=r.len;have l4:=r'.len;have O9:j<ts.length:=by rw[l3,l1];simpa using h1
 have Ct:j<us.length:=by rw[l4,l2];simpa using h2
 obtain⟨v,e1,q1⟩:=r.get (eM O9);obtain⟨w,e2,q2⟩:=r'.get (eM Ct);obtain⟨x,e3,q3⟩:=rv.get e1;obtain⟨y,e4,q4⟩:=uX.get e2;have q5:av.toArray[j]=x:=by
  obtain⟨_,z⟩:=eT.mp e3;simpa using z
 have q6:its'.toArray[j]=y:=by
  obtain⟨_,z⟩:=eT.mp e4;simpa using z
 rw[q5,q6];have g1:ts.getD j .non=ts[j]:=by rw[CO,eM O9];rfl
 have g2:us.getD j .non=us[j]:=by rw[CO,eM Ct];rfl
 show SeqAt.EqAt A s x y (eqT (ts.getD j .non) (us.getD j .non));rw[g1,g2];exact ih q1 q2 q3 q4 (qS sh (eM O9) (eM Ct))
theorem DP{al:BM}(hB:B.K=X.K){ae:b7}{σ:St}{H HF:Hp}{s:Shared}(I:Inv X ae σ H s)(sm:aA HF H)(n:Nat):∀(A:Around){t u:T}{v w:V}{x y:Value},A.units+n<cLine->Rep B al HF t v->Rep B al HF u w->RelV v x->RelV w y->shape n t u=true->SeqAt.EqAt A s x y (eqT t u):=by
 induction n with
 |zero=>
  intro A t u v w x y hu rt ru rx ry sh;have sh:=(Ar t u).symm.trans sh;obtain⟨f1,f2⟩:=sC.mp sh;rw[<- jl rt ru f1 f2];exact sZ rx ry (cY rt f1) (cY ru f2)
 |succ n ih=>
  intro A t u v w x y hu rt ru rx ry sh;have flat:(bg t&&bg u)=true->SeqAt.EqAt A s x y (eqT t u):=λsh=>by
   obtain⟨f1,f2⟩:=sC.mp sh;rw[<- jl rt ru f1 f2];exact sZ rx ry (cY rt f1) (cY ru f2)
  cases t with
  |tup ts=>
   cases u with
   |tup us=>
    obtain⟨a,vs,rfl,q,r⟩:=id rt;obtain⟨b,ws,rfl,q',r'⟩:=id ru;cases rx;cases ry;by_cases hab:a=b
    ·subst hab
     rw[uW hB I sm (n+1) rt ru sh];exact SeqAt.EqAt.same _
    obtain⟨av,rv,ht⟩:=jm I sm (hB▸q);obtain⟨its',uX,yl⟩:=jm I sm (hB▸q');have z:=SeqAt.RcAt.tuples ht yl (CK (sE _ _) hu) (jq (A:=A.in1) r r' rv uX sh (λa b c d e=>ih A.in1 (by rw[in1_units];omega) a b c d e))
    rw[eU,eU,<- rv.length,<- uX.length,<- r.len,<- r'.len,eu]at z;exact .of_refs hab z
   |_=>exact flat sh
  |lst ts=>
   cases u with
   |lst us=>
    obtain⟨a,vs,rfl,q,r⟩:=id rt;obtain⟨b,ws,rfl,q',r'⟩:=id ru;cases rx;cases ry;by_cases hab:a=b
    ·subst hab
     rw[uW hB I sm (n+1) rt ru sh];exact SeqAt.EqAt.same _
    obtain⟨av,rv,ht⟩:=jn I sm q;obtain⟨its',uX,yl⟩:=jn I sm q';have l1:=rv.length;have l2:=uX.length;have l3:=r.len;have l4:=r'.len;by_cases hsz:ts.length=us.length
    ·have z:=SeqAt.RcAt.lists ht yl (by rw[eU,eU];omega) (CK (sE _ _) hu) (jq (A:=A.in1) r r' rv uX sh (λa b c d e=>ih A.in1 (by rw[in1_units];omega) a b c d e))
     have e:=eu ts us;rw[<- hsz,Gx,beq_self_eq_true,CI]at e;rw[eU,<- l1,<- l3,e]at z;exact .of_refs hab z
    ·have z:=SeqAt.RcAt.lists_lengths (s:=s) (A:=A) ht yl (by rw[eU,eU,bne_iff_ne];omega) (CK (sE _ _) hu)
     rw[<- lT hsz]at z;exact .of_refs hab z
   |_=>exact flat sh
  |c8 ks ts=>
   obtain⟨rfl,rfl,rfl⟩:=jS sh;obtain⟨a,vs,rfl,q,_,r⟩:=rt;obtain⟨b,ws,rfl,q',_,r'⟩:=ru;cases(show vs=[]from r);cases(show ws=[]from r');cases rx;cases ry;by_cases hab:a=b
   ·subst hab
    exact SeqAt.EqAt.same _
   ·exact .of_refs hab (Aq I sm q q' (CK (sE _ _) hu)).1
  |_=>exact flat (by cases u<;>exact sh)
theorem DQ{al:BM}{HF:Hp}{A:Around}{s:Shared}{t u:T}{v w:V}{x y:Value}(rt:Rep B al HF t v)(ru:Rep B al HF u w)(rx:RelV v x)(ry:RelV w y)(f1:bg t=true)(f2:bg u=true):SeqAt.RcAt A s x y (eqT t u)/\SeqAt.RcNeAt A s x y (!eqT t u):=by
 rw[<- jl rt ru f1 f2];have g1:=cY rt f1;have g2:=cY ru f2;cases v with
 |non=>
  cases rx;cases w with
  |non=>cases ry;exact⟨SeqAt.RcAt.none_none,SeqAt.RcNeAt.none_none⟩
  |bl b=>cases ry;exact⟨SeqAt.RcAt.none_bool b,SeqAt.RcNeAt.none_bool b⟩
  |int b=>obtain⟨t,rfl⟩:=ry;exact⟨SeqAt.RcAt.none_int b t,SeqAt.RcNeAt.none_int b t⟩
  |str b=>obtain⟨t,rfl⟩:=ry;exact⟨SeqAt.RcAt.none_str b t,SeqAt.RcNeAt.none_str b t⟩
  |_=>exact absurd (show false=true from g2) fF
 |bl a=>
  cases rx;cases w with
  |non=>cases ry;exact⟨SeqAt.RcAt.bool_none a,SeqAt.RcNeAt.bool_none a⟩
  |bl b=>cases ry;exact⟨SeqAt.RcAt.bool_bool a b,SeqAt.RcNeAt.bool_bool a b⟩
  |int b=>obtain⟨t,rfl⟩:=ry;exact⟨SeqAt.RcAt.bool_int a b t,SeqAt.RcNeAt.bool_int a b t⟩
  |str b=>obtain⟨t,rfl⟩:=ry;exact⟨SeqAt.RcAt.bool_str a b t,SeqAt.RcNeAt.bool_str a b t⟩
  |_=>exact absurd (show false=true from g2) fF
 |int a=>
  obtain⟨t',rfl⟩:=rx;cases w with
  |non=>cases ry;exact⟨SeqAt.RcAt.int_none a t',SeqAt.RcNeAt.int_none a t'⟩
  |bl b=>cases ry;exact⟨SeqAt.RcAt.int_bool a t' b,SeqAt.RcNeAt.int_bool a t' b⟩
  |int b=>obtain⟨t,rfl⟩:=ry;exact⟨SeqAt.RcAt.int_int a t' b t,SeqAt.RcNeAt.int_int a t' b t⟩
  |str b=>obtain⟨t,rfl⟩:=ry;exact⟨SeqAt.RcAt.int_str a t' b t,SeqAt.RcNeAt.int_str a t' b t⟩
  |_=>exact absurd (show false=true from g2) fF
 |str a=>
  obtain⟨t',rfl⟩:=rx;cases w with
  |non=>cases ry;exact⟨SeqAt.RcAt.str_none a t',SeqAt.RcNeAt.str_none a t'⟩
  |bl b=>cases ry;exact⟨SeqAt.RcAt.str_bool a t' b,SeqAt.RcNeAt.str_bool a t' b⟩
  |int b=>obtain⟨t,rfl⟩:=ry;exact⟨SeqAt.RcAt.str_int a t' b t,SeqAt.RcNeAt.str_int a t' b t⟩
  |str b=>obtain⟨t,rfl⟩:=ry;exact⟨SeqAt.RcAt.str_str a t' b t,SeqAt.RcNeAt.str_str a t' b t⟩
  |_=>exact absurd (show false=true from g2) fF
 |_=>exact absurd (show false=true from g1) fF
theorem As{al:BM}(hB:B.K=X.K){ae:b7}{σ:St}{H HF:Hp}{s:Shared}(I:Inv X ae σ H s)(sm:aA HF H)(A:Around){t u:T}{v w:V}{x y:Value}(hu:A.units+6<cLine)(rt:Rep B al HF t v)(ru:Rep B al HF u w)(rx:RelV v x)(ry:RelV w y)(sh:shape 5 t u=true) :
  SeqAt.RcAt A s x y (eqT t u)/\SeqAt.RcNeAt A s x y (!eqT t u):=by
 have flat:(bg t&&bg u)=true->SeqAt.RcAt A s x y (eqT t u)/\SeqAt.RcNeAt A s x y (!eqT t u):=λsh=>by
  obtain⟨f1,f2⟩:=sC.mp sh;exact DQ rt ru rx ry f1 f2
 have JT:A.units<cLine:=by omega
 have dp:=λ{t u:T} {v w:V} {x y:Value} (a:Rep B al HF t v) (b:Rep B al HF u w) (c:RelV v x) (d:RelV w y) (e:shape 4 t u=true)=>DP hB I sm 4 A.in1 (by rw[in1_units];omega) a b c d e
 cases t with
 |tup ts=>
  cases u with
  |tup us=>
   obtain⟨a,vs,rfl,q,r⟩:=id rt;obtain⟨b,ws,rfl,q',r'⟩:=id ru;cases rx;cases ry;obtain⟨av,rv,ht⟩:=jm I sm (hB▸q);obtain⟨its',uX,yl⟩:=jm I sm (hB▸q');have it:=jq (A:=A.in1) (s:=s) r r' rv uX sh dp;have z:=SeqAt.RcAt.tuples ht yl JT it;have z2:=SeqAt.RcNeAt.tuples ht yl JT it;rw[eU,eU,<- rv.length,<- uX.length,<- r.len,<- r'.len,eu]at z z2;exact⟨z,z2⟩
  |_=>exact flat sh
 |lst ts=>
  cases u with
  |lst us=>
   obtain⟨a,vs,rfl,q,r⟩:=id rt;obtain⟨b,ws,rfl,q',r'⟩:=id ru;cases rx;cases ry;obtain⟨av,rv,ht⟩:=jn I sm q;obtain⟨its',uX,yl⟩:=jn I sm q';have l1:=rv.length;have l2:=uX.length;have l3:=r.len;have l4:=r'.len;by_cases hsz:ts.length=us.length
   ·have it:=jq (A:=A.in1) (s:=s) r r' rv uX sh dp
    have hs:av.toArray.size=its'.toArray.size:=by rw[eU,eU];omega
    have z:=SeqAt.RcAt.lists ht yl hs JT it;have z2:=SeqAt.RcNeAt.lists ht yl hs JT it;have e:=eu ts us;rw[<- hsz,Gx,beq_self_eq_true,CI]at e;rw[eU,<- l1,<- l3,e]at z z2;exact⟨z,z2⟩
   ·have hs:(av.toArray.size != its'.toArray.size)=true:=by rw[eU,eU,bne_iff_ne];omega
    have z:=SeqAt.RcAt.lists_lengths (s:=s) (A:=A) ht yl hs JT;have z2:=SeqAt.RcNeAt.lists_lengths (s:=s) (A:=A) ht yl hs JT;have e:eqT (.lst ts) (.lst us)=false:=lT hsz;rw[e];exact⟨z,z2⟩
  |_=>exact flat sh
 |c8 ks ts=>
  obtain⟨rfl,rfl,rfl⟩:=jS sh;obtain⟨a,vs,rfl,q,_,r⟩:=rt;obtain⟨b,ws,rfl,q',_,r'⟩:=ru;cases(show vs=[]from r);cases(show ws=[]from r');cases rx;cases ry;exact Aq I sm q q' JT
 |_=>exact flat (by cases u<;>exact sh)
theorem JU(hu:X.A.units+6<cLine):eQ X (compareOp .Eq) (λx y H Q=>∃B al HF t u,B.K=X.K/\aA HF H/\Rep B al HF t x/\Rep B al HF u y/\shape 5 t u=true/\Q (.bl (eqT t u)) H):=by
 intro ae s σ H x y v u Q I rx ry h;obtain⟨B,al,HF,t,u',hB,sm,rt,ru,sh,q⟩:=h;exact(As hB I sm X.A hu rt ru rx ry sh).1 _ _ _ _ (gO I q rfl)
theorem JV(hu:X.A.units+6<cLine):eQ X (compareOp .NotEq) (λx y H Q=>∃B al HF t u,B.K=X.K/\aA HF H/\Rep B al HF t x/\Rep B al HF u y/\shape 5 t u=true/\Q (.bl (!eqT t u)) H):=by
 intro ae s σ H x y v u Q I rx ry h;obtain⟨B,al,HF,t,u',hB,sm,rt,ru,sh,q⟩:=h;exact(As hB I sm X.A hu rt ru rx ry sh).2 _ _ _ _ (gO I q rfl)
theorem Au:eQ X (compareOp .Is) (λx y H Q=>∃a b,x=.bl a/\y=.bl b/\Q (.bl (a == b)) H):=by
 intro ae s σ H x y v u Q I rx ry h;obtain⟨a,b,rfl,rfl,q⟩:=h;cases rx;cases ry;exact PyProof.Rows.is_bool (gO I q rfl)
theorem qT{B:KT}{al:BM}{H:Hp}:∀{ts:Fs}{vs:List V},aq B al H ts vs->ts.all bg=true->vs.all df=true
 |[],_,h,_=>by cases(show _=[]from h);rfl
 |t::ts,_,h,f=>by
  obtain⟨v,r,rfl,h1,h2⟩:=h;rw[c_,bL]at f;rw[c_,cY h1 f.1,qT h2 f.2];rfl
theorem any_eq{B:KT}{al:BM}{H:Hp}{x:T}{xv:V}(hx:Rep B al H x xv)(fx:bg x=true):∀{ts:Fs}{vs:List V},aq B al H ts vs->ts.all bg=true->(vs.any λy=>zO y xv)=ts.any λy=>eqT y x
 |[],_,h,_=>by cases(show _=[]from h);rfl
 |t::ts,_,h,f=>by
  obtain⟨v,r,rfl,h1,h2⟩:=h;rw[c_,bL]at f;rw[mT,mT,jl h1 hx f.1 fx,any_eq hx fx h2 f.2]
theorem tN{α:Type}(xs:List α)(i:Int):atT xs i=zN xs i:=by
 unfold atT zN Dp;by_cases h0:0<=i
 ·rw[if_pos h0,if_pos h0]
  by_cases h1:i<xs.length
  ·rw[if_pos h1,if_pos h1];rfl
  ·rw[if_neg h1,if_neg h1];rfl
 ·rw[if_neg h0,if_neg h0]
  by_cases h1:-(xs.length:Int)<=i
  ·rw[if_pos h1,if_pos h1];rfl
  ·rw[if_neg h1,if_neg h1];rfl
theorem pV{B:KT}{al:BM}{H:Hp}{ts:Fs}{vs:List V}{i:Int}{t:T}(r:aq B al H ts vs)(h:atT ts i=some t):∃v,zN vs i=some v/\Rep B al H t v:=by
 rw[tN]at h;unfold zN at h ⊢;rw[<- r.len];cases e:Dp ts.length i with
 |none=>rw[e]at h;cases h
 |some j=>
  rw[e]at h;exact r.get h
end
section
variable{p2:Pos}{MM MN:FO}{MO MP:Option Expr}
def JW:T->Bool
 |.non=>true
 |_=>false
theorem Av{al:BM}{H:Hp}{t:T}{v:V}(h:Rep B al H t v):decide (v=.non)=JW t:=by
 cases t with
 |non=>cases(show v=.non from h);rfl
 |bl b=>cases(show v=.bl b from h);rfl
 |int i=>cases(show v=.int i from h);rfl
 |str l=>obtain⟨rfl,_⟩:=h;rfl
 |tup ts=>obtain⟨a,vs,rfl,_⟩:=h;rfl
 |lst ts=>obtain⟨a,vs,rfl,_⟩:=h;rfl
 |scr ts=>obtain⟨a,rfl,_⟩:=h;rfl
 |obj _ _=>obtain⟨a,_,_,_,_,rfl,_⟩:=h;rfl
 |own _=>obtain⟨a,rfl,_⟩:=h;rfl
 |c8 _ _=>obtain⟨a,xs,rfl,_⟩:=h;rfl
def YQ:R2:=λx y H Q=>(y=.non/\Q (.bl (decide (x=.non))) H)\/∃a b,x=.bl a/\y=.bl b/\Q (.bl (a == b)) H
def Ub:R2:=λx y H Q=>(y=.non/\Q (.bl (!decide (x=.non))) H)\/∃a b,x=.bl a/\y=.bl b/\Q (.bl (a != b)) H
theorem DR{tx ty t:T}(h:TL tx ty=some t):(ty=.non/\t=.bl (JW tx))\/∃a b,tx=.bl a/\ty=.bl b/\t=.bl (a == b):=by
 cases tx<;>cases ty<;>first|(cases h;done)|(cases h;exact .inl ⟨rfl,rfl⟩)|(cases h;exact .inr ⟨_,_,rfl,rfl,rfl⟩)
theorem Aw{tx ty t:T}(h:JF tx ty=some t):(ty=.non/\t=.bl (!JW tx))\/∃a b,tx=.bl a/\ty=.bl b/\t=.bl (a != b):=by
 cases tx<;>cases ty<;>first|(cases h;done)|(cases h;exact .inl ⟨rfl,rfl⟩)|(cases h;exact .inr ⟨_,_,rfl,rfl,rfl⟩)
theorem Uc:nz X TL YQ:=λB hB al HF H x y t tx ty Q sm rx ry h k=>by
 rcases DR h with⟨rfl,rfl⟩|⟨a,b,rfl,rfl,rfl⟩
 ·exact .inl ⟨ry,by rw[Av rx];exact k _ HF H (.refl sm) rfl⟩
 ·exact .inr ⟨a,b,rx,ry,k _ HF H (.refl sm) rfl⟩
theorem O_:nz X JF Ub:=λB hB al HF H x y t tx ty Q sm rx ry h k=>by
 rcases Aw h with⟨rfl,rfl⟩|⟨a,b,rfl,rfl,rfl⟩
 ·exact .inl ⟨ry,by rw[Av rx];exact k _ HF H (.refl sm) rfl⟩
 ·exact .inr ⟨a,b,rx,ry,k _ HF H (.refl sm) rfl⟩
def qU(K:aS)(neg:Bool):R2:=λx y H Q=>(∃i j,x=.str i/\y=.str j/\Q (.bl (if neg then(!(!(Builtin.Str.occurrences j i 0 j.length 1).isEmpty))else(!(Builtin.Str.occurrences j i 0 j.length 1).isEmpty))) H)\/RK K neg x y H Q
theorem Ax:eQ X (compareOp .In) (qU X.K false):=wL.or wY
theorem uY:eQ X (compareOp .NotIn) (qU X.K true):=pF.or pL
theorem DS{tx ty:T}{k:Bool}(h:JG tx ty=some k):(∃x l,tx=.str x/\ty=.str l/\k=TM x l)\/((∃ys,(ty=.tup ys\/ty=.lst ys)/\(bg tx=true/\ys.all bg=true)/\k=ys.any λy=>eqT y tx)):=by
 cases ty with
 |str l=>
  cases tx with
  |str m=>cases h;exact .inl ⟨m,l,rfl,rfl,rfl⟩
  |_=>cases h
 |tup ys=>
  have h:gd (bg tx=true/\ys.all bg=true) (ys.any λy=>eqT y tx)=some k:=by cases tx<;>exact h
  obtain⟨c,rfl⟩:=aL h;exact .inr ⟨ys,.inl rfl,c,rfl⟩
 |lst ys=>
  have h:gd (bg tx=true/\ys.all bg=true) (ys.any λy=>eqT y tx)=some k:=by cases tx<;>exact h
  obtain⟨c,rfl⟩:=aL h;exact .inr ⟨ys,.inr rfl,c,rfl⟩
 |_=>cases tx<;>cases h
theorem uZ(x l:B1):(!(Builtin.Str.occurrences (⟨l.toArray⟩:Str) ⟨x.toArray⟩ 0 (⟨l.toArray⟩:Str).length 1).isEmpty)=(cD (l.length+1)).any λi=>decide (i+x.length<=l.length)&&((l.drop i).take x.length == x):=by
 rw[yI,StrLaws.found_iff,zc];constructor
 ·rintro⟨i,h1,h2⟩
  rw[StrLaws.subAt_eq,cU]at h2;rw[cU,cU]at h1;exact⟨i,CL.mpr (by omega),by rw[decide_eq_true h1,yK];exact h2⟩
 ·rintro⟨i,_,h⟩
  rw[bL,decide_eq_true_iff]at h;exact⟨i,by rw[cU,cU];exact h.1,by rw[StrLaws.subAt_eq,cU];exact h.2⟩
theorem DT(x l:B1):(!(Builtin.Str.occurrences (⟨l.toArray⟩:Str) ⟨x.toArray⟩ 0 (⟨l.toArray⟩:Str).length 1).isEmpty)=TM x l:=by
 match x with
 |[]=>exact uZ ..
 |[c]=>exact StrLaws.found_one ..
 |_::_::_=>exact uZ ..
theorem Ay{neg:Bool}{B:KT}(hB:B.K=X.K){al:BM}{HF H:Hp}{x y:V}{tx ty:T}{k:Bool}{Q:VK}(sm:aA HF H)(rx:Rep B al HF tx x)(ry:Rep B al HF ty y)(h:JG tx ty=some k)(q:Q (.bl (if neg then !k else k)) H):qU X.K neg x y H Q:=by
 rcases DS h with⟨x,l,rfl,rfl,rfl⟩|⟨ys,hy,⟨f1,f2⟩,rfl⟩
 ·obtain⟨rfl,_⟩:=rx
  obtain⟨rfl,_⟩:=ry;refine .inl ⟨_,_,rfl,rfl,?_⟩;rw[DT];exact q
 ·right
  have main:∀a vs,y=.ref a->(bW X.K H a vs\/jZ X.K H a vs)->aq B al HF ys vs->RK X.K neg x y H Q:=λa vs ey sq r=>by
   refine⟨a,vs,ey,sq,cY rx f1,qT r f2,?_⟩;unfold SN;rw[any_eq rx f1 r f2];exact q
  rcases hy with rfl|rfl
  ·obtain⟨a,vs,rfl,q1,r⟩:=ry
   exact main a vs rfl (.inr (hB▸bB sm q1)) r
  ·obtain⟨a,vs,rfl,q1,r⟩:=ry
   exact main a vs rfl (.inl (bW.of (sm _ _ q1))) r
theorem Ud:nz X inD (qU X.K false):=λB hB al HF H x y t tx ty Q sm rx ry h k=>by
 unfold inD at h;cases e:JG tx ty with
 |none=>rw[e]at h;cases h
 |some d=>rw[e]at h;cases h;exact Ay hB sm rx ry e (k _ HF H (.refl sm) rfl)
theorem Pa:nz X JH (qU X.K true):=λB hB al HF H x y t tx ty Q sm rx ry h k=>by
 unfold JH at h;cases e:JG tx ty with
 |none=>rw[e]at h;cases h
 |some d=>rw[e]at h;cases h;exact Ay hB sm rx ry e (k _ HF H (.refl sm) rfl)
def Pb(X:Cx)(neg:Bool):R2:=λx y H Q=>∃B al HF t u,B.K=X.K/\aA HF H/\Rep B al HF t x/\Rep B al HF u y/\shape 5 t u=true/\Q (.bl (if neg then !eqT t u else eqT t u)) H
theorem Ue:nz X TH (Pb X false):=λB hB al HF H x y t tx ty Q sm rx ry h k=>by
 obtain⟨c,rfl⟩:=aL h;exact⟨B,al,HF,tx,ty,hB,sm,rx,ry,c,k _ HF H (.refl sm) rfl⟩
theorem Ug:nz X TJ (Pb X true):=λB hB al HF H x y t tx ty Q sm rx ry h k=>by
 obtain⟨c,rfl⟩:=aL h;exact⟨B,al,HF,tx,ty,hB,sm,rx,ry,c,k _ HF H (.refl sm) rfl⟩
theorem u6(f:Int->Int->Bool):nz X (Ae f) (ye λi j=>.bl (f i j)):=O1 (G:=λi j=>.bl (f i j)) (λtx ty t h=>by
 cases tx<;>first | (cases h;done) | (cases ty<;>first | (cases h;done) | (cases h;exact⟨_,_,rfl,rfl,rfl⟩))) λ_ _ _ _ _=>rfl
def DU:CmpOp->T->T->FK
 |.Eq=>TH
 |.NotEq=>TJ
 |.Lt=>Ae λi j=>decide (i<j)
 |.LtE=>Ae λi j=>decide (i<=j)
 |.Gt=>Ae λi j=>decide (j<i)
 |.GtE=>Ae λi j=>decide (j<=i)
 |.Is=>TL
 |.IsNot=>JF
 |.In=>inD
 |.NotIn=>JH
theorem JX{op:CmpOp}{k:Nat}(hr:aX k X.A):∃r,eQ X (compareOp op) r/\nz X (DU op) r:=by
 have hu:X.A.units+6<cLine:=by have:=hr.units;omega
 cases op
 case Eq=>exact⟨_,JU hu,Ue⟩
 case NotEq=>exact⟨_,JV hu,Ug⟩
 case Lt=>exact⟨_,Nx,u6 _⟩
 case LtE=>exact⟨_,Ny,u6 _⟩
 case Gt=>exact⟨_,Nz,u6 _⟩
 case GtE=>exact⟨_,NB,u6 _⟩
 case Is=>exact⟨_,Jf.or Au,Uc⟩
 case IsNot=>exact⟨_,De.or qH,O_⟩
 case In=>exact⟨_,Ax,Ud⟩
 case NotIn=>exact⟨_,uY,Pa⟩
def dF(a:FE):FT:=λs=>(a s).bind λp=>(aT (OL p.1)).bind λb=>.ok (b,p.2)
theorem Az{f:FE}{σ:St}{H:Hp}{Q:Bool->Hp->Prop}(h:tT B (dF f) σ H Q):tE B f σ H (λx H'=>∃k,x=.bl k/\Q k H'):=by
 obtain⟨g,s,t,s',x,h,k⟩:=h;obtain⟨⟨d,s1⟩,h1,h⟩:=aa h;obtain⟨d',h2,h⟩:=aa h;cases kP (ah h2);cases h;exact⟨g,s,_,s1,x,h1,λv g1 H1 p1 x1 r1=>⟨_,r1,k g1 H1 p1 x1⟩⟩
def lU:T->T->FK
 |.c8 _ _,_=>none
 |x,y=>OG x y
theorem AA{tx ty t:T}(h:lU tx ty=some t):∃i,ty=.int i/\((∃xs,(tx=.lst xs\/tx=.tup xs)/\atT xs i=some t)\/(∃l c,tx=.str l/\atT l i=some c/\t=.str [c])\/∃ns n,tx=.scr ns/\atT ns i=some n/\t=.int n):=by
 cases tx<;>first|(cases h;done)|(cases ty<;>first|(cases h;done)|skip)
 ·rename_i l i
  have h:(atT l i).map (λc=>T.str [c])=some t:=h;cases e:atT l i with
  |none=>rw[e]at h;cases h
  |some c=>rw[e]at h;cases h;exact⟨i,rfl,.inr (.inl ⟨l,c,rfl,e,rfl⟩)⟩
 ·exact⟨_,rfl,.inl ⟨_,.inr rfl,h⟩⟩
 ·exact⟨_,rfl,.inl ⟨_,.inl rfl,h⟩⟩
 ·rename_i l i
  have h:(atT l i).map T.int=some t:=h;cases e:atT l i with
  |none=>rw[e]at h;cases h
  |some c=>rw[e]at h;cases h;exact⟨i,rfl,.inr (.inr ⟨l,c,rfl,e,rfl⟩)⟩
theorem JY{α β:Type}(f:α->β){l:List α}{i:Int}{c:α}(h:atT l i=some c):zN (l.map f) i=some (f c):=by
 rw[tN]at h;unfold zN at h ⊢;rw[dB];cases e:Dp l.length i with
 |none=>rw[e]at h;cases h
 |some j=>
  rw[e]at h;show(yR f _)[j]?=_;rw[fk,show _[j]?=some c from h];rfl
theorem Uh:nz X lU (V2 X.K):=λB hB al HF H x y t tx ty Q sm rx ry h k=>by
 obtain⟨i,rfl,⟨xs,hx|hx,e⟩|⟨l,c,rfl,e,rfl⟩|⟨ns,n,rfl,e,rfl⟩⟩:=AA h
 ·subst hx
  obtain⟨p,vs,rfl,q,r⟩:=rx;obtain⟨v,e,rv⟩:=pV r e;exact .inl ⟨p,vs,_,v,rfl,ry,bW.of (sm _ _ q),e,k v HF H (.refl sm) rv⟩
 ·subst hx
  obtain⟨p,vs,rfl,q,r⟩:=rx;obtain⟨v,e,rv⟩:=pV r e;exact .inr (.inl ⟨p,vs,_,v,rfl,ry,hB▸bB sm q,e,k v HF H (.refl sm) rv⟩)
 ·obtain⟨rfl,hz⟩:=rx
  refine .inr (.inr ⟨_,_,c,rfl,ry,Ua hz,?_,k _ HF H (.refl sm) ⟨rfl,by simp⟩⟩)
  rw[<- tN];exact e
 ·obtain⟨p,rfl,q⟩:=rx
  exact .inl ⟨p,_,_,.int n,rfl,ry,hB▸sm.seq q,JY V.int e,k _ HF H (.refl sm) rfl⟩
theorem JZ(hB:B.K=X.K)(ha:PE X a (tE B fa))(hb:PE X b (tE B fb))(hs:ig b):PE X (.Subscript a b pos) (tE B (dD lU fa fb)):=aB (Hb Jl ha hb hs) (h_ hB Uh)
end
end D
namespace L2
open PySem PySem.Spec PyProof.Rows
section
variable{X:Cx}
theorem oh:∀(ls:Bi)(t:Nat),Vals (ls.map V.str) (strsFrom t ls)
 |[],_=>.nil
 |x::ls,t=>.cons ⟨_,rfl⟩ (oh ls (t+1))
theorem AB:wX X "str.split" (λx vs H Q=>∃a b,x=.str a/\vs=[.str b]/\(b.length == 0)=false/\a.length<=sizeLine/\(Txt.split a b).length<=sizeLine/\∀l,H l=none->Q (.ref l) (upd H l (.lst ((Txt.split a b).map V.str)))):=by
 intro ae s σ H x vs v us Q I rx rv h;obtain⟨a,b,rfl,rfl,hb,ha,hz,q⟩:=h;obtain⟨t,rfl⟩:=rx;obtain⟨u,rfl,⟨t',rfl⟩⟩:=rv.one;unfold Txt.split at hz q;by_cases c1:(decide (a.length<b.length) ||decide (Builtin.Str.strKind a<Builtin.Str.strKind b))=true
 ·rw[if_pos c1]at hz q
  refine call_meets F.slot_str_split (typeIs_str s a t) F.entry_str_split (F.args_str_split_2 _ _) (meets_str_split_cannot_occur a b t t' c1) ?_;exact⟨.ref s.heap.objs.size,_,I.wZ (t':=s.toks) (ys:=[V.str a]) (.cons ⟨_,rfl⟩ .nil) hz,rfl,q _ I.fresh⟩
 ·rw[if_neg c1]at hz q
  have Wz:(decide (a.length<b.length) ||decide (Builtin.Str.strKind a<Builtin.Str.strKind b))=false:=by
   rcases Gp (decide (a.length<b.length) ||decide (Builtin.Str.strKind a<Builtin.Str.strKind b))with z|z
   ·exact absurd z c1
   ·exact z
  by_cases c2:(Builtin.Str.occurrences a b 0 a.length (a.length+1)).isEmpty=true
  ·rw[if_pos c2]at hz q
   refine call_meets F.slot_str_split (typeIs_str s a t) F.entry_str_split (F.args_str_split_2 _ _) (meets_str_split_not_found a b t t' Wz hb c2) ?_;exact⟨.ref s.heap.objs.size,_,I.wZ (t':=s.toks) (ys:=[V.str a]) (.cons ⟨_,rfl⟩ .nil) hz,rfl,q _ I.fresh⟩
  ·rw[if_neg c2]at hz q
   have Ui:(Builtin.Str.occurrences a b 0 a.length (a.length+1)).isEmpty=false:=by
    rcases Gp (Builtin.Str.occurrences a b 0 a.length (a.length+1)).isEmpty with z|z
    ·exact absurd z c2
    ·exact z
   refine call_meets F.slot_str_split (typeIs_str s a t) F.entry_str_split (F.args_str_split_2 _ _) (meets_str_split_sep a b t t' Wz hb Ui ha hz) ?_;exact⟨.ref s.heap.objs.size,_,I.wZ (oh _ _) (by rw[dB];exact hz),rfl,q _ I.fresh⟩
end
section
variable{X:Cx}
theorem AD:wX X "str.find" (λx vs H Q=>∃a b,x=.str a/\vs=[.str b]/\Q (.int (Txt.find a b)) H):=by
 intro ae s σ H x vs v us Q I rx rv h;obtain⟨a,b,rfl,rfl,q⟩:=h;obtain⟨t,rfl⟩:=rx;obtain⟨u,rfl,⟨t',rfl⟩⟩:=rv.one;exact SC.find ⟨.int _,H,I.tok _,⟨_,rfl⟩,q⟩
end
end L2
namespace D
open PySem L2
variable{X:Cx}{env:Env}{a b c e o tg:Expr}{fa fb fc fo:FE}{fl:FL}{g g':G}{H H':Hp}{B:KT}{es:Bz}{aY aW p pos:Pos}{s s':S}{σ:St}{x y:Str}
section
variable{p2:Pos}{MM MN:FO}{MO MP:Option Expr}
theorem AE(lo hi:D2)(n:Nat):Builtin.Str.strSliceIndices lo hi 1 n=Builtin.Str.strSliceIndices (some ((D.gP n 0 lo:Nat):Int)) (some ((D.gP n n hi:Nat):Int)) 1 n:=by
 have c:∀v:Int,max 0 (min (if v<0 then v+(n:Int)else v) (n:Int))=((if v<0 then(v+(n:Int)).toNat else min v.toNat n:Nat):Int):=λv=>by
  by_cases hv:v<0
  ·rw[if_pos hv,if_pos hv];omega
  ·rw[if_neg hv,if_neg hv];omega
 have d:∀m:Nat,m<=n->max 0 (min (if((m:Nat):Int)<0 then((m:Nat):Int)+(n:Int)else((m:Nat):Int)) (n:Int))=((m:Nat):Int):=λm hm=>by
  rw[if_neg (by omega)];omega
 have l1:D.gP n 0 lo<=n:=by
  cases lo with
  |none=>exact kh _
  |some v=>show(if v<0 then(v+(n:Int)).toNat else min v.toNat n)<=n;split<;>omega
 have l2:D.gP n n hi<=n:=by
  cases hi with
  |none=>exact cC _
  |some v=>show(if v<0 then(v+(n:Int)).toNat else min v.toNat n)<=n;split<;>omega
 unfold Builtin.Str.strSliceIndices;simp only[show((1:Int) > 0)from by decide,if_true]
 rw[d _ l1,d _ l2]
 congr 1
 ·cases lo with
  |none=>rfl
  |some v=>exact c v
 ·cases hi with
  |none=>rfl
  |some v=>exact c v
theorem AF(n d:Nat)(hd:d<=n)(o:D2):D.gP n d o<=n:=by
 cases o with
 |none=>exact hd
 |some v=>show(if v<0 then(v+(n:Int)).toNat else min v.toNat n)<=n;split<;>omega
theorem cut_str(l:B1)(lo hi:D2):Txt.slice ⟨l.toArray⟩ lo hi=⟨(dQ l lo hi).toArray⟩:=by
 have e0:Txt.slice ⟨l.toArray⟩ lo hi=StrLaws.sliceText ⟨l.toArray⟩ lo hi:=rfl;have e1:StrLaws.sliceText ⟨l.toArray⟩ lo hi=StrLaws.sliceText ⟨l.toArray⟩ (some ((D.gP l.length 0 lo:Nat):Int)) (some ((D.gP l.length l.length hi:Nat):Int)):=by
  unfold StrLaws.sliceText;rw[cU,AE]
 rw[e0,e1];have h2:=AF l.length l.length (cC _) hi;by_cases hab:D.gP l.length 0 lo<=D.gP l.length l.length hi
 ·rw[StrLaws.sliceText_nat _ hab (by rw[cU];exact h2)]
  rfl
 ·have h1:=AF l.length 0 (kh _) lo
  have e3:dQ l lo hi=[]:=by
   unfold dQ;rw[show D.gP l.length l.length hi-D.gP l.length 0 lo=0 by omega,List.take_zero]
  rw[e3];have e4:Builtin.Str.strSliceIndices (some ((D.gP l.length 0 lo:Nat):Int)) (some ((D.gP l.length l.length hi:Nat):Int)) 1 l.length=[]:=by
   have d:∀m:Nat,m<=l.length->max 0 (min (if((m:Nat):Int)<0 then((m:Nat):Int)+(l.length:Int)else((m:Nat):Int)) (l.length:Int))=((m:Nat):Int):=λm hm=>by
    rw[if_neg (by omega)];omega
   unfold Builtin.Str.strSliceIndices;simp only[show((1:Int) > 0)from by decide,if_true]
   rw[d _ h1,d _ h2];simp only[sliceRange];rw[if_pos (by decide),if_neg (by omega)]
   rfl
  unfold StrLaws.sliceText;rw[cU,e4];rw[if_neg (by simp;omega)]
  rfl
theorem AG{α:Type}(l:List α)(lo hi:D2):(dQ l lo hi).length<=l.length:=by
 unfold dQ;rw[yX,yY];omega
theorem pW(xs:List V)(lo hi:D2):wW xs lo hi=dQ xs lo hi:=by
 have e:∀(n d:Nat)(o:D2),HT.gP n d o=D.gP n d o:=λn d o=>by cases o<;>rfl
 unfold wW dQ;rw[e,e]
theorem aq.cut{B:KT}{al:BM}{H:Hp}{ts:Fs}{vs:List V}(r:aq B al H ts vs)(lo hi:D2):aq B al H (dQ ts lo hi) (dQ vs lo hi):=by
 unfold dQ;rw[r.len];exact(r.drop _).take _
theorem DV{α β:Type}(f:α->β)(l:List α)(lo hi:D2):(dQ l lo hi).map f=dQ (l.map f) lo hi:=by
 unfold dQ;rw[dB,List.map_take,List.map_drop]
theorem qV{B:KT}{al:BM}{H:Hp}:∀{ts:Fs}{vs:List V}{ls:Ap},aq B al H ts vs->strsOf ts=some ls->vs=(ls.map λl=>(⟨l.toArray⟩:Str)).map V.str
 |[],_,_,h,e=>by cases(show _=[]from h);cases e;rfl
 |t::ts,_,ls,h,e=>by
  obtain⟨v,r,rfl,h1,h2⟩:=h;cases t<;>first|(cases e;done)|skip
  rename_i l;have e:(strsOf ts).map (l::·)=some ls:=e
  cases e':strsOf ts with
  |none=>rw[e']at e;cases e
  |some ms=>
   rw[e']at e;cases e;obtain⟨rfl,_⟩:=h1;rw[qV h2 e'];rfl
theorem join_eq(sep:B1):∀ls:Ap,Str.join ⟨sep.toArray⟩ (ls.map λl=>(⟨l.toArray⟩:Str))=⟨(gp sep ls).toArray⟩
 |[]=>rfl
 |[c]=>rfl
 |c::d::r=>by
  have ih:=join_eq sep (d::r);show(⟨c.toArray⟩:Str)++⟨sep.toArray⟩++Str.join ⟨sep.toArray⟩ ((d::r).map λl=>(⟨l.toArray⟩:Str))=⟨(c++sep++gp sep (d::r)).toArray⟩;rw[ih,JS,JS]
theorem oi(sep:B1):∀ls:Ap,(gp sep ls).length<=(ls.map (·.length)).sum+ls.length*sep.length
 |[]=>by simp[gp]
 |[c]=>by simp[gp]
 |c::d::r=>by
  have ih:=oi sep (d::r);show(c++sep++gp sep (d::r)).length<=_;rw[gH,gH,dY,List.sum_cons,cT,Gv];omega
theorem AH(ls:Ap):((ls.map λl=>(⟨l.toArray⟩:Str)).map (·.length))=ls.map (·.length):=by
 rw[mV];apply CT;intro l _;exact cU l
theorem J0(l s:B1):Txt.startswith ⟨l.toArray⟩ ⟨s.toArray⟩=pre s l:=by
 unfold Txt.startswith pre;rw[StrLaws.subAt_eq];show(decide (0+(⟨s.toArray⟩:Str).length<=l.toArray.size)&&((l.drop 0).take (⟨s.toArray⟩:Str).length == s))=_;rw[cU,eU,yP,yS]
theorem J1(l s:B1):Txt.endswith ⟨l.toArray⟩ ⟨s.toArray⟩=TQ s l:=by
 unfold Txt.endswith TQ;rw[StrLaws.subAt_eq,cU,cU];show(decide (0+s.length<=l.length)&&((l.drop (l.length-s.length)).take s.length == s))=_;rw[yP];by_cases h:s.length<=l.length
 ·rw[decide_eq_true h,yK,yK]
  rw[GF (by rw[yY];omega)]
 ·rw[decide_eq_false h,yH,yH]
theorem jT{B:KT}{al:BM}{H:Hp}:∀{ts:Fs}{vs:List V}{ks:Ee},aq B al H ts vs->boolsOf ts=some ks->vs=ks.map V.bl
 |[],_,_,h,e=>by cases(show _=[]from h);cases e;rfl
 |t::ts,_,ls,h,e=>by
  obtain⟨v,r,rfl,h1,h2⟩:=h;cases t<;>first|(cases e;done)|skip
  rename_i l;have e:(boolsOf ts).map (l::·)=some ls:=e
  cases e':boolsOf ts with
  |none=>rw[e']at e;cases e
  |some ms=>
   rw[e']at e;cases e;cases(show v=.bl l from h1);rw[jT h2 e'];rfl
def qW(tn T:String):Option Bool:=if(Value.type tn == Value.type T)=true then some true else if PySem.W.kitMeta T=true then(fastBuiltinMro tn).map (·.contains (Value.type T))else none
theorem jU(K:aS){tn T:String}{b:Bool}(h:qW tn T=some b):gG K (.type tn) (.type T)=some b:=h
structure iT(T:String):Prop where
 non:qW "NoneType" T=some false
 bl:qW "bool" T=some (T == "bool" ||T == "int")
 int:qW "int" T=some (T == "int")
 str:qW "str" T=some (T == "str")
 tup:qW "tuple" T=some (T == "tuple")
 lst:qW "list" T=some (T == "list")
 dic:qW "dict" T=some (T == "dict")
theorem J2:iT "int" := by constructor<;>decide +kernel
theorem DW:iT "bool" := by constructor<;>decide +kernel
theorem J3:iT "str" := by constructor<;>decide +kernel
theorem AI:iT "tuple" := by constructor<;>decide +kernel
theorem DX:iT "list" := by constructor<;>decide +kernel
def bV(c:Nat):B1->Ap
 |[]=>[[]]
 |d::l=>if d=c then[]::bV c l else match bV c l with
  |p::r=>(d::p)::r
  |[]=>[[d]]
theorem iU{c:Nat}:∀{p:B1},c∉p->bV c p=[p]
 |[],_=>rfl
 |d::p,h=>by
  have hd:d≠c:=λe=>h (by rw[e];exact dj ..)
  have hp:c∉p:=λe=>h (dm _ e);unfold bV;rw[if_neg hd,iU hp]
theorem iV{c:Nat}(l:B1):∀{p:B1},c∉p->bV c (p++[c]++l)=p::bV c l
 |[],_=>by
  show bV c (c::l)=_;rw[bV,if_pos rfl]
 |d::p,h=>by
  have hd:d≠c:=λe=>h (by rw[e];exact dj ..)
  have hp:c∉p:=λe=>h (dm _ e);show bV c (d::(p++[c]++l))=_;rw[bV,if_neg hd,iV l hp]
theorem j7{c:Nat}:∀{ls:Ap},ls≠[]->(∀p∈ls,c∉p)->bV c (gp [c] ls)=ls
 |[],h,_=>absurd rfl h
 |[p],_,h=>iU (h p (dj ..))
 |p::q::r,_,h=>by
  show bV c (p++[c]++gp [c] (q::r))=_;rw[iV _ (h p (dj ..)),j7 (by simp) λx hx=>h x (dm _ hx)]
theorem split_len(x y:Str):(Txt.split x y).length<=x.length+2:=by
 unfold Txt.split;split
 ·simp
 ·split
  ·simp
  ·rw[length_partsBetween]
   have:=StrLaws.occ_length_le x y 0 x.length (x.length+1)
   omega
theorem AJ(x y:Str):Txt.split x y≠[]:=by
 unfold Txt.split;split
 ·simp
 ·split
  ·simp
  ·intro e
   have:=length_partsBetween x (Builtin.Str.occurrences x y 0 x.length (x.length+1)) y.length
   rw[e]at this;simp at this
theorem AK(a:B1)(c:Nat):Txt.split ⟨a.toArray⟩ ⟨#[c]⟩=(bV c a).map λl=>(⟨l.toArray⟩:Str):=by
 obtain⟨L,hL⟩:∃L:Ap,L=(Txt.split ⟨a.toArray⟩ ⟨#[c]⟩).map λp=>p.cps.toList:=⟨_,rfl⟩;have e1:Txt.split ⟨a.toArray⟩ ⟨#[c]⟩=L.map λl=>(⟨l.toArray⟩:Str):=by
  rw[hL,mV]
  conv=>lhs;rw[<- List.map_id (Txt.split ⟨a.toArray⟩ ⟨#[c]⟩)]
  apply CT;intro p _;show p=(⟨p.cps.toList.toArray⟩:Str);rw[Array.toArray_toList]
 have gR:L≠[]:=by
  rw[hL];intro e;exact AJ _ _ (List.map_eq_nil_iff.mp e)
 have nL:∀p∈L,c∉p:=by
  rw[hL];intro p hp;obtain⟨q,hq,rfl⟩:=sH.mp hp;exact StrLaws.split_free _ c q hq
 have hj:=StrLaws.join_split ⟨a.toArray⟩ ⟨#[c]⟩;rw[e1,show(⟨#[c]⟩:Str)=⟨([c]:B1).toArray⟩from rfl,join_eq]at hj;have YR:gp [c] L=a:=by
  injection hj with hj
  simpa using hj
 rw[e1,<- YR,j7 gR nL]
theorem oj{B:KT}{al:BM}{H:Hp}:∀{ls:Ap},(∀l∈ls,l.length<=1000000)->aq B al H (ls.map T.str) (ls.map λl=>SV l)
 |[],_=>rfl
 |l::ls,h=>⟨_,_,rfl,⟨rfl,h l (dj ..)⟩,oj λx hx=>h x (dm _ hx)⟩
theorem jt(c:Nat):∀(a:B1),∀l∈bV c a,l.length<=a.length
 |[],l,h=>by
  rw[qq.mp h];simp
 |d::a,l,h=>by
  have ih:=jt c a;rw[bV]at h;split at h
  ·rcases cH.mp h with e|e
   ·rw[e];simp
   ·have:=ih l e;simp;omega
  ·split at h
   ·rename_i p r WA
    rcases cH.mp h with e|e
    ·have:=ih p (by rw[WA];exact dj ..)
     rw[e];simp;omega
    ·have:=ih l (by rw[WA];exact dm _ e)
     simp;omega
   ·rw[qq.mp h];simp
theorem Pc:PO X none (tP B MI):=Hq Dl λσ H Q z=>by
 obtain⟨g,s,t,s',x,h,k⟩:=z;cases h;exact k g H .refl x
theorem u_{t:T}{i:Int}(h:TR t=some i):t=.int i:=by
 cases t<;>first|(cases h;done)|(cases h;rfl)
theorem Pd(ha:PE X a (tE B fa)):PO X (some a) (tP B (Hm fa)):=Hq (Dm ha) λσ H Q z=>by
 obtain⟨g,s,t,s',x,h,k⟩:=z;obtain⟨⟨d,s1⟩,h1,h⟩:=aa h;obtain⟨i,h2,h⟩:=aa h;cases u_ (ah h2);cases h;exact⟨g,s,_,s1,x,h1,λv g1 H1 p1 x1 r1=>⟨_,r1,k g1 H1 p1 x1⟩⟩
def Uj(K:aS):V->D2->D2->Hp->VK->Prop:=λx lo hi H Q=>(∃z,x=.str z/\z.length<=sizeLine/\Q (.str (Txt.slice z lo hi)) H)\/NS K x lo hi H Q
theorem Pe:G_ X (Uj X.K):=Ju.or Dr
theorem Uk(hB:B.K=X.K)(ha:PE X a (tE B fa))(hl:PO X MO (tP B MM))(hh:PO X MP (tP B MN)):PE X (.Subscript a (.Slice MO MP none p2) pos) (tE B (MJ fa MM MN)):=by
 refine aB (qD Pe ha hl hh) λσ H Q zz=>?_;obtain⟨g,s,t,s',x,h,k⟩:=zz;obtain⟨⟨tx,s1⟩,h1,h⟩:=aa h;obtain⟨⟨lo,s2⟩,h2,h⟩:=aa h;obtain⟨⟨hi,s3⟩,h3,h⟩:=aa h;obtain⟨t',h4,h⟩:=aa h;cases h;have h4:RW lo hi tx=some _:=ah h4;refine⟨g,s,_,s1,x,h1,λv g1 H1 p1 x1 r1=>⟨g1,s1,_,s2,x1,h2,λg2 H2 p2 x2=>⟨g2,s2,_,_,x2,h3,λg3 H3 p3 x3=>?_⟩⟩⟩;have r3:=(r1.mv p2.pre p2.fr).mv p3.pre p3.fr;have pp:=(p1.trans p2).trans p3;cases tx<;>first|(cases h4;done)|skip
 ·cases h4
  obtain⟨rfl,hz⟩:=r3;refine .inl ⟨_,rfl,Ua hz,?_⟩;rw[cut_str];exact k _ g3 H3 pp x3 ⟨rfl,il (AG _ _ _) hz⟩
 ·cases h4
  obtain⟨a,vs,rfl,q,r⟩:=r3;refine .inr ⟨a,vs,rfl,bW.of (x3.sub _ _ q),λl hl=>?_⟩;rw[pW];have gr:=Gr.new (o:=.lst (dQ vs lo hi)) x3.sub hl;exact k _ _ _ (pp.trans (x3.dW gr)) (x3.grow gr) ⟨l,_,rfl,af,(r.cut _ _).same gr.fr⟩
 ·cases h4
  obtain⟨a,rfl,q⟩:=r3;refine .inr ⟨a,_,rfl,hB▸x3.sub.seq q,λl hl=>?_⟩;rw[pW,<- DV];exact k _ _ _ (pp.trans (x3.dW (Gr.new x3.sub hl))) (x3.grow (Gr.new x3.sub hl)) ⟨l,_,rfl,af,aq.ints _⟩
end
section
def noStar:Expr->Bool
 |.Starred _ _=>false
 |_=>true
theorem ai(h:noStar e=true):starEach (e::es) env=(false,eval e env)::starEach es env:=by
 cases e<;>first|rfl|(cases h)
theorem cK:∀{es:Bz},es.all noStar=true->(backTo pos (starEach es env)).any (·.1)=false
 |[],_=>rfl
 |e::es,h=>by
  rw[c_,bL]at h;rw[ai h.1];show(false ||(backTo pos (starEach es env)).any (·.1))=false
  rw[cK h.2];rfl
theorem lV:∀{es:Bz},es.all noStar=true->(backTo pos (starEach es env)).all (λx=>!x.1)=true
 |[],_=>rfl
 |e::es,h=>by
  rw[c_,bL]at h;rw[ai h.1];show(true&&(backTo pos (starEach es env)).all (λx=>!x.1))=true;rw[lV h.2];rfl
theorem nY(h:(e::es).all noStar=true)(hl:es.length<29):((backTo aW (starEach (e::es) env)).all (λx=>!x.1)&&(backToKw aW (keywordEach [] env)).all (λx=>x.1.isSome)
   && decide ((e::es).length+([]:List Keyword).length+(if([]:List Keyword).isEmpty then 0 else 1)<30))=true:=by
 rw[lV h,bL];exact⟨rfl,decide_eq_true (show es.length+1+0+0<30 by omega)⟩
def aP:Expr->Bool
 |.Call (.Name _ _) [] [] _=>false
 |_=>true
theorem dS{f:Str}{gj:Sem Value}(h:aP o=true):attributeBase o f env gj=gj:=by
 unfold attributeBase;split
 ·cases h
 ·rfl
def LM(X:Cx)(f:B1->Fs->FK)(r:V->List V->Hp->VK->Prop):Prop:=∀(B:KT)(_:B.K=X.K)(al:BM)(HF H:Hp)(l:B1)(xs:List V)(t:T)(ts:Fs)(Q:VK),aA HF H->l.length<=1000000->aq B al HF ts xs->f l ts=some t->(∀v eK H',Gr HF H eK H'->Rep B al eK t v->Q v H')->r (SV l) xs H Q
def Ph:T->Option B1
 |.str l=>some l
 |_=>none
def J4(f:B1->Fs->FK)(o:FE)(fl:FL):FE:=λs=>(o s).bind λp=>(aT (Ph p.1)).bind λl=>(fl p.2).bind λq=>(aT (f l q.1)).bind λt=>.ok (t,q.2)
theorem AL{t:T}{l:B1}(h:Ph t=some l):t=.str l:=by
 cases t<;>first|(cases h;done)|(cases h;rfl)
theorem Ul{f:B1->Fs->FK}{r:V->List V->Hp->VK->Prop}(hB:B.K=X.K)(hr:LM X f r):∀σ H Q,tE B (J4 f fo fl) σ H Q->V4 X.K "str" r (tE B fo) (tA B fl) σ H Q:=by
 rintro σ H Q ⟨g,s,t,s',x,h,k⟩
 obtain⟨⟨tx,s1⟩,h1,h⟩:=aa h;obtain⟨l,h2,h⟩:=aa h;obtain⟨⟨ts,s2⟩,h3,h⟩:=aa h;obtain⟨t',h4,h⟩:=aa h;cases h;cases AL (ah h2);refine⟨g,s,_,s1,x,h1,λv g1 H1 p1 x1 r1=>?_⟩;obtain⟨rfl,hz⟩:=r1;exact⟨rfl,g1,s1,_,_,x1,h3,λvs g2 H2 p2 x2 r2=>hr B hB g2.al g2.HF H2 l vs _ ts Q x2.sub hz r2 (ah h4) λu eK H' gr r3=>k u (g2.grow eK) H' ((p1.trans p2).trans (x2.dW gr)) (x2.grow gr) r3⟩
def WC(l:B1):Fs->FK
 |[.str s]=>some (.bl (pre s l))
 |_=>none
def WD(l:B1):Fs->FK
 |[.str s]=>some (.bl (TQ s l))
 |_=>none
def joinM(l:B1):Fs->FK
 |[t]=>Hk (.str l) t
 |_=>none
def splitM(l:B1):Fs->FK
 |[.str [c]]=>gd (l.length<=100000) (.lst ((bV c l).map .str))
 |_=>none
open PySem.Spec PyProof.Rows in
def Hw(l:B1):Fs->FK
 |[.str s]=>some (.int (Txt.find ⟨l.toArray⟩ ⟨s.toArray⟩))
 |[.str s,.int i]=>some (.int (Txt.find3 ⟨l.toArray⟩ ⟨s.toArray⟩ i))
 |_=>none
theorem bO{al:BM}{H:Hp}{t:T}{xs:List V}(r:aq B al H [t] xs):∃v,xs=[v]/\Rep B al H t v:=by
 obtain⟨v,w,rfl,h,e⟩:=r;cases(show w=[]from e);exact⟨v,rfl,h⟩
theorem DY{al:BM}{H:Hp}{t u:T}{xs:List V}(r:aq B al H [t,u] xs):∃v w,xs=[v,w]/\Rep B al H t v/\Rep B al H u w:=by
 obtain⟨v,ws,rfl,h,e⟩:=r;obtain⟨w,rfl,h'⟩:=bO e;exact⟨v,w,rfl,h,h'⟩
theorem Um:LM X WC (λx vs H Q=>∃a b,x=.str a/\vs=[.str b]/\Q (.bl (Txt.startswith a b)) H):=λB hB al HF H l xs t ts Q sm hz r h k=>by
 match ts,h with
 |[.str s],h=>
  cases h;obtain⟨v,rfl,rfl,_⟩:=bO r;refine⟨_,_,rfl,rfl,?_⟩;rw[J0];exact k _ HF H (.refl sm) rfl
theorem Uo:LM X WD (λx vs H Q=>∃a b,x=.str a/\vs=[.str b]/\Q (.bl (Txt.endswith a b)) H):=λB hB al HF H l xs t ts Q sm hz r h k=>by
 match ts,h with
 |[.str s],h=>
  cases h;obtain⟨v,rfl,rfl,_⟩:=bO r;refine⟨_,_,rfl,rfl,?_⟩;rw[J1];exact k _ HF H (.refl sm) rfl
theorem J5:LM X joinM (λx vs H Q=>∃sep l ys,x=.str sep/\vs=[.ref l]/\bW X.K H l (ys.map V.str)/\(ys.map (·.length)).sum+ys.length*sep.length<=16777216/\Q (.str (Str.join sep ys)) H):=λB hB al HF H l xs t ts Q sm hz r h k=>by
 match ts,h with
 |[u],h=>
  obtain⟨v,rfl,ru⟩:=bO r;have h:Hk (.str l) u=some t:=h;cases u with
  |lst us=>
   have h:(strsOf us).bind (λys=>gd ((ys.map (·.length)).sum+ys.length*l.length<=1000000) (T.str (gp l ys)))=some t:=h
   obtain⟨ls,h1,h⟩:=ba.mp h;obtain⟨z,rfl⟩:=aL h;obtain⟨a,vs,rfl,q,r⟩:=ru;have e:=qV r h1;subst e;refine⟨_,a,_,rfl,rfl,bW.of (sm _ _ q),?_,?_⟩
   ·rw[AH,dB,cU];omega
   ·rw[join_eq]
    exact k _ HF H (.refl sm) ⟨rfl,il (oi _ _) z⟩
  |_=>cases h
theorem m_find:LM X Hw (λx vs H Q=>(∃a b,x=.str a/\vs=[.str b]/\Q (.int (Txt.find a b)) H)\/∃a b i,x=.str a/\vs=[.str b,.int i]/\Q (.int (Txt.find3 a b i)) H):=λB hB al HF H l xs t ts Q sm hz r h k=>by
 match ts,h with
 |[.str s],h=>
  cases h;obtain⟨v,rfl,rfl,_⟩:=bO r;exact .inl ⟨_,_,rfl,rfl,k _ HF H (.refl sm) rfl⟩
 |[.str s,.int i],h=>
  cases h;obtain⟨v,w,rfl,⟨rfl,_⟩,rfl⟩:=DY r;exact .inr ⟨_,_,_,rfl,rfl,k _ HF H (.refl sm) rfl⟩
theorem m_split:LM X splitM (λx vs H Q=>∃a b,x=.str a/\vs=[.str b]/\(b.length == 0)=false/\a.length<=sizeLine/\(Txt.split a b).length<=sizeLine/\∀l,H l=none->Q (.ref l) (upd H l (.lst ((Txt.split a b).map V.str)))):=λB hB al HF H l xs t ts Q sm hz r h k=>by
 match ts,h with
 |[.str [c]],h=>
  obtain⟨z,rfl⟩:=aL h;obtain⟨v,rfl,rfl,_⟩:=bO r;have Pj:=split_len ⟨l.toArray⟩ ⟨([c]:B1).toArray⟩;rw[cU]at Pj;refine⟨_,_,rfl,rfl,rfl,by rw[cU,sizeLine_eq];omega,by rw[sizeLine_eq];omega,λq hq=>?_⟩
  have e:(Txt.split ⟨l.toArray⟩ ⟨([c]:B1).toArray⟩).map V.str=(bV c l).map λl=>SV l:=by
   rw[show(⟨([c]:B1).toArray⟩:Str)=⟨#[c]⟩from rfl,AK,mV];rfl
  rw[e];refine k _ _ _ (Gr.new sm hq) ⟨q,_,rfl,af,oj λm hm=>?_⟩
  have:=jt c l m hm
  omega
 |[.str []],h=>cases h
 |[.str (_::_::_)],h=>cases h
theorem wX.or{id:String}{r r':V->List V->Hp->VK->Prop}(h:wX X id r)(h':wX X id r'):wX X id (λx vs H Q=>r x vs H Q\/r' x vs H Q):=λae s σ H x vs v us Q I rx rv q=>by
 rcases q with q|q
 ·exact h ae s σ H x vs v us Q I rx rv q
 ·exact h' ae s σ H x vs v us Q I rx rv q
structure WE(X:Cx)(n:Str)(f:B1->Fs->FK):Prop where
 ex:∃id r,Slot "str" n id/\typeOf (.builtin id)=pure (.type "method_descriptor")/\wX X id r/\LM X f r
theorem Pk{n:Str}{f:B1->Fs->FK}(M:WE X n f)(hB:B.K=X.K)(ho:PE X o (tE B fo))(ha:PA X (e::es) (tA B fl))(hb:aP o=true)(hs:(e::es).all noStar=true)(hl:es.length<29)(fH:(aY.endLine == aW.line)=true) :
  PE X (.Call (.Attribute o n aY) (e::es) [] aW) (tE B (J4 f fo fl)):=by
 obtain⟨id,r,h1,h2,h3,h4⟩:=M.ex;have xj:=hs;rw[c_,bL]at xj;exact aB (uK PySem.F.plainAttrs_str h1 h2 h3 ho ha (dS hb) (nY hs hl) fH (ai xj.1) (cK xj.2)) (Ul hB h4)
def tQ:List (Str×(B1->Fs->FK)):=[("startswith",WC),("endswith",WD),("join",joinM),("split",splitM),("find",Hw)]
theorem J7:∀p∈tQ,WE X p.1 p.2:=by
 intro p h;simp only[tQ,cH,mU,or_false]at h;rcases h with rfl|rfl|rfl|rfl|rfl
 ·exact⟨_,_,PySem.F.slot_str_startswith,PySem.F.type_str_startswith,ni,Um⟩
 ·exact⟨_,_,PySem.F.slot_str_endswith,PySem.F.type_str_endswith,qG,Uo⟩
 ·exact⟨_,_,PySem.F.slot_str_join,PySem.F.type_str_join,DB,J5⟩
 ·exact⟨_,_,PySem.F.slot_str_split,PySem.F.type_str_split,AB,m_split⟩
 ·exact⟨_,_,PySem.F.slot_str_find,PySem.F.type_str_find,wX.or AD z9,m_find⟩
end
section
def kC:Fs->FK
 |[t]=>(match t with
  |.c8 _ _=>none
  |t=>TN t)
 |_=>none
theorem Pn:LN X kC (λxs H Q=>∃x n,xs=[x]/\ND X.K x H n/\Q (.int n) H):=λB hB al HF H xs t ts Q sm r h k=>by
 match ts,h with
 |[tx],h=>
  obtain⟨v,rfl,rx⟩:=bO r;cases tx<;>first|(cases h;done)|skip
  ·cases h
   obtain⟨rfl,hz⟩:=rx;exact⟨_,_,rfl,⟨Ua hz,(cU _).symm⟩,k _ HF H (.refl sm) rfl⟩
  ·cases h
   obtain⟨a,vs,rfl,q,r⟩:=rx;exact⟨_,_,rfl,.inr ⟨vs,hB▸bB sm q,r.len⟩,k _ HF H (.refl sm) rfl⟩
  ·cases h
   obtain⟨a,vs,rfl,q,r⟩:=rx;exact⟨_,_,rfl,.inl ⟨vs,bW.of (sm _ _ q),r.len⟩,k _ HF H (.refl sm) rfl⟩
  ·cases h
   obtain⟨a,rfl,q⟩:=rx;exact⟨_,_,rfl,.inl ⟨_,hB▸sm.seq q,(dB _).symm⟩,k _ HF H (.refl sm) rfl⟩
def Po:Fs->FK
 |[t]=>OJ t
 |_=>none
theorem Pp:LN X Po (λxs H Q=>∃i,xs=[.int i]/\Q (.int (if i<0 then -i else i)) H):=λB hB al HF H xs t ts Q sm r h k=>by
 match ts,h with
 |[tx],h=>
  obtain⟨v,rfl,rx⟩:=bO r;have h:OJ tx=some t:=h;cases tx<;>first|(cases h;done)|skip
  cases h;exact⟨_,by rw[show v=_ from rx],k _ HF H (.refl sm) rfl⟩
def DZ:Fs->FK
 |[t]=>JI t
 |_=>none
def Pq:Fs->FK
 |[t]=>OI t
 |_=>none
theorem Pu:LN X DZ (λxs H Q=>∃(p:Addr)(ks:Ee),xs=[.ref p]/\bW X.K H p (ks.map V.bl)/\Q (.bl (ks.all id)) H):=λB hB al HF H xs t ts Q sm r h k=>by
 match ts,h with
 |[tx],h=>
  obtain⟨v,rfl,rx⟩:=bO r;have h:JI tx=some t:=h;cases tx with
  |lst us=>
   obtain⟨ks,h1,h⟩:=eL.mp (show(boolsOf us).map _=some t from h);obtain⟨a,vs,rfl,q,r⟩:=rx;have e:=jT r h1;subst e h;exact⟨a,ks,rfl,bW.of (sm _ _ q),k _ HF H (.refl sm) rfl⟩
  |_=>cases h
theorem Pw:LN X Pq (λxs H Q=>∃(p:Addr)(ks:Ee),xs=[.ref p]/\bW X.K H p (ks.map V.bl)/\Q (.bl (ks.any id)) H):=λB hB al HF H xs t ts Q sm r h k=>by
 match ts,h with
 |[tx],h=>
  obtain⟨v,rfl,rx⟩:=bO r;have h:OI tx=some t:=h;cases tx with
  |lst us=>
   obtain⟨ks,h1,h⟩:=eL.mp (show(boolsOf us).map _=some t from h);obtain⟨a,vs,rfl,q,r⟩:=rx;have e:=jT r h1;subst e h;exact⟨a,ks,rfl,bW.of (sm _ _ q),k _ HF H (.refl sm) rfl⟩
  |_=>cases h
def Px(i:Int):B1:=(toString i).toList.map Char.toNat
def strN:Fs->FK
 |[.int i]=>gd (i.natAbs.log2<1920/\(Px i).length<=1000000) (.str (Px i))
 |_=>none
theorem Py:LN X strN (λxs H Q=>∃i,xs=[.int i]/\i.natAbs.log2<1920/\Q (.str (toString i)) H):=λB hB al HF H xs t ts Q sm r h k=>by
 match ts,h with
 |[.int i],h=>
  obtain⟨v,rfl,rx⟩:=bO r;obtain⟨⟨h1,h2⟩,rfl⟩:=aL h;cases rx;refine⟨i,rfl,h1,k _ HF H (.refl sm) ⟨?_,h2⟩⟩;show V.str (Str.ofString (toString i))=_;rw[Str.ofString_eq_toList];rfl
def Pz:Fs->FK
 |[.str l]=>(PySem.intText? ⟨l.toArray⟩).bind λn=>gd (l.length<=640) (.int n)
 |[.bl b]=>some (.int (if b then 1 else 0))
 |_=>none
abbrev PB:List V->Hp->VK->Prop:=λxs H Q=>(∃y n,xs=[.str y]/\PySem.intText? y=some n/\y.length<=640/\Q (.int n) H)\/∃b,xs=[.bl b]/\Q (.int (if b then 1 else 0)) H
theorem xD:cQ X (.type "int") PB:=by
 intro ae s σ H xs us Q I r h;rcases h with⟨y,n,rfl,hn,hl,q⟩|⟨b,rfl,q⟩
 ·obtain⟨u,rfl,t,rfl⟩:=vals1 r
  exact PySem.W.KIN.call_text hn hl ⟨.int n,H,I.tok _,⟨_,rfl⟩,q⟩
 ·obtain⟨u,rfl,e⟩:=vals1 r
  cases(show u=Value.bool b from e);exact PySem.call_int_bool ⟨.int (if b then 1 else 0),H,I.tok _,⟨_,rfl⟩,q⟩
theorem PC:LN X Pz PB:=λB hB al HF H xs t ts Q sm r h k=>by
 match ts,h with
 |[.str l],h=>
  obtain⟨v,rfl,rx⟩:=bO r;obtain⟨n,h1,h⟩:=ba.mp h;obtain⟨z,rfl⟩:=aL h;obtain⟨rfl,_⟩:=rx;exact .inl ⟨_,n,rfl,h1,by rw[cU];exact z,k _ HF H (.refl sm) rfl⟩
 |[.bl b],h=>
  obtain⟨v,rfl,rx⟩:=bO r;cases h;cases rx;exact .inr ⟨b,rfl,k _ HF H (.refl sm) rfl⟩
def lW:Fs->FK
 |[t]=>Hl t
 |_=>none
theorem J8:LN X lW (λxs H Q=>∃p ys,xs=[.ref p]/\(bW X.K H p ys\/jZ X.K H p ys)/\∀l,H l=none->Q (.ref l) (upd H l (.lst ys))):=λB hB al HF H xs t ts Q sm r h k=>by
 match ts,h with
 |[tx],h=>
  obtain⟨v,rfl,rx⟩:=bO r;have h:Hl tx=some t:=h;cases tx<;>first|(cases h;done)|skip
  ·cases h
   obtain⟨l,xs,rfl,q,r⟩:=rx;exact⟨l,xs,rfl,.inr (hB▸bB sm q),λp hp=>k _ _ _ (Gr.new sm hp) ⟨p,_,rfl,af,r.same (aF (sm.free hp))⟩⟩
  ·cases h
   obtain⟨l,xs,rfl,q,r⟩:=rx;exact⟨l,xs,rfl,.inl (bW.of (sm _ _ q)),λp hp=>k _ _ _ (Gr.new sm hp) ⟨p,_,rfl,af,r.same (aF (sm.free hp))⟩⟩
structure Up(X:Cx)(n:Str)(f:Fs->FK):Prop where
 ex:∃r,LN X f r/\((∃id,bootBuiltins n=some (.builtin id)/\cQ X (.builtin id) r)\/∃ty,bootBuiltins n=some (.type ty)/\cQ X (.type ty) r)
 nn:n ≠ "__name__"
 nd:aQ n
theorem Hx{f:Fs->FK}(M:Up X x f)(hB:B.K=X.K)(hg:Gl X x)(hm:X.mg x=none)(ha:PA X (e::es) (tA B fl))(hs:(e::es).all noStar=true):PE X (.Call (.Name x p) (e::es) [] pos) (tE B (eg f fl)):=by
 obtain⟨⟨r,h1,h2⟩,nn,nd⟩:=M;rw[c_,bL]at hs;rcases h2 with⟨id,hb,hc⟩|⟨ty,hb,hc⟩
 ·exact aB (cW hc hg hm hb ha nn nd (ai hs.1) (cK hs.2)) (Hr hB h1)
 ·exact aB (du hc hg hm hb ha nn nd (ai hs.1) (cK hs.2)) (Hr hB h1)
def tR:List (Str×(Fs->FK)):=[("len",kC),("abs",Po),("all",DZ),("any",Pq),("str",strN),("int",Pz),("list",lW)]
theorem AM(hc:X.calm=true):∀p∈tR,Up X p.1 p.2:=by
 intro p h;simp only[tR,cH,mU,or_false]at h;rcases h with rfl|rfl|rfl|rfl|rfl|rfl|rfl
 ·exact⟨⟨_,Pn,.inl ⟨_,PySem.boot_len,jd⟩⟩,by decide,by decide⟩
 ·exact⟨⟨_,Pp,.inl ⟨_,PyProof.Rows.boot_abs,zC⟩⟩,by decide,by decide⟩
 ·exact⟨⟨_,Pu,.inl ⟨_,PyProof.Rows.boot_all,z_ hc⟩⟩,by decide,by decide⟩
 ·exact⟨⟨_,Pw,.inl ⟨_,PyProof.Rows.boot_any,Aa hc⟩⟩,by decide,by decide⟩
 ·exact⟨⟨_,Py,.inr ⟨_,GY,pG⟩⟩,by decide,by decide⟩
 ·exact⟨⟨_,PC,.inr ⟨_,GZ,xD⟩⟩,by decide,by decide⟩
 ·exact⟨⟨_,J8,.inr ⟨_,wC,dP⟩⟩,by decide,by decide⟩
end
structure Pg where
 cn:Bi
 an:Bi
 tab:Ap
 sub:Ap
def Pg.fn(P:Pg):List Bi:=P.tab.map λl=>l.map λi=>P.an.getD i Str.empty
structure MQ(K:aS)(mg:Str->D1)(n:Str)(ns:Bi)(C:Addr):Prop where
 at_:kZ K mainGlobals n=some (some (.ref C))
 gl:mg n=some (.ref C)
 nd:ns.Nodup
 nY:ns.length<=100
 cl:mO K C
 na:∀f∈ns,dq K C f
 ca:dO K (.ref C) "__class__" = some (some (.builtin "object.__class__"))
 mo:wx K C (.type "object")=some true
structure kD(K:aS)(mg:Str->D1)(P:Pg):Prop where
 cls:∀(c:Nat)(n:Str)(ns:Bi),P.cn[c]?=some n->P.fn[c]?=some ns->∃C,MQ K mg n ns C
 sub:∀(c d:Nat)(n n':Str)(C D:Addr)(l:B1),P.cn[c]?=some n->P.cn[d]?=some n'->mg n=some (.ref C)->mg n'=some (.ref D)->P.sub[c]?=some l->gG K (.ref C) (.ref D)=some (decide (d∈l))
 gt:yu K (.builtin "object.__class__") "__get__" = some (some (.builtin "getset_descriptor.__get__"))/\yv K (.builtin "object.__class__")=some true
abbrev Pg.kt(P:Pg)(X:Cx):KT:=⟨X.K,X.prog,X.w,P.cn,P.fn⟩
variable{P:Pg}
theorem kD.of(O:kD X.K X.mg P){c:Nat}{C:Addr}{ns:Bi}(h:f9 (P.kt X) c C ns):∃n,P.cn[c]?=some n/\P.fn[c]?=some ns/\MQ X.K X.mg n ns C:=by
 obtain⟨n,h1,h2,h3,h4⟩:=h;obtain⟨C',F⟩:=O.cls c n ns h1 h2
 have:C=C':=by
  have:=(show kZ X.K mainGlobals n=some (some (.ref C))from h4).symm.trans F.at_
  injection this with this
  injection this with this
  injection this
 subst this;exact⟨n,h1,h2,F⟩
theorem f_{f:Str}:∀{ns:Bi}{vs:List V}{j:Nat},ns.Nodup->ns[j]?=some f->(ns.zip vs).lookup f=vs[j]?
 |[],vs,j,_,h=>by simp at h
 |n::ns,[],j,_,_=>by simp
 |n::ns,v::vs,0,nd,h=>by
  simp at h;subst h;rw[k7,List.lookup_cons_self];rfl
 |n::ns,v::vs,j+1,nd,h=>by
  simp at h;have e:(f == n)=false:=beq_eq_false_iff_ne.mpr λz=>by subst z;exact(km.mp nd).1 (ir h)
  rw[k7,iH,e];simpa using f_ (km.mp nd).2 h
theorem fL{f:Str}:∀{ns:Bi}{vs:List V},f∉ns->(ns.zip vs).lookup f=none
 |[],vs,_=>by simp
 |n::ns,[],_=>by simp
 |n::ns,v::vs,h=>by
  have e:(f == n)=false:=beq_eq_false_iff_ne.mpr λz=>h (by rw[z];exact dj ..)
  rw[k7,iH,e];exact fL λz=>h (dm _ z)
theorem vc{f:Str}{v:V}:∀{ns:Bi}{vs:List V}{j:Nat},ns.Nodup->ns[j]?=some f->vs.length<=ns.length->j<vs.length->L2.cV f v (ns.zip vs)=ns.zip (vs.set j v)
 |[],vs,j,_,h,_,_=>by simp at h
 |n::ns,[],j,_,_,_,h=>by simp at h
 |n::ns,w::vs,0,nd,h,_,_=>by
  simp at h;subst h;show(if n=n then(n,v)::ns.zip vs else(n,w)::L2.cV n v (ns.zip vs))=_
  rw[if_pos rfl];rfl
 |n::ns,w::vs,j+1,nd,h,hl,hj=>by
  simp at h hl hj;show(if n=f then(n,v)::ns.zip vs else(n,w)::L2.cV f v (ns.zip vs))=_
  rw[if_neg λz=>(km.mp nd).1 (by rw[z];exact ir h),vc (km.mp nd).2 h hl hj]
  rfl
theorem pX{f:Str}{v:V}:∀{ns:Bi}{vs:List V},ns.Nodup->ns[vs.length]?=some f->L2.cV f v (ns.zip vs)=ns.zip (vs++[v])
 |[],vs,_,h=>by simp at h
 |n::ns,[],nd,h=>by
  simp at h;subst h;show L2.cV n v []=(n,v)::ns.zip [];simp[L2.cV]
 |n::ns,w::vs,nd,h=>by
  simp at h;show(if n=f then(n,v)::ns.zip vs else(n,w)::L2.cV f v (ns.zip vs))=_
  rw[if_neg λz=>(km.mp nd).1 (by rw[z];exact ir h),pX (km.mp nd).2 h]
  rfl
theorem D0{l:B1}{f j:Nat}(h:l.idxOf? f=some j):l[j]?=some f:=by
 rw[GG,GH]at h;obtain⟨hj,h1,_⟩:=h;rw[eM hj,eq_of_beq h1]
theorem kQ{c f j:Nat}{n:Str}{ns:Bi}(hf:P.an[f]?=some n)(hc:P.fn[c]?=some ns)(h:gD P.tab c f=some j):ns[j]?=some n:=by
 unfold gD at h;obtain⟨l,h1,h2⟩:=ba.mp h;unfold Pg.fn at hc;rw[fk,h1]at hc;cases hc;rw[fk,D0 h2];show some (P.an.getD f Str.empty)=_;rw[CO,hf];rfl
theorem Hy(O:kD X.K X.mg P){f:Nat}{n:Str}(hf:P.an[f]?=some n)(he:PE X e (tE (P.kt X) fa))(hb:aP e=true):PE X (.Attribute e n pos) (tE (P.kt X) (aI P.tab f fa)):=by
 refine aB (zG he (dS hb)) λσ H Q zz=>?_;obtain⟨g,s,t,s',x,h,k⟩:=zz;obtain⟨⟨tx,s1⟩,h1,h⟩:=aa h;refine⟨g,s,_,s1,x,h1,λv g1 H1 p1 x1 r1=>?_⟩;cases tx<;>first|(cases h;done)|skip
 ·rename_i c fs
  obtain⟨u,h2,h⟩:=aa h;cases h;obtain⟨j,h3,h4⟩:=ba.mp (ah h2);obtain⟨a,C,dx,ns,vs,rfl,hC,hq,hl,hd,r⟩:=r1;obtain⟨m,hm,se,F⟩:=O.of hC;have hj:=kQ hf se h3;obtain⟨w,hw,qF⟩:=r.get h4;exact⟨a,C,dx,_,w,rfl,x1.sub _ _ hq,F.cl,F.na _ (ir hj),by rw[f_ F.nd hj,hw],k _ g1 H1 p1 x1 qF⟩
 ·rename_i kk
  obtain⟨c,h2,h⟩:=aa h;obtain⟨ob,h3,h4⟩:=ba.mp (ah h2);obtain⟨j,h5,h6⟩:=ba.mp h4;obtain⟨a,rfl,ha⟩:=r1;rcases x1.st.at_ kk ob h3 with⟨a',C,dx,ns,vs,Z⟩|⟨a',Z⟩
  case inr=>
   obtain⟨l,q,_⟩:=ba.mp h5;have z:(P.tab.map _)[ob.c]?=none:=Z.nf;rw[fk,q]at z;cases z
  have:=Z.al.symm.trans ha
  cases this;obtain⟨m,hm,se,F⟩:=O.of Z.cl;have hj:=kQ hf se h5;obtain⟨w,hw,sl⟩:=Z.f j c h6;cases c with
  |val t'=>
   cases h;exact⟨a,C,dx,_,w,rfl,Z.h,F.cl,F.na _ (ir hj),by rw[f_ F.nd hj,hw],k _ g1 H1 p1 x1 sl⟩
  |ol ts=>cases h
  |od ks ts=>cases h
  |yg t=>cases h
def tyB(ty:String):T->Option Bool
 |.non=>some false
 |.bl _=>some (ty == "bool" ||ty == "int")
 |.int _=>some (ty == "int")
 |.str _=>some (ty == "str")
 |.tup _=>some (ty == "tuple")
 |.lst _=>some (ty == "list")
 |_=>none
def MR(ty:String):T->FK:=λt=>(tyB ty t).map .bl
theorem J9{B:KT}{al:BM}{H:Hp}{t:T}{v:V}{Ty:String}{u:Bool}(ka:iT Ty)(r:Rep B al H t v)(h:tyB Ty t=some u):∃tn,iu B.K H v tn/\gG B.K tn (.type Ty)=some u:=by
 cases t with
 |non=>cases(show v=.non from r);cases h;exact⟨_,.non,jU B.K ka.non⟩
 |bl b=>cases(show v=.bl b from r);cases h;exact⟨_,.bl _,jU B.K ka.bl⟩
 |int i=>cases(show v=.int i from r);cases h;exact⟨_,.int _,jU B.K ka.int⟩
 |str l=>obtain⟨rfl,_⟩:=r;cases h;exact⟨_,.str _,jU B.K ka.str⟩
 |tup ts=>obtain⟨a,vs,rfl,q,_⟩:=r;cases h;exact⟨_,.tup q,jU B.K ka.tup⟩
 |lst ts=>obtain⟨a,vs,rfl,q,_⟩:=r;cases h;exact⟨_,.lst q,jU B.K ka.lst⟩
 |_=>cases h
def qX:List (Str×String):=[("int","int"),("bool","bool"),("str","str"),("tuple","tuple"),("list","list")]
theorem PD:∀q∈qX,iT q.2/\bootBuiltins q.1=some (.type q.2)/\q.1 ≠ "__name__" /\ (q.1 == ("__debug__" : Str))=false:=by
 intro p h;simp only[qX,cH,mU,or_false]at h;rcases h with rfl|rfl|rfl|rfl|rfl
 ·exact⟨J2,GZ,by decide,by decide⟩
 ·exact⟨DW,PyProof.Rows.boot_bool,by decide,by decide⟩
 ·exact⟨J3,GY,by decide,by decide⟩
 ·exact⟨AI,PyProof.Rows.boot_tuple,by decide,by decide⟩
 ·exact⟨DX,wC,by decide,by decide⟩
theorem J_{B:KT}(hB:B.K=X.K){ty:String}{py:Pos}(hy:(y,ty)∈qX)(hm:X.mg "isinstance" = none)(YS:X.mg y=none)(ha:PE X a (tE B fa))(hg:Gl X "isinstance")(yk:Gl X y)(hs:noStar a=true) :
  PE X (.Call (.Name "isinstance" p) [a,.Name y py] [] pos) (tE B (kN (MR ty) fa)):=by
 obtain⟨ka,hb,hn,hd⟩:=PD _ hy;have lj:starEach [Expr.Name y py] X.env=(false,eval (.Name y py) X.env)::starEach [] X.env:=rfl;refine aB (cW qI hg hm zj (az ha (az (uE yk YS hb (v:=.ty ty) rfl hn hd) aO lj) (ai hs)) (he:=ai hs) (hpl:=rfl))
  (Ai hB (r:=λx H Q=>∃x' T' t b,[x,.ty ty]=[x',.ty T']/\iu X.K H x' t/\gG X.K t (.type T')=some b/\Q (.bl b) H) λB hB al HF H x t tx Q sm rx h k=>?_)
 obtain⟨u,h1,rfl⟩:=eL.mp h;obtain⟨tn,h2,h3⟩:=J9 ka (rx.same sm) h1;exact⟨x,ty,tn,u,rfl,hB▸h2,hB▸h3,k _ HF H (.refl sm) rfl⟩
def RZ(sub:Ap)(ds:B1):T->FK
 |.obj c _=>(sub[c]?).map λl=>.bl (ds.any λd=>decide (d∈l))
 |_=>none
theorem AN:cQ X (.builtin "isinstance") (λxs H Q=>∃x D t b,xs=[x,.ref D]/\iu X.K H x t/\gG X.K t (.ref D)=some b/\Q (.bl b) H):=by
 intro ae s σ H xs us Q I r h;obtain⟨x,D,t,b,rfl,ty,e,q⟩:=h;obtain⟨u,u',rfl,ru,N4⟩:=vals2 r;cases N4;exact nN I ru ty e λtk=>⟨.bl b,H,I.tok _,rfl,q⟩
theorem PF(O:kD X.K X.mg P){d:Nat}{py:Pos}(hy:P.cn[d]?=some y)(hm:X.mg "isinstance" = none)(ha:PE X a (tE (P.kt X) fa))(hg:Gl X "isinstance")(yk:Gl X y)(hs:noStar a=true)(hd:aQ y)(M_:(P.fn[d]?).isSome=true) :
  PE X (.Call (.Name "isinstance" p) [a,.Name y py] [] pos) (tE (P.kt X) (kN (RZ P.sub [d]) fa)):=by
 obtain⟨ns,se⟩:=yF.mp M_;obtain⟨D,FD⟩:=O.cls d y ns hy se;have lj:starEach [Expr.Name y py] X.env=(false,eval (.Name y py) X.env)::starEach [] X.env:=rfl;refine aB (cW AN hg hm zj (az ha (az (kJ (v:=.ref D) yk FD.gl rfl hd) aO lj) (ai hs)) (he:=ai hs) (hpl:=rfl)) λσ H Q zz=>?_;obtain⟨g,s,t,s',x,h,k⟩:=zz;obtain⟨⟨tx,s1⟩,h1,h⟩:=aa h;obtain⟨t',h2,h⟩:=aa h;cases h;refine⟨g,s,_,_,x,h1,λv g1 H1 p1 x1 r1=>?_⟩;have h2:=ah h2;cases tx<;>first|(cases h2;done)|skip
 obtain⟨l,hl,rfl⟩:=eL.mp h2;obtain⟨a,C,dx,yi,vs,rfl,hC,hq,hle,YT,r⟩:=r1;obtain⟨m,Uq,Ur,F⟩:=O.of hC;refine⟨_,D,_,_,rfl,.ins (x1.sub _ _ hq) F.cl F.ca O.gt.1 O.gt.2 F.mo,O.sub _ d m y C D l Uq hy F.gl FD.gl hl,?_⟩
 have:=k (V.bl (decide (d∈l))) g1 H1 p1 x1 (by show _=V.bl (([d]:B1).any λd=>decide (d∈l));simp)
 exact this
abbrev fM(P:Pg)(K:aS)(Pr:Program)(w:World):KT:=⟨K,Pr,w,P.cn,P.fn⟩
def mP(B:KT)(f:Fn):Sp:=λvs H Q _=>∃g ts m t m',cO B g H m/\aq B g.al g.HF ts vs/\f ts m=.ok (t,m')/\∀v g' H',b8 g H g' H'->cO B g' H' m'->Rep B g'.al g'.HF t v->Q v H'
structure R0(P:Pg)(Pr:Program)(w:World)(K:aS)(mg:Str->D1)(base:Heap)(k:Nat)(x:Str)(ds:Fs)(f:Fn):Prop where
 ex:∃(fa:Addr)(fd:FuncData)(ps:Bi)(fE:B2)(dV:List V),bH Pr w K mg base j3 k fa fd ps (mP (fM P K Pr w) f)/\mg x=some (.ref fa)/\mR K (.ref fa)=true/\Binds K fd ps fE/\Vals dV fE/\∀al H,aq (fM P K Pr w) al H ds dV
theorem ju{f:Fn}{ds:Fs}{t:T}(h:bj f ds fl s=.ok (t,s')):∃ts s1 m',fl s=.ok (ts,s1)/\f (ts++ds) s1.m=.ok (t,m')/\s'={s1 with m:=m'}:=by
 obtain⟨⟨ts,s1⟩,h1,h⟩:=aa h;dsimp only at h;cases q:f (ts++ds) s1.m with
 |ok r=>rw[q]at h;cases h;exact⟨ts,s1,r.2,h1,q,rfl⟩
 |bad=>rw[q]at h;cases h
 |exc c fs s2=>rw[q]at h;cases h
theorem qY{B:KT}{f:Fn}{ts:Fs}{t:T}{m':FR}{vs:List V}{Q:VK}{E:XK}(x:SR B g H σ s)(r:aq B g.al g.HF ts vs)(h:f ts s.m=.ok (t,m'))(k:∀v g' H',b8 g H g' H'->SR B g' H' σ {s with m:=m'}->Rep B g'.al g'.HF t v->Q v H'):mP B f vs H Q E:=
 ⟨g.aj,ts,s.m,t,m',x.st.aj,r,h,λv g' H' p y rv=>let⟨p2,x2⟩:=x.back p y;k v (G.back g g') H' p2 x2 rv⟩
theorem s_call{k j:Nat}{ds:Fs}{f:Fn}(D:R0 P X.prog X.w X.K X.mg X.base k x ds f)(hr:aX j X.A)(nA:k<=j)(ha:PA X (e::es) (tA (P.kt X) fl))(hg:Gl X x)(iK:aQ x)(hs:(e::es).all noStar=true) :
  PE X (.Call (.Name x p) (e::es) [] pos) (tE (P.kt X) (bj f ds fl)):=by
 obtain⟨ff,fd,ps,fE,dV,F,hm,hk,hb,hd,sj⟩:=D.ex;rw[c_,bL]at hs;refine aB (uH F (hr.mono nA) hg hm hk hb hd j4 ha iK (ai hs.1) (cK hs.2)) λσ H Q zz=>?_;obtain⟨g,s,t,s',x,h,k⟩:=zz;obtain⟨ts,s1,m',h1,h2,rfl⟩:=ju h;exact⟨g,s,ts,s1,x,h1,λvs g1 H1 p1 x1 r1=>qY x1 (r1.app (sj _ _)) h2 λv g' H' p2 x2 rv=>k v g' H' (p1.trans p2) x2 rv⟩
theorem D3{k j:Nat}{ds:Fs}{f:Fn}(D:R0 P X.prog X.w X.K X.mg X.base k x ds f)(hr:aX j X.A)(nA:k<=j)(hg:Gl X x)(iK:aQ x) :
  PE X (.Call (.Name x p) [] [] pos) (tE (P.kt X) (bj f ds aU)):=by
 obtain⟨ff,fd,ps,fE,dV,F,hm,hk,hb,hd,sj⟩:=D.ex;refine aB (zJ F (hr.mono nA) hg hm hk hb hd j4 iK) λσ H Q zz=>?_;obtain⟨g,s,t,s',x,h,k⟩:=zz;obtain⟨ts,s1,m',h1,h2,rfl⟩:=ju h;cases h1;exact qY (E:=E0) (vs:=[]++dV) x (sj _ _) h2 λv g' H' p2 x2 rv=>k v g' H' p2 x2 rv
structure R1(P:Pg)(Pr:Program)(w:World)(K:aS)(mg:Str->D1)(base:Heap)(k:Nat)(c:Nat)(m:Str)(f:Fn):Prop where
 ex:∃(C fa:Addr)(fd:FuncData)(ps:Bi)(ns:Bi),f9 (fM P K Pr w) c C ns/\mO K C/\Meth K C m fa/\bH Pr w K mg base j3 k fa fd ps (mP (fM P K Pr w) f)/\Binds K fd ps []/\m∉ns
theorem AO{ι:Type}{t:ι->TE}{t':TE}{C:ι->Prop}(h:∀i,C i->PE X e (t i))(k:∀σ H Q,t' σ H Q->∃i,C i/\t i σ H Q):PE X e t':=λae s σ H Q I q=>by
 obtain⟨i,hi,hq⟩:=k σ H Q q;exact h i hi ae s σ H Q I hq
def om(X:Cx)(o:Expr)(m:Str)(aY:Pos)(es:Bz)(pos:Pos):Prop:=∃pl,eval (.Call (.Attribute o m aY) es [] pos) X.env=(do
   let ov <- eval o X.env
   standAt aY.atName
   let(f,first) <- holding [ov] (getMethod ov m pl)
   callWith pos f first (backTo pos (starEach es X.env)) (backToKw pos (keywordEach [] X.env)))
theorem qZ{gm:Nat->Option Fn}{t:T}(h:aH gm fo fl s=.ok (t,s')):∃tx s1 c f ts s2 m',fo s=.ok (tx,s1)/\((∃k ob,tx=.own k/\s1.m[k]?=some ob/\ob.c=c)\/∃fs,tx=.obj c fs)/\gm c=some f/\fl s1=.ok (ts,s2)/\f (tx::ts) s2.m=.ok (t,m')/\s'={s2 with m:=m'}:=by
 obtain⟨⟨tx,s1⟩,h1,h⟩:=aa h;cases tx<;>first|(cases h;done)|skip
 ·rename_i c fs
  obtain⟨f,h2,h⟩:=aa h;obtain⟨us,s2,m',h3,h4,rfl⟩:=ju h;obtain⟨⟨ts,s3⟩,h5,h6⟩:=aa h3;cases h6;rw[fh]at h4;exact⟨_,s1,c,f,ts,_,m',h1,.inr ⟨fs,rfl⟩,ah h2,h5,h4,rfl⟩
 ·rename_i kk
  obtain⟨f,h2,h⟩:=aa h;obtain⟨ob,h7,h8⟩:=ba.mp (ah h2);obtain⟨us,s2,m',h3,h4,rfl⟩:=ju h;obtain⟨⟨ts,s3⟩,h5,h6⟩:=aa h3;cases h6;rw[fh]at h4;exact⟨_,s1,ob.c,f,ts,_,m',h1,.inl ⟨kk,ob,rfl,h7,rfl⟩,h8,h5,h4,rfl⟩
theorem lX{B:KT}{C:Addr}{ns:Bi}{c:Nat}{tx:T}{v:V}(x:SR B g H σ s)(hC:f9 B c C ns)(r:Rep B g.al g.HF tx v)(h:(∃k ob,tx=.own k/\s.m[k]?=some ob/\ob.c=c)\/∃fs,tx=.obj c fs):∃a dx vs,v=.ref a/\H a=some (.ins C dx (ns.zip vs)):=by
 rcases h with⟨k,ob,rfl,h1,rfl⟩|⟨fs,rfl⟩
 ·obtain⟨a,rfl,ha⟩:=r
  rcases x.st.at_ k ob h1 with⟨a',C',dx,yi,vs,Z⟩|⟨a',Z⟩
  case inr=>
   obtain⟨n,q,_⟩:=hC;rw[Z.nc]at q;cases q
  have:=Z.al.symm.trans ha
  cases this;obtain⟨rfl,rfl⟩:=Z.cl.eq hC;exact⟨a,dx,vs,rfl,Z.h⟩
 ·obtain⟨a,C',dx,yi,vs,rfl,YU,hq,_⟩:=r
  obtain⟨rfl,rfl⟩:=YU.eq hC;exact⟨a,dx,vs,rfl,x.sub _ _ hq⟩
theorem Ka{m:Str}{k j:Nat}{gm:Nat->Option Fn}(D:∀c f,gm c=some f->R1 P X.prog X.w X.K X.mg X.base k c m f)(hr:aX j X.A)(nA:k<=j)(ho:PE X o (tE (P.kt X) fo))(ha:PA X (e::es) (tA (P.kt X) fl))(hs:(e::es).all noStar=true)(mc:om X o m aY (e::es) pos) :
  PE X (.Call (.Attribute o m aY) (e::es) [] pos) (tE (P.kt X) (aH gm fo fl)):=by
 obtain⟨pl,mc⟩:=mc;rw[c_,bL]at hs;refine AO (ι:=Addr×Fn) (C:=λi=>∃c fa fd ps ns,f9 (P.kt X) c i.1 ns/\gm c=some i.2/\mO X.K i.1/\Meth X.K i.1 m fa/\bH X.prog X.w X.K X.mg X.base j3 k fa fd ps (mP (P.kt X) i.2)/\Binds X.K fd ps []/\m∉ns)
  (t:=λi=>qz i.1 m (mP (P.kt X) i.2) [] E0 (tE (P.kt X) fo) (tA (P.kt X) fl)) (λi ⟨c,fa,fd,ps,ns,hC,_,cl,M,F,hb,_⟩=>Dj (pl:=pl) ho cl M F (hr.mono nA) hb .nil j4 ha (ai hs.1) (cK hs.2) mc) ?_
 rintro σ H Q ⟨g,s,t,s',x,h,k⟩
 obtain⟨tx,s1,c,f,ts,s2,m',h1,hc,hf,h3,h4,rfl⟩:=qZ h;obtain⟨C,fa,fd,ps,ns,hC,cl,M,F,hb,hn⟩:=(D c f hf).ex;refine⟨(C,f),⟨c,fa,fd,ps,ns,hC,hf,cl,M,F,hb,hn⟩,g,s,_,s1,x,h1,λv g1 H1 p1 x1 r1=>?_⟩;obtain⟨a,dx,vs,rfl,hi⟩:=lX x1 hC r1 hc;refine⟨a,dx,_,rfl,hi,fL hn,g1,s1,ts,s2,x1,h3,λus g2 H2 p2 x2 r2=>?_⟩;show mP _ _ (V.ref a::(us++[])) H2 Q E0;rw[fh];exact qY (ts:=tx::ts) x2 ⟨_,us,rfl,r1.mv p2.pre p2.fr,r2⟩ h4 λv g' H' p3 x3 rv=>k v g' H' ((p1.trans p2).trans p3) x3 rv
theorem D4{m:Str}{k j:Nat}{gm:Nat->Option Fn}(D:∀c f,gm c=some f->R1 P X.prog X.w X.K X.mg X.base k c m f)(hr:aX j X.A)(nA:k<=j)(ho:PE X o (tE (P.kt X) fo))(mc:om X o m aY [] pos) :
  PE X (.Call (.Attribute o m aY) [] [] pos) (tE (P.kt X) (aH gm fo aU)):=by
 obtain⟨pl,mc⟩:=mc;refine AO (ι:=Addr×Fn) (C:=λi=>∃c fa fd ps ns,f9 (P.kt X) c i.1 ns/\gm c=some i.2/\mO X.K i.1/\Meth X.K i.1 m fa/\bH X.prog X.w X.K X.mg X.base j3 k fa fd ps (mP (P.kt X) i.2)/\Binds X.K fd ps []/\m∉ns)
  (t:=λi=>qz i.1 m (mP (P.kt X) i.2) [] E0 (tE (P.kt X) fo) zH) (λi ⟨c,fa,fd,ps,ns,hC,_,cl,M,F,hb,_⟩=>qA (pl:=pl) ho cl M F (hr.mono nA) hb .nil j4 mc) ?_
 rintro σ H Q ⟨g,s,t,s',x,h,k⟩
 obtain⟨tx,s1,c,f,ts,s2,m',h1,hc,hf,h3,h4,rfl⟩:=qZ h;cases h3;obtain⟨C,fa,fd,ps,ns,hC,cl,M,F,hb,hn⟩:=(D c f hf).ex;refine⟨(C,f),⟨c,fa,fd,ps,ns,hC,hf,cl,M,F,hb,hn⟩,g,s,_,s1,x,h1,λv g1 H1 p1 x1 r1=>?_⟩;obtain⟨a,dx,vs,rfl,hi⟩:=lX x1 hC r1 hc;exact⟨a,dx,_,rfl,hi,fL hn,qY (E:=E0) (ts:=[tx]) (vs:=[.ref a]) x1 (.one r1) h4 λv g' H' p3 x3 rv=>k v g' H' (p1.trans p3) x3 rv⟩
def WG(C:Addr)(ns:Bi):Sp:=λvs H Q _=>∃x dx args,vs=.ref x::args/\args.length=ns.length/\H x=some (.ins C dx [])/\Q .non (upd H x (.ins C dx (ns.zip args)))
structure WH(P:Pg)(Pr:Program)(w:World)(K:aS)(mg:Str->D1)(base:Heap)(k:Nat)(c n:Nat)(x:Str):Prop where
 ex:∃(C fi:Addr)(fd:FuncData)(ps:Bi)(ns:Bi),f9 (fM P K Pr w) c C ns/\ns.length=n/\mg x=some (.ref C)/\Mk K C fi/\bH Pr w K mg base j3 k fi fd ps (WG C ns)/\Binds K fd ps []
theorem vd{B:KT}{c:Nat}{C x dx:Addr}{ns:Bi}{ts:Fs}{vs:List V}(X1:SR B g H σ s)(hC:f9 B c C ns)(hl:vs.length<=ns.length)(r:aq B g.al g.HF ts vs)(nx:H x=none)(nd:H dx=none)(gR:dx≠x) :
  ∃gr:Gr g.HF H (upd (upd g.HF dx (.own x)) x (.ins C dx (ns.zip vs))) (upd (upd H dx (.own x)) x (.ins C dx (ns.zip vs))),Rep B g.al (upd (upd g.HF dx (.own x)) x (.ins C dx (ns.zip vs))) (.obj c ts) (.ref x):=by
 have g2:=Gr.new (o:=.own x) X1.sub nd;have Us:upd H dx (.own x) x=none:=by rw[ak (Ne.symm gR)];exact nx
 have g3:=Gr.new (o:=.ins C dx (ns.zip vs)) g2.sub Us;exact⟨g2.trans g3,x,C,dx,ns,vs,rfl,hC,af,hl,by rw[ak gR,af],r.same (g2.fr.trans g3.fr)⟩
theorem PH{k j c n:Nat}(D:WH P X.prog X.w X.K X.mg X.base k c n x)(hr:aX j X.A)(nA:k+1<=j)(ha:PA X (e::es) (tA (P.kt X) fl))(hg:Gl X x)(iK:aQ x)(hs:(e::es).all noStar=true) :
  PE X (.Call (.Name x p) (e::es) [] pos) (tE (P.kt X) (DJ c n fl)):=by
 obtain⟨C,f,fd,ps,ns,hC,hn,hm,M,F,hb⟩:=D.ex;rw[c_,bL]at hs;refine aB (pI M F (hr.mono nA) hg hm hb .nil j4 ha iK (ai hs.1) (cK hs.2)) λσ H Q zz=>?_;obtain⟨g,s,t,s',x,h,k⟩:=zz;obtain⟨⟨ts,s1⟩,h1,h⟩:=aa h;dsimp only at h;split at h
 ·rename_i hl
  cases h;refine⟨g,s,ts,_,x,h1,λvs g1 H1 p1 x1 r1 x dx nx nd gR=>?_⟩;have YV:vs.length=ns.length:=by rw[<- r1.len,hl,hn]
  refine⟨x,dx,vs++[],rfl,by rw[fh,YV],af,rfl,?_⟩
  rw[fh,oZ];obtain⟨gr,rp⟩:=vd (c:=c) (ts:=ts) x1 hC (by omega) r1 nx nd gR
  exact k _ (g1.grow _) _ (p1.trans (x1.dW gr)) (x1.grow gr) rp
 ·cases h
section
structure WI(K:aS)(C:Addr):Prop where
 makes:yt K C=true
 init:dO K (.ref C) "__init__" = some (some (.builtin "object.__init__"))
 kp:mR K (.ref C)=true
def Ut(C:Addr):TE:=λ_ H Q=>∀x dx,H x=none->H dx=none->dx≠x->Q (.ref x) (upd (upd H dx (.own x)) x (.ins C dx []))
open PySem.W in
theorem Kc{C:Addr}(M:WI X.K C)(hg:Gl X x)(hm:X.mg x=some (.ref C))(iK:aQ x:=by decide):PE X (.Call (.Name x p) [] [] pos) (Ut C):=by
 intro ae s σ H Q I h;refine wpAny_Call_Name_kw (fX I hg hm ?_ iK);refine CF I.gK M.kp ?_;have hq:=h (s.heap.objs.size+1) s.heap.objs.size (I.aV.fresh (yN _)) (I.aV.fresh (cC _)) (cL (sD _));have I2:=Inv.made (C:=C) I;have KX:=I.gK;obtain⟨hh,g,d,t,os⟩:=s;refine wpAny_call ?_;have Y:=makes_of (M:=model X.prog X.w) KX M.makes;refine make_core Y (looks_findIn KX M.init) (λself=>Looks.of_pure (oi_bind self)) (.inr ⟨rfl,rfl⟩) ?_;have hz:(hh.push emptyDict).objs.size=hh.objs.size+1:=Heap.size_push ..;have gt:((hh.push emptyDict).push (instObj C hh.objs.size)).get? (hh.objs.size+1)=some (instObj C hh.objs.size):=by
  rw[<- hz];exact Heap.get?_push_size _ rfl
 have t1:Looks (model X.prog X.w) ((hh.push emptyDict).push (instObj C hh.objs.size)) (typeOf (.ref (hh.objs.size+1))) (.ref C):=(Looks.ld gt).andThen .now;have t2:Looks (model X.prog X.w) ((hh.push emptyDict).push (instObj C hh.objs.size)) (isInstance (.ref (hh.objs.size+1)) (.type "object")) true:=t1.andThen (Y.top.keeps λb o e=>Heap.get?_push_of_some _ (Heap.get?_push_of_some _ e));refine codeAny_call_builtin oi_plain entry_oi (@check_slot (model X.prog X.w) _ _ _ "object.__init__" "object" "__init__" (.ref (hh.objs.size+1)) [] [] _ oi_kind oi_split t2 (oi_args (.ref (hh.objs.size+1))) ?_);show wpAny _ _ (Builtin.«object.__init__» ⟨[Value.ref (hh.objs.size+1)],[]⟩) _ _ _;rw[oi_run];exact wpAny_pure (And.intro rfl ⟨V.ref (hh.objs.size+1),_,I2,rfl,hq⟩)
end
structure PJ(P:Pg)(Pr:Program)(w:World)(K:aS)(mg:Str->D1)(c:Nat)(x:Str):Prop where
 ex:∃(C:Addr)(ns:Bi),f9 (fM P K Pr w) c C ns/\mg x=some (.ref C)/\WI K C
theorem Kd{c:Nat}(D:PJ P X.prog X.w X.K X.mg c x)(hg:Gl X x)(iK:aQ x):PE X (.Call (.Name x p) [] [] pos) (tE (P.kt X) (DJ c 0 aU)):=by
 obtain⟨C,ns,hC,hm,M⟩:=D.ex;refine aB (Kc M hg hm iK) λσ H Q zz=>?_;obtain⟨g,s,t,s',z,h,k⟩:=zz;cases h;intro x dx nx nd gR;obtain⟨gr,rp⟩:=vd (c:=c) (ts:=[]) (vs:=[]) z hC (kh _) rfl nx nd gR;have e:ns.zip ([]:List V)=[]:=GI
 have:=k _ (g.grow _) _ (z.dW gr) (z.grow gr) rp
 rw[e]at this;exact this
section
structure Walk(B:KT)(al:BM)(J:It)(HF:Hp)(ts:Fs):Prop where
 go:∀i H,aA HF H->i<ts.length->J.go i H
 yld:∀i H x H',aA HF H->i<ts.length->J.yld i H x H'->∃t,ts[i]?=some t/\∀q_,aA HF q_->aA q_ H->∃Ke,Gr q_ H Ke H'/\Rep B al Ke t x
 stop:∀i H,aA HF H->i=ts.length->J.stop i H
theorem xE{B:KT}{al:BM}{HF:Hp}{l:Addr}{ts:Fs}{vs:List V}(h:HF l=some (.lst vs))(r:aq B al HF ts vs):Walk B al (RE B.K l) HF ts:=by
 refine⟨λi H sm hi=>?_,λi H x H' sm hi y=>?_,λi H sm hi=>⟨vs,bW.of (sm _ _ h),by rw[hi,r.len];exact cC _⟩⟩
 ·obtain⟨v,e,_⟩:=r.get (eM hi)
  exact⟨vs,v,bW.of (sm _ _ h),e⟩
 ·obtain⟨rfl,y⟩:=y
  have e:=y vs (bW.of (sm _ _ h));obtain⟨t,e1,e2⟩:=r.tG e;exact⟨t,e1,λq_ s1 s2=>⟨q_,.refl s2,e2.same s1⟩⟩
theorem AQ{B:KT}{al:BM}{HF:Hp}{l:Addr}{ts:Fs}{vs:List V}(h:jZ B.K HF l vs)(r:aq B al HF ts vs):Walk B al (Sy B.K l) HF ts:=by
 refine⟨λi H sm hi=>?_,λi H x H' sm hi y=>?_,λi H sm hi=>⟨vs,bB sm h,by rw[hi,r.len];exact cC _⟩⟩
 ·obtain⟨v,e,_⟩:=r.get (eM hi)
  exact⟨vs,v,bB sm h,e⟩
 ·obtain⟨rfl,y⟩:=y
  have e:=y vs (bB sm h);obtain⟨t,e1,e2⟩:=r.tG e;exact⟨t,e1,λq_ s1 s2=>⟨q_,.refl s2,e2.same s1⟩⟩
theorem jv{B:KT}{al:BM}{J:It}{src:List V}{ts:Fs}{HF:Hp}(d:RQ J src (λ_=>True))(r:aq B al HF ts src):Walk B al J HF ts:=by
 refine⟨λi H sm hi=>d.go i H trivial (by rw[<- r.len];exact hi),λi H x H' sm hi y=>?_,λi H sm hi=>d.stop i H trivial (by rw[<- r.len];exact hi)⟩
 obtain⟨rfl,e⟩:=d.yld i H x H' trivial (by rw[<- r.len];exact hi) y
 obtain⟨t,e1,e2⟩:=r.tG e;exact⟨t,e1,λq_ s1 s2=>⟨q_,.refl s2,e2.same s1⟩⟩
theorem aq.mK{B:KT}{al:BM}{H:Hp}(lo:Int)(n:Nat):aq B al H (D.mK lo n) ((cD n).map λk=>V.int (lo+(k:Nat))):=by
 have e1:D.mK lo n=((cD n).map λk=>lo+((k:Nat):Int)).map T.int:=by unfold D.mK;rw[mV];rfl
 have e2:((cD n).map λk=>V.int (lo+(k:Nat)))=((cD n).map λk=>lo+((k:Nat):Int)).map V.int:=by rw[mV];rfl
 rw[e1,e2];exact aq.ints _
theorem AR(hi:Int)(n:Nat):RQ (Tf hi n) ((cD n).map λk=>V.int (hi-(k:Nat))) (λ_=>True):=
 ⟨λi H _ h=>by rw[dB,oY]at h;exact h,
  λi H x H' _ hi y=>by
  obtain⟨e,ex⟩:=y;refine⟨e,?_⟩;have hi:i<n:=by rw[dB,oY]at hi;exact hi
  rw[fk,za hi,ex];rfl,
  λi H _ h=>by rw[dB,oY]at h;exact yL h.symm⟩
theorem aq.YW{B:KT}{al:BM}{H:Hp}(hi:Int)(n:Nat):aq B al H ((cD n).map λk=>T.int (hi-(k:Nat))) ((cD n).map λk=>V.int (hi-(k:Nat))):=by
 have e1:((cD n).map λk=>T.int (hi-(k:Nat)))=((cD n).map λk=>hi-((k:Nat):Int)).map T.int:=by rw[mV];rfl
 have e2:((cD n).map λk=>V.int (hi-(k:Nat)))=((cD n).map λk=>hi-((k:Nat):Int)).map V.int:=by rw[mV];rfl
 rw[e1,e2];exact aq.ints _
structure Sets(B:KT)(al:BM)(HF:Hp)(S:B1)(σ σ':St)(ρ ρ':Fh):Prop where
 len:σ'.length=σ.length
 lenR:ρ'.length=ρ.length
 off:∀(i:Nat),i∉S->σ'[i]?=σ[i]?/\ρ'[i]?=ρ[i]?
 on:∀(i:Nat),i∈S->i<ρ.length->∃(t:T)(v:V),ρ'[i]?=some (some (.val t))/\σ'[i]?=some (some v)/\Rep B al HF t v
structure nB(B:KT)(g:TG)(fg:FG)(S:B1):Prop where
 ok:∀(al:BM)(HF H:Hp)(σ:St)(ρ:Fh)(t:T)(v:V)(ρ':Fh)(Q:St->Hp->Prop),aA HF H->Rep B al HF t v->fg t ρ=some ρ'->ρ.length=σ.length->(∀σ',Sets B al HF S σ σ' ρ ρ'->Q σ' H)->g v σ H Q
theorem Sets.one{B:KT}{al:BM}{HF:Hp}{i:Nat}{σ:St}{ρ:Fh}{t:T}{v:V}(hl:ρ.length=σ.length)(r:Rep B al HF t v):Sets B al HF [i] σ (σ.set i (some v)) ρ (ρ.set i (some (.val t))):=by
 refine⟨dH,dH,λj hj=>?_,λj hj eX=>?_⟩
 ·have:i≠j:=λe=>hj (by simp[e])
  rw[gF this,gF this];exact⟨rfl,rfl⟩
 ·have:j=i:=by simpa using hj
  subst this;exact⟨t,v,by rw[c9 eX],by rw[c9 (by omega)],r⟩
theorem ve{B:KT}(i:Nat):nB B (uF i) (setG i) [i]:=⟨λal HF H σ ρ t v ρ' Q sm r h hl q=>by
 cases h;exact q _ (.one hl r)⟩
theorem Sets.cons{B:KT}{al:BM}{HF:Hp}{i:Nat}{S:B1}{σ σ':St}{ρ ρ':Fh}{t:T}{v:V}(hl:ρ.length=σ.length)(r:Rep B al HF t v)(h:Sets B al HF S (σ.set i (some v)) σ' (ρ.set i (some (.val t))) ρ'):Sets B al HF (i::S) σ σ' ρ ρ':=by
 have o:=Sets.one (B:=B) (al:=al) (i:=i) hl r;refine⟨h.len.trans o.len,h.lenR.trans o.lenR,λj hj=>?_,λj hj eX=>?_⟩
 ·obtain⟨h1,h2⟩:=h.off j (λz=>hj (by simp[z]))
  obtain⟨h3,h4⟩:=o.off j (λz=>hj (by simp at z;simp[z]))
  exact⟨h1.trans h3,h2.trans h4⟩
 ·by_cases hs:j∈S
  ·exact h.on j hs (by rw[dH];exact eX)
  ·obtain⟨h1,h2⟩:=h.off j hs
   obtain⟨t',v',a,b,c⟩:=o.on j (by rcases cH.mp hj with z|z;exact(by simp[z]);exact absurd z hs) eX
   exact⟨t',v',h2.trans a,h1.trans b,c⟩
def jV:B1->Cr
 |[]=>Nk
 |i::is=>G7 (uF i) (jV is)
theorem jW{B:KT}{al:BM}:∀(is:B1)(HF H:Hp)(σ:St)(ρ:Fh)(ts:Fs)(vs:List V)(ρ':Fh)(Q:St->Hp->Prop),aA HF H->aq B al HF ts vs->nZ is ts ρ=some ρ'->ρ.length=σ.length->(∀σ',Sets B al HF is σ σ' ρ ρ'->Q σ' H)->jV is vs σ H Q
 |[],HF,H,σ,ρ,ts,vs,ρ',Q,sm,r,h,hl,q=>by
  cases ts with
  |cons t ts=>cases h
  |nil=>
   cases h;cases(show vs=[]from r);exact⟨rfl,q _ ⟨rfl,rfl,λ_ _=>⟨rfl,rfl⟩,λi hi=>by cases hi⟩⟩
 |i::is,HF,H,σ,ρ,ts,vs,ρ',Q,sm,r,h,hl,q=>by
  cases ts with
  |nil=>cases h
  |cons t ts=>
   obtain⟨v,dX,rfl,r1,r2⟩:=r;refine⟨v,dX,rfl,?_⟩;exact jW is HF H _ _ ts dX ρ' Q sm r2 h (by rw[dH,dH];exact hl) λσ' s=>q σ' (.cons hl r1 s)
theorem AS{B:KT}(is:B1){n:Nat}(hn:is.length=n:=by rfl):nB B (IS B.K n (jV is)) (gq is) is:=⟨λal HF H σ ρ t v ρ' Q sm r h hl q=>by
 cases t<;>first|(cases h;done)|skip
 ·rename_i ts
  obtain⟨a,vs,rfl,q1,r⟩:=r;have cM:∀(is:B1)(ts:Fs)(ρ:Fh),nZ is ts ρ=some ρ'->is.length=ts.length:=by
   intro is
   induction is with
   |nil=>intro ts ρ h;cases ts with
    |nil=>rfl
    |cons=>cases h
   |cons i is ih=>intro ts ρ h;cases ts with
    |nil=>cases h
    |cons t ts=>simp[ih ts _ h]
  exact⟨a,vs,rfl,bB sm q1,by rw[<- r.len,<- cM _ _ _ h,hn],jW is HF H σ ρ ts vs ρ' Q sm r h hl q⟩
⟩
theorem Walk.mv{al Af:BM}{J:It}{HF eK:Hp}{ts:Fs}(w:Walk B al J HF ts)(p:al <+: Af)(s:aA HF eK):Walk B Af J eK ts:=
 ⟨λi H h=>w.go i H (s.trans h),λi H x H' h hi y=>let⟨t,h1,h2⟩:=w.yld i H x H' (s.trans h) hi y;⟨t,h1,λq_ s1 s2=>let⟨Ke,gr,r⟩:=h2 q_ (s.trans s1) s2;⟨Ke,gr,r.mv p (aA.refl _)⟩⟩,λi H h=>w.stop i H (s.trans h)⟩
def tI(B:KT)(f:FL):TI:=λσ H R=>∃g s ts s',SR B g H σ s/\f s=.ok (ts,s')/\∀J g' H',b8 g H g' H'->SR B g' H' σ s'->Walk B g'.al J g'.HF ts->R J H'
theorem rf:PI X tg e (tI B ee):=λ_ _ _ _ _ _ ⟨_,_,_,_,_,h,_⟩=>by cases h
theorem Hz{t t':TI}(h:PI X tg e t)(h':PI X tg e t'):PI X tg e (λσ H R=>t σ H R\/t' σ H R):=λae s σ H R I q=>by
 rcases q with q|q
 ·exact h ae s σ H R I q
 ·exact h' ae s σ H R I q
def Kf:T->Bool
 |.str _=>false
 |_=>true
def Kg:T->Fm
 |.str _=>none
 |t=>RY t
def D5(a:FE):FL:=λs=>(a s).bind λp=>(aT (Kg p.1)).bind λts=>.ok (ts,p.2)
theorem xG{al:BM}{HF:Hp}{a:Addr}{ns:Dx}(h:bW B.K HF a (ns.map V.int)):Walk B al (RE B.K a) HF (ns.map T.int):=by
 refine⟨λi H sm hi=>?_,λi H x H' sm hi y=>?_,λi H sm hi=>⟨_,sm.seq h,by rw[hi,dB,dB];exact cC _⟩⟩
 ·rw[dB]at hi
  exact⟨_,.int ns[i],sm.seq h,by rw[fk,eM hi];rfl⟩
 ·rw[dB]at hi
  obtain⟨rfl,y⟩:=y;have e:=y _ (sm.seq h);obtain⟨t,e1,e2⟩:=(aq.ints (B:=B) (al:=al) (H:=HF) ns).tG e;exact⟨t,e1,λq_ s1 s2=>⟨q_,.refl s2,e2.same s1⟩⟩
theorem HA(hB:B.K=X.K)(ha:PE X e (tE B fa)):PI X tg e (tI B (D5 fa)):=by
 refine j6 (Hz (C7 ha) (IX ha)) λσ H R zz=>?_;obtain⟨g,s,t,s',x,h,k⟩:=zz;obtain⟨⟨tx,s1⟩,h1,h⟩:=aa h;obtain⟨ts,h2,h⟩:=aa h;cases h;have h2:=ah h2;have Uu:=hB.symm;cases tx<;>first|(cases h2;done)|skip
 ·cases h2
  refine .inr ⟨g,s,_,_,x,h1,λv g1 H1 p1 x1 r1=>?_⟩;obtain⟨l,vs,rfl,q,r⟩:=r1;refine⟨l,rfl,⟨vs,hB▸bB x1.sub q⟩,?_⟩;rw[Uu];exact k _ g1 H1 p1 x1 (AQ q r)
 ·cases h2
  refine .inl ⟨g,s,_,_,x,h1,λv g1 H1 p1 x1 r1=>?_⟩;obtain⟨l,vs,rfl,q,r⟩:=r1;refine⟨l,rfl,⟨vs,bW.of (x1.sub _ _ q)⟩,?_⟩;rw[Uu];exact k _ g1 H1 p1 x1 (xE q r)
 ·cases h2
  refine .inl ⟨g,s,_,_,x,h1,λv g1 H1 p1 x1 r1=>?_⟩;obtain⟨l,rfl,q⟩:=r1;refine⟨l,rfl,⟨_,hB▸x1.sub.seq q⟩,?_⟩;rw[Uu];exact k _ g1 H1 p1 x1 (xG q)
theorem PK(hB:B.K=X.K){px:Pos}(ha:PE X e (tE B fa)):PI X (.Name x px) e (tI B (tD fa)):=by
 refine j6 (Hz (HA hB ha) (Js ha)) λσ H R zz=>?_;obtain⟨g,s,t,s',z,h,k⟩:=zz;obtain⟨⟨tx,s1⟩,h1,h⟩:=aa h;obtain⟨ts,h2,h⟩:=aa h;cases h;by_cases hs:Kf tx=true
 ·refine .inl ⟨g,s,t,_,z,?_,k⟩
  unfold D5;rw[h1];show(aT (Kg tx)).bind _=_;have e:Kg tx=RY tx:=by cases tx<;>first|rfl|(cases hs)
  rw[e,h2];rfl
 ·cases tx<;>first|(exact absurd rfl hs)|skip
  have h2:=ah h2;cases h2;refine .inr ⟨g,s,_,_,z,h1,λv g1 H1 p1 x1 r1=>?_⟩;obtain⟨rfl,hz⟩:=r1;exact⟨_,rfl,k _ g1 H1 p1 x1 (jv (DA _) (aq.signs _))⟩
theorem AU(hg:Gl X "range")(hm:X.mg "range" = none)(ha:PE X a (tE B fa))(hs:noStar a=true):PI X tg (.Call (.Name "range" p) [a] [] pos) (tI B (DK tF (cJ fa aU))):=by
 have h0:starEach [a] X.env=[(false,eval a X.env)]:=ai hs;refine j6 (wI hg hm (az ha aO h0) h0) λσ H R zz=>?_;obtain⟨g,s,t,s',x,h,k⟩:=zz;obtain⟨⟨ts,s1⟩,h1,h⟩:=aa h;obtain⟨us,h2,h⟩:=aa h;cases h;obtain⟨⟨tx,s2⟩,h3,h1⟩:=aa h1;cases h1;have h2:=ah h2;cases tx<;>first|(cases h2;done)|skip
 obtain⟨z,rfl⟩:=aL h2;refine⟨g,s,_,_,x,h3,λv g1 H1 p1 x1 r1=>?_⟩;cases r1;exact⟨_,rfl,by omega,by omega,k _ g1 H1 p1 x1 (jv (nV 0 _) (aq.mK 0 _))⟩
theorem AV(hg:Gl X "range")(hm:X.mg "range" = none)(ha:PE X a (tE B fa))(hb:PE X b (tE B fb))(hs:noStar a=true)(xj:noStar b=true):PI X tg (.Call (.Name "range" p) [a,b] [] pos) (tI B (DK tF (cJ fa (cJ fb aU)))):=by
 have h0:starEach [b] X.env=[(false,eval b X.env)]:=ai xj;have WJ:starEach [a,b] X.env=[(false,eval a X.env),(false,eval b X.env)]:=by rw[ai hs,h0]
 refine j6 (wJ hg hm (az ha (az hb aO h0) (by rw[WJ,h0])) WJ h0) λσ H R zz=>?_
 obtain⟨g,s,t,s',x,h,k⟩:=zz;obtain⟨⟨ts,s1⟩,h1,h⟩:=aa h;obtain⟨us,h2,h⟩:=aa h;cases h;obtain⟨⟨tx,s2⟩,h3,h1⟩:=aa h1;obtain⟨⟨ty,s3⟩,h4,h1⟩:=aa h1;cases h1;obtain⟨⟨tz,s4⟩,h5,h4⟩:=aa h4;cases h4;have h2:=ah h2;cases tx<;>first|(cases h2;done)|(cases tz<;>first|(cases h2;done)|skip)
 obtain⟨z,rfl⟩:=aL h2;refine⟨g,s,_,_,x,h3,λv g1 H1 p1 x1 r1=>⟨g1,_,_,_,x1,h5,λw g2 H2 p2 x2 r2=>?_⟩⟩;cases r1;cases r2;exact⟨_,_,rfl,⟨by omega,by omega,by omega,by omega⟩,k _ g2 H2 (p1.trans p2) x2 (jv (nV _ _) (aq.mK _ _))⟩
theorem lO.sets{al:BM}{S':B1}{σ':St}{r r':Fh}(x:lO B g H σ r)(YX:al=g.al)(t:Sets B al g.HF S' σ σ' r r'):lO B g H σ' r':=by
 subst YX;refine⟨by rw[t.lenR,t.len];exact x.len,λi c h=>?_⟩
 by_cases hi:i∈S'
 ·have eX:i<r.length:=by rw[<- t.lenR];exact(eT.mp h).1
  obtain⟨u,v,h1,h2,h3⟩:=t.on i hi eX;rw[h]at h1;cases h1;exact⟨v,h2,h3⟩
 ·obtain⟨h1,h2⟩:=t.off i hi
  rw[h2]at h;obtain⟨v,h3,h4⟩:=x.at_ i c h;exact⟨v,h1.trans h3,h4⟩
end
theorem tU{B:KT}{al:BM}{HF:Hp}{S:B1}{σ':St}{ρ ρ':Fh}{k:Nat}{js:B1}{σ:St}(hS:∀i∈S,i<k)(s:Sets B al HF S (bX k js σ) σ' ρ ρ'):ck (bX k js σ) σ':=by
 have gen:∀(a b:St),a.length=b.length->(∀(i:Nat)(v:V),a[i]?=some (some v)->b[i]?=some (some v))->ck a b:=by
  intro a
  induction a with
  |nil=>intro b hl _;cases b with
   |nil=>trivial
   |cons=>cases hl
  |cons x a ih=>intro b hl h;cases b with
   |nil=>cases hl
   |cons y b=>
    have hr:=ih b (by simpa using hl) λi v e=>by simpa using h (i+1) v (by simpa using e)
    cases x with
    |none=>exact hr
    |some v=>
     have:=h 0 v rfl
     simp at this;subst this;exact⟨rfl,hr⟩
 refine gen _ _ s.len.symm λi v e=>?_;by_cases hi:i∈S
 ·have hk:=hS i hi
  unfold bX at e;rw[gI (by rw[wz];exact hk),yQ,if_pos hk]at e
  cases e
 ·rw[(s.off i hi).1];exact e
section
variable{scope:Scope}{ls fs:Bi}{js S':B1}{iter elt:Expr}{ifs:Bz}{gt:TG}{nJ:FL}{fg:FG}{ft:FT}{fe:FE}
theorem SR.jP:∀(js:B1){g:G}{s:S},SR B g H σ s->∃g',b8 g H g' H/\SR B g' H σ {s with r:=jP js s.r}
 |[],g,s,x=>⟨g,.refl,x⟩
 |j::js,g,s,x=>by
  show ∃g',b8 g H g' H/\SR B g' H σ {s with r:=D.jP js (DL s.r j)}
  have one:∃g1,b8 g H g1 H/\SR B g1 H σ {s with r:=DL s.r j}:=by
   unfold DL;split
   ·rename_i ts h
    obtain⟨g1,v,p,y,_⟩:=x.gJ h;exact⟨g1,p,y⟩
   ·exact⟨g,.refl,x⟩
  obtain⟨g1,p1,x1⟩:=one;obtain⟨g2,p2,x2⟩:=SR.jP js x1;exact⟨g2,p1.trans p2,x2⟩
theorem lO.block{r:Fh}(x:lO B g H σ r)(k:Nat)(js:B1):lO B g.aj H (bX k js σ) (iP k js r):=by
 refine⟨by unfold iP bX;simp,λi c h=>?_⟩
 unfold iP at h;unfold bX;by_cases hi:i<k
 ·rw[gI (by simpa using hi),yQ,if_pos hi]at h
  cases h
 ·rw[fj (by simpa using hi),wz,fk]at h
  rw[fj (by simpa using hi),wz,fk]
  cases hj:js[i-k]? with
  |none=>rw[hj]at h;cases h
  |some j=>
   rw[hj]at h;have h:(match r[j]? with|some (some (.val t))=>some (C.val t)|_=>none)=some c:=by injection h
   split at h
   ·rename_i t hr
    cases h;obtain⟨v,h1,h2⟩:=x.at_ j _ hr;exact⟨v,by show some ((σ[j]?).join)=_;rw[h1];rfl,h2⟩
   ·cases h
theorem SR.Kh{D:Addr}{u:HO}(x:SR B g H σ s)(hf:g.HF D=none)(ho:g.o D=none)(hl:∃w,H D=some w):SR B g (upd H D u) σ s:=by
 have ne:∀b p,g.o b=some p->b≠D:=λb p e z=>by rw[z,ho]at e;cases e
 refine⟨x.st.mv (λb w e=>?_) (λb p e=>?_) (aA.refl _) rfl λl p h _=>⟨h,ak (ne l p h)⟩,x.lc.len,λi c e=>?_⟩
 ·have:b≠D:=λz=>by rw[z,hf]at e;cases e
  rw[ak this];exact x.sub _ _ e
 ·obtain⟨h1,w,h2⟩:=x.st.live b p e
  exact⟨h1,w,by rw[ak (ne b p e)];exact h2⟩
 ·obtain⟨v,h1,h2⟩:=x.lc.at_ i c e
  exact⟨v,h1,aM.mv (g:=g) (g':=g) (aA.refl _) cA (λl h=>⟨h,ak (ne l _ h)⟩) h2⟩
theorem b8.Kh{D:Addr}{u:HO}{g1:G}{H1:Hp}(p:b8 g H g1 H1)(h0:H D=none):b8 g H g1 (upd H1 D u):=
 ⟨p.fr,p.pre,λb w h n z=>by
  have:b≠D:=aC h h0
  rw[ak this];exact p.rest b w h n z,λb h=>by
  by_cases hb:b=D
  ·subst hb;exact h0
  ·rw[ak hb]at h;exact p.there b h⟩
theorem PL:Cs X [] (tT B tu):=λae s σ H Q I z=>by
 obtain⟨g,st,t,s',x,h,k⟩:=z;cases h;exact Dv ae s σ H Q I (k g H .refl x)
theorem PM{c:Expr}(h:PT X c (tT B ft)):Cs X [c] (tT B ft):=Dw h
theorem tW{k:Nat}(Cu:nB B gt fg S')(hS:∀i∈S',i<k):∀σ H Q,tO B (eY nJ k js fg ft fe) σ H Q->tComp (tI B nJ) k js gt (tT B ft) (tE B fe) σ H Q:=by
 rintro σ H Q ⟨g,s,ys,s',x,h,kk⟩
 obtain⟨⟨xs,s1⟩,h1,h⟩:=aa h;dsimp only at h;split at h
 case isFalse=>cases h
 rename_i hz;obtain⟨⟨rs,mm⟩,h2,h⟩:=aa h;cases h;unfold tComp;refine⟨g,s,xs,s1,x,h1,λJ g1 H1 p1 x1 wk D hD=>?_⟩;obtain⟨g2,p2,x2⟩:=x1.jP js;have wk:=wk.mv p2.pre p2.fr;obtain⟨b,hb⟩:∃b,b=iP k js (_root_.D.jP js s1.r):=⟨_,rfl⟩;rw[<- hb]at h2;have WK:=p1.trans p2;have YY:H D=none:=WK.there D hD;have nD:∀{gg:G}{ss:S},SR B gg H1 σ ss->gg.HF D=none/\gg.o D=none:=λ{gg ss} x=>⟨x.sub.free hD,by
  cases q:gg.o D with
  |none=>rfl
  |some p=>obtain⟨_,u,z⟩:=x.st.live D p q;rw[hD]at z;cases z⟩
 obtain⟨f2,o2⟩:=nD x2;obtain⟨WL,_,_⟩:=iz (u:=.lst []) x2 hD;refine⟨λi m zs H2=>m=xs.length-i/\i<=xs.length/\∃g3 m3 done rest,b8 g2 H1 g3 H2/\SR B g3 H2 σ ⟨_root_.D.jP js s1.r,m3⟩/\g3.HF D=none/\g3.o D=none/\H2 D=some (.lst zs)/\aq B g3.al g3.HF done zs/\done.length<=i/\dJ fg ft fe b (xs.drop i) m3=.ok (rest,mm)/\rs=done++rest,
  ⟨xs.length,by simp,kh _,g2.grow g2.HF,s1.m,[],rs,x2.dW WL,x2.grow WL,f2,o2,af,rfl,cC _,by rw[yS];exact h2,rfl⟩,?_⟩
 rintro i m zs H2 ⟨rfl,hi,g3,m3,done,rest,p3,x3,f3,o3,hl,rd,hdn,hr,rfl⟩
 by_cases eX:i<xs.length
 ·have WM:=p3.fr.trans x3.sub
  refine .inr ⟨wk.go i H2 WM eX,λv H3 y=>?_⟩;obtain⟨t,ht,y2⟩:=wk.yld i H2 v H3 WM eX y;obtain⟨PN,Kl,rx⟩:=y2 g3.HF p3.fr x3.sub;have PQ:xs.drop i=t::xs.drop (i+1):=by
   obtain⟨hh,e⟩:=eT.mp ht;rw[zd hh,e]
  rw[PQ]at hr;obtain⟨b1,q1,hr⟩:=aa hr;obtain⟨⟨c,s5⟩,q2,hr⟩:=aa hr;have x4:=x3.grow Kl;have p4:=p3.trans (x3.dW Kl);obtain⟨hl4,f4⟩:=Kl.rest D _ hl f3;have eb:=x4.lc.block k js;rw[<- hb]at eb;refine Cu.ok g3.al PN H3 _ _ t v b1 _ x4.sub (rx.mv p3.pre (aA.refl _)) (ah q1) eb.len λσ5 C9=>⟨tU hS C9,?_⟩;have xb:SR B (g3.grow PN).aj H3 σ5 ⟨b1,m3⟩:=⟨x4.st.aj,eb.sets rfl C9⟩;refine⟨(g3.grow PN).aj,⟨b1,m3⟩,c,s5,xb,q2,λg6 H6 p6 x6=>?_⟩;cases c with
  |true=>
   obtain⟨⟨y',s7⟩,q3,hr⟩:=aa hr;obtain⟨⟨YZ,m8⟩,q4,hr⟩:=aa hr;cases hr;refine ng ⟨g6,s5,y',s7,x6,q3,λv7 g7 H7 p7 x7 r7=>?_⟩;obtain⟨pB,xB⟩:=x4.back (p6.trans p7) x7.st;have p8:=p4.trans pB;obtain⟨R3,f7,o7⟩:=(x3.dW Kl |>.trans pB).rest D _ hl f3 o3;have Y0:zs.length<sizeLine:=by rw[<- rd.len,sizeLine_eq];omega
   refine⟨R3,Y0,xs.length-(i+1),by omega,rfl,eX,G.back (g3.grow PN) g7,s7.m,done++[y'],YZ,p8.Kh hD,xB.Kh f7 o7 ⟨_,R3⟩,f7,o7,af,?_,by simp;omega,q4,by simp⟩
   have st:=(x3.dW Kl).trans pB;exact(rd.mv st.pre st.fr).app (.one r7)
  |false=>
   obtain⟨pB,xB⟩:=x4.back p6 x6.st;obtain⟨R3,f7,o7⟩:=(x3.dW Kl |>.trans pB).rest D _ hl f3 o3;have st:=(x3.dW Kl).trans pB;exact lC ⟨xs.length-(i+1),by omega,rfl,eX,G.back (g3.grow PN) g6,s5.m,done,rest,p4.trans pB,xB,f7,o7,R3,rd.mv st.pre st.fr,by omega,hr,rfl⟩
 ·have e:i=xs.length:=by omega
  subst e;rw[GJ]at hr;cases hr;rw[fh]at kk;exact .inl ⟨wk.stop _ H2 (p3.fr.trans x3.sub) rfl,kk D zs g3 H2 (WK.trans p3) x3 YY f3 o3 hl rd⟩
theorem Km(ls:Bi)(hc:X.calm=true)(Sc:eW X scope)(F:d_ X scope js fs)(hi:PI X tg iter (tI B nJ))(hg:∀cl C fp s H,PG (X.block (ls++fs) scope cl C fp s H) tg gt)(Cu:nB B gt fg S')
  (ht:∀cl C fp s H,Cs (X.block (ls++fs) scope cl C fp s H) ifs (tT B ft)) (he:∀cl C fp s H,PE (X.block (ls++fs) scope cl C fp s H) elt (tE B fe))
  (hS:∀i∈S',i<ls.length) (hs:∀x,foldedSetIterable iter X.env x=pure x):PE X (.ListComp elt [⟨tg,iter,ifs,0⟩] scope pos) (tO B (eY nJ ls.length js fg ft fe)):=
 aB (Dy ls hc Sc F hi hg ht he hs) (tW Cu hS)
end
def xH(B:KT)(g:G)(H:Hp)(D:Ends):Out->S->Prop
 |.nx,s'=>∀σ' g' H',b8 g H g' H'->SR B g' H' σ' s'->D.nx σ' H'
 |.rt t,s'=>∀v g' H',b8 g H g' H'->cO B g' H' s'.m->Rep B g'.al g'.HF t v->D.rt v H'
 |.bk,s'=>∀σ' g' H',b8 g H g' H'->SR B g' H' σ' s'->D.bk σ' H'
 |.ct,s'=>∀σ' g' H',b8 g H g' H'->SR B g' H' σ' s'->D.ct σ' H'
def tS(B:KT)(f:FS):TS:=λD σ H=>∃g s o s',SR B g H σ s/\f s=.ok (o,s')/\xH B g H D o s'
section
variable{bM pN:Pos}{ft:FT}{H1:Hp}{g1:G}{F Gf:FS}{st:Stmt}{rest Cv:DD}{i:Nat}
theorem xH.mv{D:Ends}{o:Out}(k:xH B g H D o s')(p:b8 g H g1 H1):xH B g1 H1 D o s':=by
 cases o with
 |nx=>exact λσ' g' H' q x=>k σ' g' H' (p.trans q) x
 |rt t=>exact λv g' H' q x r=>k v g' H' (p.trans q) x r
 |bk=>exact λσ' g' H' q x=>k σ' g' H' (p.trans q) x
 |ct=>exact λσ' g' H' q x=>k σ' g' H' (p.trans q) x
theorem PR:fm X Cv (tS B dc):=λ_ _ _ _ _ _ ⟨_,_,_,_,_,h,_⟩=>by cases h
theorem bT:PS X st (tS B dc):=λ_ _ _ _ _ _ ⟨_,_,_,_,_,h,_⟩=>by cases h
theorem HB:fm X [] (tS B bZ):=jR pA λD σ H z=>by
 obtain⟨g,s,o,s',x,h,k⟩:=z;cases h;exact k σ g H .refl x
theorem Kn(h1:PS X st (tS B F))(h2:fm X rest (tS B Gf)):fm X (st::rest) (tS B (ao F Gf)):=jR (fG h1 h2) λD σ H z=>by
 obtain⟨g,s,o,s',x,h,k⟩:=z;obtain⟨⟨o1,s1⟩,e1,h⟩:=aa h;refine⟨g,s,o1,s1,x,e1,?_⟩;cases o1 with
 |nx=>exact λσ1 g1 H1 p1 x1=>⟨g1,s1,o,s',x1,h,k.mv p1⟩
 |rt t=>cases h;exact k
 |bk=>cases h;exact k
 |ct=>cases h;exact k
theorem HC(h:PS X st (tS B F)):fm X [st] (tS B F):=kK h
theorem Ko:PS X (.Pass pos) (tS B bZ):=bQ C4 λD σ H z=>by
 obtain⟨g,s,o,s',x,h,k⟩:=z;cases h;exact k σ g H .refl x
theorem D6:PS X (.Break pos) (tS B OO):=bQ zt λD σ H z=>by
 obtain⟨g,s,o,s',x,h,k⟩:=z;cases h;exact k σ g H .refl x
theorem Kp:PS X (.Continue pos) (tS B OP):=bQ qv λD σ H z=>by
 obtain⟨g,s,o,s',x,h,k⟩:=z;cases h;exact k σ g H .refl x
theorem AW(hN:X.N.Nodup)(hi:X.N[i]?=some x)(hx:Loc X.env.scope x)(he:PE X e (tE B fa))(hs:swapsWith e (some (.Name x bM)) pos.line X.env=pure false)(hf:X.fn x=true\/X.env.scope.names.lookup x=some .local) :
  PS X (.Assign [.Name x bM] e pos) (tS B (aZ i fa)):=bQ (iJ hN hi hx he hs hf) λD σ H z=>by
 obtain⟨g,s,o,s',x,h,k⟩:=z;obtain⟨⟨t,s1⟩,e1,h⟩:=aa h;cases h;exact⟨g,s,t,s1,x,e1,λv g1 H1 p1 x1 r1=>k _ g1 H1 p1 (x1.set r1)⟩
theorem vf{D:Ends}{ts:Fs}{s1:S}(k:xH B g H D .nx (i7 s1 i (.ol ts))){l:Addr}{vs:List V}(p1:b8 g H g1 H1)(x1:SR B g1 H1 σ s1)(h0:H l=none)(n1:g1.HF l=none)(n2:g1.o l=none)(hl:H1 l=some (.lst vs))(r:aq B g1.al g1.HF ts vs):D.nx (σ.set i (some (.ref l))) H1:=by
 refine k _ (g1.own l (.loc i)) H1 ⟨p1.fr,p1.pre,λb u h n z=>?_,p1.there⟩ (x1.own n2 n1 hl r);obtain⟨a,b',c⟩:=p1.rest b u h n z
 have:b≠l:=aC h h0
 exact⟨a,b',by show(if b=l then some (hU.loc i)else g1.o b)=none;rw[if_neg this];exact c⟩
theorem HD(hN:X.N.Nodup)(hi:X.N[i]?=some x)(hx:Loc X.env.scope x)(he:PE X e (tO B fl))(hs:swapsWith e (some (.Name x bM)) pos.line X.env=pure false)(hf:X.fn x=true\/X.env.scope.names.lookup x=some .local) :
  PS X (.Assign [.Name x bM] e pos) (tS B (pS i fl)):=bQ (iJ hN hi hx he hs hf) λD σ H z=>by
 obtain⟨g,s,o,s',x,h,k⟩:=z;obtain⟨⟨ts,s1⟩,e1,h⟩:=aa h;cases h;exact⟨g,s,ts,s1,x,e1,λl vs g1 H1 p1 x1 h0 n1 n2 hl r=>vf k p1 x1 h0 n1 n2 hl r⟩
section
variable{scope:Scope}{ls fs:Bi}{js S':B1}{iter elt:Expr}{ifs:Bz}{gt:TG}{nJ:FL}{fg:FG}{fe:FE}
theorem Kq(ls:Bi)(hc:X.calm=true)(hN:X.N.Nodup)(hi:X.N[i]?=some x)(hx:Loc X.env.scope x)(Sc:eW X scope)(Fr:d_ X scope js fs)(hit:PI X tg iter (tI B nJ))(hg:∀cl C fp s H,PG (X.block (ls++fs) scope cl C fp s H) tg gt)(Cu:nB B gt fg S')
  (ht:∀cl C fp s H,Cs (X.block (ls++fs) scope cl C fp s H) ifs (tT B ft)) (he:∀cl C fp s H,PE (X.block (ls++fs) scope cl C fp s H) elt (tE B fe))
  (hS:∀i∈S',i<ls.length) (hs:∀x,foldedSetIterable iter X.env x=pure x) (hf:X.fn x=true\/X.env.scope.names.lookup x=some .local)
  (RP:swapsWith (.ListComp elt [⟨tg,iter,ifs,0⟩] scope aW) (some (.Name x bM)) pos.line X.env=pure true) :
  PS X (.Assign [.Name x bM] (.ListComp elt [⟨tg,iter,ifs,0⟩] scope aW) pos) (tS B (pS i (eY nJ ls.length js fg ft fe))) /\
  PS X (.Assign [.Name x bM] (.ListComp elt [⟨tg,iter,ifs,0⟩] scope aW) pos) (tS B (aZ i (jj (eY nJ ls.length js fg ft fe)))):=by
 constructor
 ·refine bQ (uM ls hc hN hi hx Sc Fr hit hg ht he hs hf RP) λD σ H zz=>?_
  obtain⟨g,s,o,s',x,h,k⟩:=zz;obtain⟨⟨ts,s1⟩,e1,h⟩:=aa h;cases h;exact tW Cu hS σ H _ ⟨g,s,ts,s1,x,e1,λl vs g1 H1 p1 x1 h0 n1 n2 hl r=>vf k p1 x1 h0 n1 n2 hl r⟩
 ·refine bQ (uM ls hc hN hi hx Sc Fr hit hg ht he hs hf RP) λD σ H zz=>?_
  obtain⟨g,s,o,s',x,h,k⟩:=zz;obtain⟨⟨t,s2⟩,e0,h⟩:=aa h;obtain⟨⟨ts,s1⟩,e1,e0⟩:=aa e0;cases e0;cases h;exact tW Cu hS σ H _ ⟨g,s,ts,s1,x,e1,λl vs g1 H1 p1 x1 h0 n1 n2 hl r=>k _ (g1.grow (upd g1.HF l (.lst vs))) H1 (p1.tL h0 n1) ((x1.tL n1 n2 hl).set (t:=.lst ts) ⟨l,vs,rfl,af,r.same (aF n1)⟩)⟩
end
theorem HE{gt:TG}{fg:FG}{S':B1}(he:PE X e (tE B fa))(hg:PG X tg gt)(Cu:nB B gt fg S')(hs:swapsWithSole [tg] e pos.line X.env=pure false)(hw:swappedStores [tg] e X.env=pure none)
  (h1:(assignEach [tg] X.env).map (·.2)=[assign tg X.env]):PS X (.Assign [tg] e pos) (tS B (qQ fg fa)):=bQ (zx he hg hs hw h1) λD σ H z=>by
 obtain⟨g,s,o,s',x,h,k⟩:=z;obtain⟨⟨t,s1⟩,e1,h⟩:=aa h;obtain⟨r',e2,h⟩:=aa h;cases h;exact⟨g,s,t,s1,x,e1,λv g1 H1 p1 x1 r1=>Cu.ok g1.al g1.HF H1 σ s1.r t v r' _ x1.sub r1 (ah e2) x1.lc.len λσ' st=>k σ' g1 H1 p1 ⟨x1.st,x1.lc.sets rfl st⟩⟩
theorem HG(he:PE X e (tE B fa)):PS X (.Return (some e) pos) (tS B (bw fa)):=bQ (IP he) λD σ H z=>by
 obtain⟨g,s,o,s',x,h,k⟩:=z;obtain⟨⟨t,s1⟩,e1,h⟩:=aa h;cases h;exact⟨g,s,t,s1,x,e1,λv g1 H1 p1 x1 r1=>k v g1 H1 p1 x1.st r1⟩
theorem Kr:PS X (.Return none pos) (tS B (bw (cF .non))):=bQ C5 λD σ H z=>by
 obtain⟨g,s,o,s',x,h,k⟩:=z;cases h;exact k _ g H .refl x.st rfl
theorem Ks(he:PE X e (tE B fa))(hs:swapsWith e none pos.line X.env=pure false):PS X (.Expr e pos) (tS B (bq fa)):=bQ (kL he hs) λD σ H z=>by
 obtain⟨g,s,o,s',x,h,k⟩:=z;obtain⟨⟨t,s1⟩,e1,h⟩:=aa h;cases h;exact⟨g,s,t,s1,x,e1,λv g1 H1 p1 x1 r1=>k σ g1 H1 p1 x1⟩
theorem Uv{A A':DD}(hc:PT X c (tT B ft))(ha:fm X A (tS B F))(hb:fm X A' (tS B Gf)):PS X (.If c A A' pos) (tS B (fW ft F Gf)):=bQ (G6 hc ha hb) λD σ H z=>by
 obtain⟨g,s,o,s',x,h,k⟩:=z;obtain⟨⟨d,s1⟩,e1,h⟩:=aa h;refine⟨g,s,d,s1,x,e1,λg1 H1 p1 x1=>?_⟩;cases d with
 |true=>exact ng ⟨g1,s1,o,s',x1,h,k.mv p1⟩
 |false=>exact lC ⟨g1,s1,o,s',x1,h,k.mv p1⟩
theorem dC{r:Fh}{ts:Fs}(h:jO r[i]?=some ts):r[i]?=some (some (.ol ts)):=by
 unfold jO at h;split at h
 ·rename_i h2;cases h;exact h2
 ·cases h
theorem SR.lY(x:SR B g H σ s){ts:Fs}(h:s.r[i]?=some (some (.ol ts))):∃l vs,σ[i]?=some (some (.ref l))/\g.o l=some (.loc i)/\H l=some (.lst vs)/\aq B g.al g.HF ts vs:=by
 obtain⟨v,h1,l,vs,rfl,h2,h3,h4⟩:=x.lc.at_ i _ h;exact⟨l,vs,h1,h2,h3,h4⟩
theorem PU{py:Pos}(he:PE X e (tE B fa))(hN:X.N[i]?=some y)(hv:kI X.env.scope y)(hd:aQ y)(eO:dZ y)(hs:noStar e=true)(fH:(aY.endLine == aW.line)=true) :
  PS X (.Expr (.Call (.Attribute (.Name y py) "append" aY) [e] [] aW) pos) (tS B (iQ i fa)):=by
 refine bQ (kL (uK PySem.F.plainAttrs_list PySem.F.slot_list_append PySem.F.type_list_append jL (bG hN hv hd eO) (az he aO (ai hs)) (dS rfl) (nY (by rw[c_,hs];rfl) (by decide)) fH (ai hs) rfl) rfl) λD σ H zz=>?_
 obtain⟨g,s,o,s',x,h,k⟩:=zz;obtain⟨us,e0,h⟩:=aa h;obtain⟨⟨t,s1⟩,e1,h⟩:=aa h;obtain⟨ts,e2,h⟩:=aa h;obtain⟨xy,e3,h⟩:=aa h;obtain⟨z,rfl⟩:=aL (ah e3);cases h;obtain⟨l0,RU,q1,q2,q3,q4⟩:=x.lY (dC (ah e0));refine⟨_,q1,.inl ⟨rfl,_,bW.of q3⟩,g,s,t,s1,x,e1,λv g1 H1 p1 x1 r1=>?_⟩;have ho:=dC (ah e2);obtain⟨l,vs,w1,w2,w3,w4⟩:=x1.lY ho;rw[q1]at w1;cases w1;obtain⟨x2,p2⟩:=x1.chg ho q1 (w4.app (.one r1));exact⟨l0,vs,v,rfl,rfl,w3,by rw[<- w4.len,sizeLine_eq];omega,k σ g1 _ (p1.trans p2) x2⟩
theorem PV{iter:Expr}{body:DD}{gt:TG}{fg:FG}{S':B1}(hc:X.calm=true)(hi:PI X tg iter (tI B fl))(hg:PG X tg gt)(Cu:nB B gt fg S')(hb:fm X body (tS B F))(hp:PassesOwn (model X.prog X.w) X.A X.env X.xe)
  (hs:∀x,foldedSetIterable iter X.env x=pure x):PS X (.For tg iter body [] pos) (tS B (iy fl fg F)):=by
 refine bQ (IY hp hc hi hg hb hs) λD σ H zz=>?_;obtain⟨g,s,o,s',x,h,k⟩:=zz;obtain⟨⟨xs,s1⟩,e1,h⟩:=aa h;refine⟨g,s,xs,s1,x,e1,λJ g1 H1 p1 x1 wk=>?_⟩;refine⟨λi m σ2 H2=>m=xs.length-i/\i<=xs.length/\∃g2 s2,b8 g1 H1 g2 H2/\SR B g2 H2 σ2 s2/\dg fg F (xs.drop i) s2=.ok (o,s'),
  ⟨xs.length,by simp,kh _,g1,s1,.refl,x1,by rw[yS];exact h⟩,?_⟩
 rintro i m σ2 H2 ⟨rfl,YL,g2,s2,p2,x2,mQ⟩
 have Uw:=p2.fr.trans x2.sub;by_cases eX:i<xs.length
 ·have hx:xs[i]?=some xs[i]:=eM eX
  rw[zd eX]at mQ;obtain⟨r3,q1,mQ⟩:=aa mQ;obtain⟨⟨o3,s4⟩,q2,mQ⟩:=aa mQ;refine .inr ⟨wk.go i H2 Uw eX,λσ' H'=>∃g' s5,b8 g1 H1 g' H'/\SR B g' H' σ' s5/\dg fg F (xs.drop (i+1)) s5=.ok (o,s'),
   λσ' H' ⟨g',s5,a,b,c⟩=>⟨xs.length-(i+1),by omega,rfl,eX,g',s5,a,b,c⟩,λv H3 y=>?_⟩
  obtain⟨t,ht,y2⟩:=wk.yld i H2 v H3 Uw eX y;rw[hx]at ht;cases ht;obtain⟨Ke,WN,rx⟩:=y2 g2.HF p2.fr x2.sub;have x3:=x2.grow WN;have p3:=p2.trans (x2.dW WN);refine Cu.ok g2.al Ke H3 σ2 s2.r _ v r3 _ x3.sub (rx.mv p2.pre (aA.refl _)) (ah q1) x3.lc.len λσ4 st=>⟨g2.grow Ke,⟨r3,s2.m⟩,o3,s4,⟨x3.st,x3.lc.sets rfl st⟩,q2,?_⟩;cases o3 with
  |nx=>exact λσ5 g5 H5 p5 x5=>⟨g5,s4,p3.trans p5,x5,mQ⟩
  |ct=>exact λσ5 g5 H5 p5 x5=>⟨g5,s4,p3.trans p5,x5,mQ⟩
  |bk=>
   cases mQ;exact λσ5 g5 H5 p5 x5=>k σ5 g5 H5 ((p1.trans p3).trans p5) x5
  |rt t=>
   cases mQ;exact λv g5 H5 p5 x5 r=>k v g5 H5 ((p1.trans p3).trans p5) x5 r
 ·have e:i=xs.length:=by omega
  subst e;rw[GJ]at mQ;cases mQ;exact .inl ⟨wk.stop _ H2 Uw rfl,k σ2 g2 H2 (p1.trans p2) x2⟩
theorem D7{body:DD}(n:Nat)(hc:PT X c (tT B ft))(hb:fm X body (tS B F))(hp:PassesOwn (model X.prog X.w) X.A X.env X.xe):PS X (.While c body [] pos) (tS B (jQ n ft F)):=by
 refine bQ (zy hp hc hb) λD σ H zz=>?_;obtain⟨g,s,o,s',x,h,k⟩:=zz;refine⟨λm σ2 H2=>∃g2 s2,b8 g H g2 H2/\SR B g2 H2 σ2 s2/\dR ft F m s2=.ok (o,s'),⟨n,g,s,.refl,x,h⟩,?_⟩
 rintro m σ2 H2 ⟨g2,s2,p2,x2,mQ⟩
 cases m with
 |zero=>cases mQ
 |succ m=>
  obtain⟨⟨d,s3⟩,q1,mQ⟩:=aa mQ;refine⟨g2,s2,d,s3,x2,q1,λg3 H3 p3 x3=>?_⟩;cases d with
  |false=>
   cases mQ;exact lC (k σ2 g3 H3 (p2.trans p3) x3)
  |true=>
   obtain⟨⟨o4,s4⟩,q2,mQ⟩:=aa mQ;refine ng ⟨λσ' H'=>∃g' s5,b8 g H g' H'/\SR B g' H' σ' s5/\dR ft F m s5=.ok (o,s'),λσ' H' ⟨g',s5,a,b,c⟩=>⟨m,sD m,g',s5,a,b,c⟩,?_⟩;refine⟨g3,s3,o4,s4,x3,q2,?_⟩;have R4:=p2.trans p3;cases o4 with
   |nx=>exact λσ5 g5 H5 p5 x5=>⟨g5,s4,R4.trans p5,x5,mQ⟩
   |ct=>exact λσ5 g5 H5 p5 x5=>⟨g5,s4,R4.trans p5,x5,mQ⟩
   |bk=>
    cases mQ;exact λσ5 g5 H5 p5 x5=>k σ5 g5 H5 (R4.trans p5) x5
   |rt t=>
    cases mQ;exact λv g5 H5 p5 x5 r=>k v g5 H5 (R4.trans p5) x5 r
end
section
theorem oq{N:Bi}{vs:List V}{ts:Fs}(r:aq B g.al g.HF ts vs):lO B g H (L2.start N vs) (ts.map (λt=>some (C.val t))++cj (N.length-ts.length) none):=by
 refine⟨by unfold L2.start;simp[r.len],λi c h=>?_⟩
 by_cases hi:i<ts.length
 ·rw[gI (by simpa using hi),fk,eM hi]at h
  cases h;obtain⟨v,h1,h2⟩:=r.get (eM hi);refine⟨v,?_,h2⟩;unfold L2.start;rw[gI (by rw[dB,<- r.len];exact hi),fk,h1];rfl
 ·rw[fj (by simpa using hi),yQ]at h
  split at h<;>cases h
theorem kR{np n:Nat}{F:FS}{ts:Fs}{m m':FR}{t:T}(h:aR np n F ts m=.ok (t,m')):ts.length=np/\∃o s',F ⟨ts.map (λt=>some (.val t))++cj (n-ts.length) none,m⟩=.ok (o,s')/\s'.m=m'/\(o=.rt t\/(o=.nx/\t=.non)):=by
 unfold aR at h;split at h
 ·rename_i hl
  obtain⟨⟨o,s'⟩,h1,h⟩:=aa h;refine⟨hl,o,s',h1,?_⟩;cases o with
  |rt u=>cases h;exact⟨rfl,.inl rfl⟩
  |nx=>cases h;exact⟨rfl,.inr ⟨rfl,rfl⟩⟩
  |bk=>cases h
  |ct=>cases h
 ·cases h
variable{P:Program}{w:World}{K:aS}{mg:Str->D1}{base:Heap}
structure rh(K:aS)(x qual:Str)(st:Stmt)(f:Addr)(fd:FuncData):Prop where
 ex:∃(oc:Value)(od:Option Addr)(dV kV doc pm:Value)(an:Option Addr)(gC ct:Value)(yh:Array D1),
  fd=wy x qual (jg st) (bF st) (au st) dV kV doc pm an gC ct/\K.lookup f=some ⟨oc,od,.func fd,yh⟩/\yC K gC qual=true
 kp:mR K (.ref f)=true
theorem rh.ok{x qual:Str}{st:Stmt}{f:Addr}{fd:FuncData}{N ps:Bi}{k:Nat}{sp:Sp}(F:rh K x qual st f fd)(Sc:eV N ps (au st))(len:∀vs H Q E,sp vs H Q E->vs.length=ps.length)
  (zM:∀(gC:Value)(A:Around)(outer:List Env)(s:Shared)(H:Hp)(vs:List V)(Q:VK)(E:XK),aX k (A.deeper (zk qual (au st) s.heap.objs.size f gC))->sp vs H Q E ->
   ∃t,fm (kr j3 P w K mg base N qual (au st) f gC A outer s H E).zq (bF st) t/\t {nx:=λ_ H'=>Q .non H',rt:=Q} (L2.start N vs) H):bH P w K mg base j3 (k+1) f fd ps sp:=by
 obtain⟨oc,od,dV,kV,doc,pm,an,gC,ct,yh,rfl,lk,eO⟩:=F.ex;refine G9 lk eO Sc len λA outer s H vs Q E hr MD=>?_;obtain⟨t,h,q⟩:=zM gC A outer s H vs Q E hr MD;exact⟨t,h.zq,q⟩
theorem Ku{x qual:Str}{st:Stmt}{f:Addr}{fd:FuncData}{N ps:Bi}{k:Nat}{F:FS}(Fn:rh K x qual st f fd)(Sc:eV N ps (au st))
  (body:∀(gC:Value)(A:Around)(outer:List Env)(s:Shared)(H:Hp)(E:XK),aX k (A.deeper (zk qual (au st) s.heap.objs.size f gC))->fm (kr j3 P w K mg base N qual (au st) f gC A outer s H E).zq (bF st) (tS B F)) :
  bH P w K mg base j3 (k+1) f fd ps (mP B (aR ps.length N.length F)):=by
 refine Fn.ok Sc (λvs H Q E h=>?_) (λgC A outer s H vs Q E hr h=>?_)
 ·obtain⟨g,ts,m,t,m',x,r,h,_⟩:=h
  rw[<- r.len,(kR h).1]
 ·obtain⟨g,ts,m,t,m',x,r,h,q⟩:=h
  obtain⟨_,o,s',h1,rfl,ho⟩:=kR h;refine⟨_,body gC A outer s H E hr,g,_,o,s',⟨x,oq r⟩,h1,?_⟩;rcases ho with rfl|⟨rfl,rfl⟩
  ·exact λv g' H' p y rv=>q v g' H' p y rv
  ·exact λσ' g' H' p y=>q _ g' H' p y.st rfl
theorem D8{f:Addr}{fd:FuncData}{ps:Bi}{k:Nat}{fn:Fn}(F:bH P w K mg base j3 k f fd ps (mP B fn)):bH P w K mg base j3 k f fd ps (mP B (cz fn)):=F.imp λvs H Q E h=>by
 obtain⟨g,ts,m,t,m',x,r,h,q⟩:=h;unfold cz at h;split at h
 case isFalse=>cases h
 rename_i hn;cases e:fn ts []with
 |bad=>rw[e]at h;cases h
 |exc c fs s=>rw[e]at h;dsimp only at h;split at h<;>cases h
 |ok z=>
  rw[e]at h;dsimp only at h;split at h
  case isFalse=>cases h
  rename_i zE;cases h;refine⟨⟨g.HF,λ_=>none,[]⟩,ts,[],z.1,z.2,⟨x.sub,λb p e=>(by cases e),rfl,λk ob e=>(by simp at e)⟩,aq.no hn r,e,λv g0 H' p y rv=>?_⟩
  have keep:∀b p,g.o b=some p->H' b=H b/\g0.HF b=none:=λb q hb=>by
   obtain⟨h1,u,h2⟩:=x.live b q hb;obtain⟨h3,h4,_⟩:=p.rest b u h2 h1 rfl;exact⟨h3.trans h2.symm,h4⟩
  refine q v ⟨g0.HF,g.o,g.al⟩ H' ⟨p.fr,cA,λb u h n z=>?_,p.there⟩ (x.mv y.sub (λb p e=>?_) p.fr rfl λl p h _=>⟨h,(keep l p h).1⟩) (Rep.no zE rv)
  ·obtain⟨h3,h4,_⟩:=p.rest b u h n rfl
   exact⟨h3,h4,z⟩
  ·obtain⟨h1,u,h2⟩:=x.live b p e
   obtain⟨h3,h4⟩:=keep b p e;exact⟨h4,u,h3.trans h2⟩
end
section
variable{bM:Pos}
theorem SR.HH{k:Nat}{ob jw:Ob}{a C dx:Addr}{ns:Bi}{vs dX:List V}(x:SR B g H σ s)(Z:yj B g H k ob a C dx ns vs)(hk:s.m[k]?=some ob)(hc:jw.c=ob.c)(hle:dX.length<=ns.length)(Y3:dX.length=jw.fs.length)
  (hf:∀j c,jw.fs[j]?=some c->∃v,dX[j]?=some v/\aM B g H (.fld k j) c v) :
  b8 g H g (upd H a (.ins C dx (ns.zip dX)))/\SR B g (upd H a (.ins C dx (ns.zip dX))) σ {s with m:=s.m.set k jw}:=by
 have ne:∀l q,g.o l=some q->q≠.ob k->upd H a (.ins C dx (ns.zip dX)) l=H l:=λl q hl hq=>ak λz=>hq (by rw[z,Z.o]at hl;cases hl;rfl)
 have sl:∀{q:hU}{c:_root_.D.C}{v:V},q≠.ob k->aM B g H q c v->aM B g (upd H a (.ins C dx (ns.zip dX))) q c v:=λhq h=>aM.mv (g:=g) (g':=g) (aA.refl _) cA (λl hl=>⟨hl,ne l _ hl hq⟩) h;refine⟨kO Z.o,⟨⟨λb w e=>?_,λb q e=>?_,by rw[dH];exact x.st.len,λk' qm e=>?_⟩,x.lc.len,λi c e=>?_⟩⟩
 ·have:b≠a:=λz=>by rw[z,(x.st.live a _ Z.o).1]at e;cases e
  rw[ak this];exact x.sub _ _ e
 ·obtain⟨h1,w,h2⟩:=x.st.live b q e
  by_cases hb:b=a
  ·exact⟨h1,_,by rw[hb,af]⟩
  ·exact⟨h1,w,by rw[ak hb];exact h2⟩
 ·by_cases kE:k=k'
  ·subst kE
   have eX:k<s.m.length:=(eT.mp hk).1;have e:(s.m.set k jw)[k]?=some qm:=e;rw[c9 eX]at e;cases e;exact .inl ⟨a,C,dx,ns,dX,Z.al,Z.o,by rw[hc];exact Z.cl,af,hle,Y3,λj c h=>let⟨v,h1,h2⟩:=hf j c h;⟨v,h1,sl (λz=>by cases z) h2⟩⟩
  ·have e:(s.m.set k jw)[k']?=some qm:=e
   rw[gF kE]at e;refine(x.st.at_ k' qm e).mv (aA.refl _) cA λl q h hq=>⟨h,ne l q h ?_⟩;rcases hq with rfl|⟨j,rfl⟩
   ·exact λz=>kE (by cases z;rfl)
   ·exact λz=>by cases z
 ·obtain⟨v,h1,h2⟩:=x.lc.at_ i c e
  exact⟨v,h1,sl (λz=>by cases z) h2⟩
theorem xJ{fs nJ:List C}{j:Nat}{c:C}(h:setAt fs j c=some nJ):(j<fs.length/\nJ=fs.set j c)\/(j=fs.length/\nJ=fs++[c]):=by
 unfold setAt at h;split at h
 ·rename_i q;cases h;exact .inl ⟨q,rfl⟩
 ·split at h
  ·rename_i q;cases h;exact .inr ⟨q,rfl⟩
  ·cases h
theorem vg(O:kD X.K X.mg P){f:Nat}{n:Str}{k:Nat}{ob jw:Ob}{c':_root_.D.C}{a C dx:Addr}{ns:Bi}{vs:List V}{v:V}(hf:P.an[f]?=some n)(x:SR (P.kt X) g H σ s)(Z:yj (P.kt X) g H k ob a C dx ns vs)(hk:s.m[k]?=some ob)(h:cy P.tab f c' ob=some jw)
  (hv:∀j,aM (P.kt X) g H (.fld k j) c' v):mO X.K C/\dq X.K C n/\(ns.zip vs).length<1000 /\
  ∃dX,L2.cV n v (ns.zip vs)=ns.zip dX/\b8 g H g (upd H a (.ins C dx (ns.zip dX)))/\SR (P.kt X) g (upd H a (.ins C dx (ns.zip dX))) σ {s with m:=s.m.set k jw}:=by
 obtain⟨j,h1,h2⟩:=ba.mp h;obtain⟨nJ,h3,rfl⟩:=eL.mp h2;obtain⟨m,hm,se,F⟩:=O.of Z.cl;have hj:=kQ hf se h1;have MS:j<ns.length:=(eT.mp hj).1;refine⟨F.cl,F.na _ (ir hj),by rw[CU];have:=F.nY;omega,?_⟩
 rcases xJ h3 with⟨eX,rfl⟩|⟨rfl,rfl⟩
 ·refine⟨vs.set j v,vc F.nd hj Z.le (by rw[Z.ln];exact eX),?_⟩
  refine x.HH Z hk rfl (by rw[dH];exact Z.le) (by rw[dH,dH];exact Z.ln) λi c e=>?_
  by_cases hi:j=i
  ·subst hi
   rw[c9 eX]at e;cases e;exact⟨v,by rw[c9 (by rw[Z.ln];exact eX)],hv j⟩
  ·rw[gF hi]at e
   obtain⟨w,h4,h5⟩:=Z.f i c e;exact⟨w,by rw[gF hi];exact h4,h5⟩
 ·refine⟨vs++[v],pX F.nd (by rw[Z.ln];exact hj),?_⟩
  refine x.HH Z hk rfl (by rw[gH,Z.ln];exact MS) (by rw[gH,gH,Z.ln];rfl) λi c e=>?_
  by_cases hi:i<ob.fs.length
  ·rw[gI hi]at e
   obtain⟨w,h4,h5⟩:=Z.f i c e;exact⟨w,by rw[gI (by rw[Z.ln];exact hi)];exact h4,h5⟩
  ·rw[fj (by omega)]at e
   have hz:i-ob.fs.length=0:=by
    have:=(eT.mp e).1
    simp at this;omega
   rw[hz]at e;cases e;exact⟨v,by rw[fj (by rw[Z.ln];omega),Z.ln,hz];rfl,hv i⟩
theorem PX(O:kD X.K X.mg P){f:Nat}{n:Str}(hf:P.an[f]?=some n)(ho:PE X o (tE (P.kt X) fo))(he:PE X e (tE (P.kt X) fa))(hs:swapsWith e (some (.Attribute o n bM)) pos.line X.env=pure false) :
  PS X (.Assign [.Attribute o n bM] e pos) (tS (P.kt X) (aE P.tab f fo fa)):=bQ (sR ho he hs) λD σ H z=>by
 obtain⟨g,s,oo,s',x,h,k⟩:=z;obtain⟨⟨t,s1⟩,h1,h⟩:=aa h;obtain⟨⟨tx,s2⟩,h2,h⟩:=aa h;cases tx<;>first|(cases h;done)|skip
 rename_i kk;obtain⟨jw,h3,h⟩:=aa h;cases h;obtain⟨ob,h4,h5⟩:=ba.mp (ah h3);refine⟨g,s,t,s1,x,h1,λv g1 H1 p1 x1 r1=>⟨g1,s1,_,s2,x1,h2,λw g2 H2 p2 x2 r2=>?_⟩⟩;obtain⟨a,rfl,ha⟩:=r2;rcases x2.st.at_ kk ob h4 with⟨a',C,dx,ns,vs,Z⟩|⟨a',Z⟩
 case inr=>
  obtain⟨j,q,_⟩:=ba.mp h5;obtain⟨l,q,_⟩:=ba.mp q;have z:(P.tab.map _)[ob.c]?=none:=Z.nf;rw[fk,q]at z;cases z
 have:=Z.al.symm.trans ha
 cases this;obtain⟨cl,na,hl,dX,e1,p3,x3⟩:=vg O hf x2 Z h4 h5 (v:=v) λj=>r1.mv p2.pre p2.fr;refine⟨a,C,dx,_,rfl,Z.h,cl,na,hl,?_⟩;rw[e1];exact k σ g2 _ ((p1.trans p2).trans p3) x3
end
end D
namespace L2
open PySem PySem.Spec PyProof.Rows
section
variable{X:Cx}
theorem D9{e:Expr}{x y:Str}{k1 k2 p1 p2 p3 pos}{te:TE}(h:PE X e te)(hx:x.length<=sizeLine) :
  PE X (.JoinedStr [.Constant (.str x) k1 p1,.FormattedValue e (-1) none p2,.Constant (.str y) k2 p3] pos) (λσ H Q=>te σ H λv H1=>∃z:Str,v=.str z/\x.length+z.length+y.length<=sizeLine/\Q (.str (Str.empty++x++z++y)) H1):=by
 intro ae s σ H Q I q;have e0:(Str.empty++x).length=x.length:=by rw[strLen_append];exact yP _
 refine JoinedStr_many (joinParts_cons (Calls.Constant_str ⟨by rw[e0];exact hx,joinParts_cons (FormattedValue_plain (bo (h ae _ σ H _ (I.tok _) q) λv s1 ⟨z',H1,I1,r,z,ez,hz,q1⟩=>?_))⟩))
 subst ez;obtain⟨t,rfl⟩:=r;have e1:(Str.empty++x++z).length=x.length+z.length:=by rw[strLen_append,e0]
 have e2:(Str.empty++x++z++y).length=x.length+z.length+y.length:=by rw[strLen_append,e1]
 refine formatField_str (λt' tk=>⟨by rw[e1];omega,joinParts_cons (Calls.Constant_str ⟨by rw[e2];exact hz,joinParts_nil ⟨.str (Str.empty++x++z++y),H1,I1.tok _,⟨_,rfl⟩,q1⟩ (by rw[e2];exact hz)⟩)⟩) (by omega)
end
end L2
namespace D
open PySem L2
variable{X:Cx}{env:Env}{a b c e o tg:Expr}{fa fb fc fo:FE}{fl:FL}{g g':G}{H H':Hp}{B:KT}{es:Bz}{i k:Nat}{P:Pg}{aY aW p pos bM:Pos}{s s':S}{σ:St}{x y:Str}
section
theorem vh:∀{Ds:BM}{av:B2},Vals (Ds.map V.ref) av->av=Ds.map Value.ref
 |[],_,h=>by cases h;rfl
 |D::Ds,_,h=>by
  cases h with
  |cons p q=>
   cases p;rw[vh q];rfl
theorem AX:cQ X (.builtin "isinstance") (λxs H Q=>∃(a C dx tp:Addr)(fs:List (Str×V))(Ds:BM)(b:Bool),xs=[.ref a,.ref tp]/\H a=some (.ins C dx fs)/\mO X.K C/\dO X.K (.ref C) "__class__" = some (some (.builtin "object.__class__")) /\
  yu X.K (.builtin "object.__class__") "__get__" = some (some (.builtin "getset_descriptor.__get__"))/\yv X.K (.builtin "object.__class__")=some true/\wx X.K C (.type "object")=some true /\
  H tp=some (.tup (Ds.map V.ref))/\yD X.K (.ref C) (Ds.map Value.ref)=some b/\Q (.bl b) H):=by
 intro ae s σ H xs us Q I r h;obtain⟨a,C,dx,tp,fs,Ds,b,rfl,ea,cl,h1,hn,RJ,h2,et,e,q⟩:=h;obtain⟨u,u',rfl,ru,N4⟩:=vals2 r;cases ru;cases N4;obtain⟨mA,O,_⟩:=je I.aV ea;obtain⟨od,J,_⟩:=O.look;obtain⟨_,av,rv,o,g1,g2,n,g3⟩:=(show bA X.prog X.w H s.heap tp (.tup (Ds.map V.ref))from I.aV tp _ et);have ei:av=Ds.map Value.ref:=vh rv;obtain⟨oc,odd,odt,yh⟩:=o;cases g2;cases g3;rw[ei]at g1;exact PySem.W.kia_tup (Ge (cl.get _) cl.hd h1 hn RJ h2) I.gK J g1 e (λz=>nomatch z) λtk=>⟨.bl b,H,I.tok _,rfl,q⟩
def G.cZ(g:G)(a:Addr):G:={g with o:=λb=>if b=a then some (.ob g.al.length)else g.o b,al:=g.al++[a]}
theorem SR.cZ{c:Nat}{C q dx:Addr}{ns:Bi}(x:SR B g H σ s)(hC:f9 B c C ns)(nx:H q=none)(nd:H dx=none)(gR:dx≠q) :
  b8 g H (g.cZ q) (upd (upd H dx (.own q)) q (.ins C dx []))/\SR B (g.cZ q) (upd (upd H dx (.own q)) q (.ins C dx [])) σ {s with m:=s.m++[⟨c,[]⟩]}:=by
 have nf:g.HF q=none:=x.sub.free nx;have Y4:g.HF dx=none:=x.sub.free nd;have no:∀l p',g.o l=some p'->l≠q/\l≠dx:=λl p' h=>by
  obtain⟨_,u,z⟩:=x.st.live l p' h;exact⟨aC z nx,aC z nd⟩
 have MT:∀l,l≠q->l≠dx->upd (upd H dx (.own q)) q (.ins C dx []) l=H l:=λl h1 h2=>by rw[ak h1,ak h2]
 have ho:∀l p',g.o l=some p'->(g.cZ q).o l=some p':=λl p' h=>by
  show(if l=q then some (hU.ob g.al.length)else g.o l)=_
  rw[if_neg (no l p' h).1];exact h
 have pre:g.al <+: (g.cZ q).al:=CV _ _;refine⟨⟨aA.refl _,pre,λb u h n z=>?_,λb h=>?_⟩,⟨⟨λb u e=>?_,λb p' e=>?_,?_,λk ob e=>?_⟩,x.lc.len,λi c' e=>?_⟩⟩
 ·have h1:=aC h nx
  have h2:=aC h nd;refine⟨(MT b h1 h2).trans h,n,?_⟩;show(if b=q then some (hU.ob g.al.length)else g.o b)=none
  rw[if_neg h1];exact z
 ·by_cases h1:b=q
  ·subst h1;exact nx
  ·by_cases h2:b=dx
   ·subst h2;exact nd
   ·rw[MT b h1 h2]at h;exact h
 ·have h1:b≠q:=λz=>by rw[z]at e;have e:g.HF q=some u:=e;rw[nf]at e;cases e
  have h2:b≠dx:=λz=>by rw[z]at e;have e:g.HF dx=some u:=e;rw[Y4]at e;cases e
  rw[MT b h1 h2];exact x.sub _ _ e
 ·have e:(if b=q then some (hU.ob g.al.length)else g.o b)=some p':=e
  by_cases hb:b=q
  ·subst hb;exact⟨nf,_,af⟩
  ·rw[if_neg hb]at e
   obtain⟨h1,u,h2⟩:=x.st.live b p' e;obtain⟨h3,h4⟩:=no b p' e;exact⟨h1,u,(MT b h3 h4).trans h2⟩
 ·show(s.m++[_]).length=(g.al++[q]).length
  rw[gH,gH,x.st.len];rfl
 ·have e:(s.m++[(⟨c,[]⟩:Ob)])[k]?=some ob:=e
  by_cases hk:k<s.m.length
  ·rw[gI hk]at e
   refine(x.st.at_ k ob e).mv (aA.refl _) pre λl p' h _=>⟨ho l p' h,?_⟩;obtain⟨h3,h4⟩:=no l p' h;exact MT l h3 h4
  ·rw[fj (by omega)]at e
   have Ux:k-s.m.length=0:=by
    have:=(eT.mp e).1
    simp at this;omega
   rw[Ux]at e;cases e;have kE:k=g.al.length:=by have:=x.st.len;omega
   subst kE;refine .inl ⟨q,C,dx,ns,[],?_,?_,hC,?_,kh _,rfl,λj c h=>by simp at h⟩
   ·show(g.al++[q])[g.al.length]?=some q
    rw[fj (cC _),ki];rfl
   ·show(if q=q then some (hU.ob g.al.length)else g.o q)=_
    rw[if_pos rfl]
   ·rw[af,GI]
 ·obtain⟨v,h1,h2⟩:=x.lc.at_ i c' e
  refine⟨v,h1,aM.mv (g:=g) (g':=g.cZ q) (aA.refl _) pre (λl h=>⟨ho l _ h,?_⟩) h2⟩;obtain⟨h3,h4⟩:=no l _ h;exact MT l h3 h4
structure WO(P:Pg)(Pr:Program)(w:World)(K:aS)(mg:Str->D1)(base:Heap)(k:Nat)(c:Nat)(x:Str)(f:Fn):Prop where
 ex:∃(C fi:Addr)(fd:FuncData)(ps:Bi)(ns:Bi),f9 (fM P K Pr w) c C ns/\mg x=some (.ref C)/\Mk K C fi/\bH Pr w K mg base j3 k fi fd ps (mP (fM P K Pr w) f)/\Binds K fd ps []
theorem D_{c:Nat}{f:Fn}{t:T}(h:ny c f fl s=.ok (t,s')):∃ts s1 m',fl s=.ok (ts,s1)/\f (.own s1.m.length::ts) (s1.m++[⟨c,[]⟩])=.ok (.non,m')/\t=.own s1.m.length/\s'={s1 with m:=m'}:=by
 obtain⟨⟨ts,s1⟩,h1,h⟩:=aa h;dsimp only at h;cases q:f (.own s1.m.length::ts) (s1.m++[⟨c,[]⟩])with
 |ok r=>
  rw[q]at h;obtain⟨u,m'⟩:=r;cases u<;>first|(cases h;done)|skip
  cases h;exact⟨ts,s1,m',h1,q,rfl,rfl⟩
 |bad=>rw[q]at h;cases h
 |exc c fs s2=>rw[q]at h;cases h
theorem Ea{c:Nat}{f:Fn}{C:Addr}{ns:Bi}{ts:Fs}{vs:List V}{m':FR}{Q:VK}(hC:f9 B c C ns)(x1:SR B g H σ s)(r1:aq B g.al g.HF ts vs)(h2:f (.own s.m.length::ts) (s.m++[⟨c,[]⟩])=.ok (.non,m'))
  (k:∀v g' H',b8 g H g' H'->SR B g' H' σ {s with m:=m'}->Rep B g'.al g'.HF (.own s.m.length) v->Q v H'):∀q dx,H q=none->H dx=none->dx≠q->mP B f (.ref q::(vs++[])) (upd (upd H dx (.own q)) q (.ins C dx [])) (λv H2=>v=.non/\Q (.ref q) H2) E0:=λq dx nx nd gR=>by
 obtain⟨p2,x2⟩:=x1.cZ hC nx nd gR;rw[fh];have hq:(g.cZ q).al[s.m.length]?=some q:=by
  show(g.al++[q])[s.m.length]?=some q;rw[x1.st.len,fj (cC _),ki];rfl
 refine qY (E:=E0) (ts:=.own s.m.length::ts) x2 ⟨_,vs,rfl,⟨q,rfl,hq⟩,r1.mv p2.pre p2.fr⟩ h2 λv g' H' p3 x3 rv=>⟨rv,k _ g' H' (p2.trans p3) x3 ⟨q,rfl,cu p3.pre hq⟩⟩
theorem Kv{k j c:Nat}{f:Fn}(D:WO P X.prog X.w X.K X.mg X.base k c x f)(hr:aX j X.A)(nA:k+1<=j)(ha:PA X (e::es) (tA (P.kt X) fl))(hg:Gl X x)(iK:aQ x)(hs:(e::es).all noStar=true) :
  PE X (.Call (.Name x p) (e::es) [] pos) (tE (P.kt X) (ny c f fl)):=by
 obtain⟨C,fi,fd,ps,ns,hC,hm,M,F,hb⟩:=D.ex;rw[c_,bL]at hs;refine aB (pI M F (hr.mono nA) hg hm hb .nil j4 ha iK (ai hs.1) (cK hs.2)) λσ H Q zz=>?_;obtain⟨g,s,t,s',x,h,k⟩:=zz;obtain⟨ts,s1,m',h1,h2,rfl,rfl⟩:=D_ h;exact⟨g,s,ts,s1,x,h1,λvs g1 H1 p1 x1 r1=>Ea hC x1 r1 h2 λv g' H' p2 x2 rv=>k v g' H' (p1.trans p2) x2 rv⟩
def jX:Expr->Option (Expr×Bz×List Keyword×Pos)
 |.Call f a k p=>some (f,a,k,p)
 |_=>none
def asName:Expr->Option Str
 |.Name x _=>some x
 |_=>none
def gb:Expr->Option (Expr×Str×Pos)
 |.Attribute o f p=>some (o,f,p)
 |_=>none
def fB(e:Expr):Option (Str×Bz×List Keyword):=(jX e).bind λq=>(asName q.1).map λf=>(f,q.2.1,q.2.2.1)
theorem fP{e:Expr}{q}(h:jX e=some q):e=.Call q.1 q.2.1 q.2.2.1 q.2.2.2:=by
 cases e<;>first|(cases h;done)|(cases h;rfl)
theorem a_{e:Expr}{x:Str}(h:asName e=some x):∃p,e=.Name x p:=by
 cases e<;>first|(cases h;done)|(cases h;exact⟨_,rfl⟩)
theorem gc{e:Expr}{q}(h:gb e=some q):e=.Attribute q.1 q.2.1 q.2.2:=by
 cases e<;>first|(cases h;done)|(cases h;rfl)
theorem b9{e:Expr}{q}(h:fB e=some q):∃p pos,e=.Call (.Name q.1 p) q.2.1 q.2.2 pos:=by
 obtain⟨w,h1,h2⟩:=ba.mp h;obtain⟨f,h3,rfl⟩:=eL.mp h2;obtain⟨p,h4⟩:=a_ h3;rw[fP h1,h4];exact⟨_,_,rfl⟩
def AY:Stmt->Option (Str×Str×Expr)
 |.Assign ts e _=>(match ts with
  |[t]=>(gb t).bind λq=>(asName q.1).map λs=>(s,q.2.1,e)
  |_=>none)
 |_=>none
theorem vj{st:Stmt}{q}(h:AY st=some q):∃p0 pf pos,st=.Assign [.Attribute (.Name q.1 p0) q.2.1 pf] q.2.2 pos:=by
 cases st<;>first|(cases h;done)|skip
 rename_i ts e pos
 match ts,h with
 |[t],h=>
  obtain⟨w,h1,h2⟩:=ba.mp (show(gb t).bind _=some q from h);obtain⟨s,h3,rfl⟩:=eL.mp h2;obtain⟨p,h4⟩:=a_ h3;rw[gc h1,h4];exact⟨_,_,_,rfl⟩
def pY(st:Stmt):Option (Str×Str×Str):=(AY st).bind λw=>(asName w.2.2).map λq=>(w.1,w.2.1,q)
theorem tY{st:Stmt}{z:Str×Str×Str}(h:pY st=some z):∃p0 pf pq pos,st=.Assign [.Attribute (.Name z.1 p0) z.2.1 pf] (.Name z.2.2 pq) pos:=by
 obtain⟨w,h1,h2⟩:=ba.mp h;obtain⟨q,h3,rfl⟩:=eL.mp h2;obtain⟨p0,pf,pos,rfl⟩:=vj h1;obtain⟨p,h4⟩:=a_ h3;rw[h4];exact⟨_,_,_,_,rfl⟩
def lZ(N:Bi):Nat->DD->Bi->Bool
 |_,[],[]=>true
 |i,st::rest,n::ns=>(match pY st with
  |some z=>decide (N[0]?=some z.1)&&decide (N[i]?=some z.2.2)&&decide (z.2.1=n)
  |none=>false)&&lZ N (i+1) rest ns
 |_,_,_=>false
def R5(K:aS):Nat->Bi->TS
 |_,[]=>zr
 |i,n::ns=>Nf (NG K (sJ 0) (sJ i) n) (R5 K (i+1) ns)
theorem vm(hv:∀(i:Nat)(x:Str),X.N[i]?=some x->kI X.env.scope x/\aQ x/\dZ x):∀(body:DD)(ns:Bi)(i:Nat),lZ X.N i body ns=true->fm X body (R5 X.K i ns)
 |[],[],_,_=>pA
 |[],_::_,_,h=>by cases h
 |st::rest,[],_,h=>by cases h
 |st::rest,n::ns,i,h=>by
  have h:((match pY st with
   |some z=>decide (X.N[0]?=some z.1)&&decide (X.N[i]?=some z.2.2)&&decide (z.2.1=n)
   |none=>false)&&lZ X.N (i+1) rest ns)=true:=h
  rw[bL]at h;obtain⟨h1,h5⟩:=h;cases e:pY st with
  |none=>rw[e]at h1;cases h1
  |some z=>
   rw[e]at h1;simp only[bL,decide_eq_true_eq]at h1;obtain⟨⟨h2,h3⟩,rfl⟩:=h1;obtain⟨p0,pf,pq,pos,rfl⟩:=tY e;obtain⟨v1,v2,v3⟩:=hv 0 _ h2;obtain⟨w1,w2,w3⟩:=hv i _ h3;exact fG (sR (bG h2 v1 v2 v3) (bG h3 w1 w2 w3) rfl) (vm hv rest ns (i+1) h5)
theorem vn{K:aS}{C q dx:Addr}{N:Bi}{all:List V}{D:Ends}(cl:mO K C):∀(ns pZ:Bi)(as p9:List V)(H:Hp),(∀f∈ns,dq K C f)->(pZ++ns).Nodup->(pZ++ns).length<=100->p9.length=pZ.length->as.length=ns.length->all=.ref q::(p9++as)->H q=some (.ins C dx (pZ.zip p9)) ->
  D.nx (L2.start N all) (upd H q (.ins C dx ((pZ++ns).zip (p9++as))))->R5 K (p9.length+1) ns D (L2.start N all) H
 |[],pZ,as,p9,H,_,_,_,ML,hl,ha,hq,k=>by
  have:as=[]:=CW.mp hl
  subst this;rw[fh,fh]at k;have e:upd H q (.ins C dx (pZ.zip p9))=H:=by
   funext b
   by_cases hb:b=q
   ·subst hb;rw[af,hq]
   ·rw[ak hb]
  rw[e]at k;exact k
 |n::ns,pZ,[],p9,H,_,_,_,ML,hl,ha,hq,k=>by cases hl
 |n::ns,pZ,v::as,p9,H,hna,nd,hsz,ML,hl,ha,hq,k=>by
  have hg:(L2.start N all)[p9.length+1]?=some (some v):=by
   unfold L2.start;rw[gI (by rw[ha];simp),fk,ha,List.getElem?_cons_succ,fj (cC _),ki];rfl
  have h0:(L2.start N all)[0]?=some (some (.ref q)):=by
   unfold L2.start;rw[gI (by rw[ha];simp),fk,ha];rfl
  have hn:n∉pZ:=λz=>by
   rw[ze]at nd;exact nd.2.2 n z n (dj ..) rfl
  refine⟨v,hg,.ref q,h0,q,C,dx,pZ.zip p9,rfl,hq,cl,hna n (dj ..),?_,?_⟩
  ·rw[CU];rw[gH]at hsz;omega
  ·have e1:L2.cV n v (pZ.zip p9)=(pZ++[n]).zip (p9++[v]):=by
    have:=pX (f:=n) (v:=v) (ns:=pZ++[n]) (vs:=p9) (by
     rw[show pZ++n::ns=(pZ++[n])++ns by simp]at nd
     exact(ze.mp nd).1) (by rw[ML,fj (cC _),ki];rfl)
    rw[<- this]
    congr 1
    have:∀(a:Bi)(b:List V)(r:Bi),b.length=a.length->a.zip b=(a++r).zip b:=by
     intro a
     induction a with
     |nil=>intro b r h;cases b with
      |nil=>simp
      |cons=>cases h
     |cons x a ih=>intro b r h;cases b with
      |nil=>cases h
      |cons y b=>rw[k7,List.cons_append,k7,ih b r (by simpa using h)]
    exact this pZ p9 [n] ML
   rw[e1];have h5:=vn (N:=N) (all:=all) (D:=D) (q:=q) (dx:=dx) cl ns (pZ++[n]) as (p9++[v]) (upd H q (.ins C dx ((pZ++[n]).zip (p9++[v])))) (λf hf=>hna f (dm _ hf)) (by simpa using nd) (by simpa using hsz) (by simp[ML]) (by simpa using hl) (by rw[ha];simp) af (by
    rw[oZ];simpa using k)
   rw[show(p9++[v]).length+1=p9.length+1+1 by simp]at h5
   exact h5
end
section
theorem l_:∀(k:Int)(ts:Fs),(qP k ts).length=ts.length
 |_,[]=>rfl
 |k,_::ts=>congrArg (· + 1) (l_ (k+1) ts)
theorem vo:∀(k:Nat)(ts:Fs)(i:Nat)(t:T),ts[i]?=some t->(qP (k:Int) ts)[i]?=some (.tup [.int ((k+i:Nat):Int),t])
 |_,[],_,_,h=>by simp at h
 |k,_::ts,0,_,h=>by simp at h;subst h;rfl
 |k,_::ts,i+1,t,h=>by
  have:=vo (k+1) ts i t (by simpa using h)
  rw[show k+(i+1)=k+1+i by omega]
  exact this
theorem PY(hB:B.K=X.K)(m:Nat):∀σ H R,tI B (iE (m:Int) fa) σ H R->JD X.K m (tA B (cJ fa aU)) σ H R:=by
 rintro σ H R ⟨g,s,t,s',x,h,k⟩
 obtain⟨⟨tx,s1⟩,h1,h⟩:=aa h;obtain⟨ts,h2,h⟩:=aa h;cases h;have h2:=ah h2;obtain⟨PZ,rfl,rfl⟩:∃PZ,tx=.lst PZ/\t=qP m PZ:=by
  cases tx<;>first|(cases h2;done)|(cases h2;exact⟨_,rfl,rfl⟩)
 have hc:cJ fa aU s=.ok ([.lst PZ],s1):=by
  show(fa s).bind _=_;rw[h1];rfl
 refine⟨g,s,_,_,x,hc,λvs g1 H1 p1 x1 r1=>?_⟩;obtain⟨v,rfl,l,ws,rfl,q1,r1⟩:=bO r1;refine⟨l,ws,rfl,bW.of (x1.sub _ _ q1),k _ g1 H1 p1 x1 ⟨λi H3 s3 hi=>?_,λi H3 x H4 s3 hi y=>?_,λi H3 s3 hi=>?_⟩⟩
 ·rw[l_,r1.len]at hi
  exact⟨hi,bW.of (s3 _ _ q1)⟩
 ·obtain⟨p,x',hn,e1,rfl,rfl⟩:=y
  obtain⟨t1,f1,P0⟩:=r1.tG e1;refine⟨_,vo m PZ i t1 f1,λq_ s4 s5=>⟨upd q_ p (.tup [.int ((m+i:Nat):Int),x']),.new s5 hn,p,[.int ((m+i:Nat):Int),x'],rfl,jZ.of af,?_⟩⟩;have s6:=s4.trans (aF (o:=.tup [.int ((m+i:Nat):Int),x']) (s5.free hn));exact⟨.int ((m+i:Nat):Int),[x'],rfl,rfl,.one (P0.same s6)⟩
 ·rw[l_,r1.len]at hi
  exact⟨hi,bW.of (s3 _ _ q1)⟩
theorem P1(hB:B.K=X.K){elts:Bz}{x1:Nat}{gB:Pos}(hg:Gl X "enumerate")(hm:X.mg "enumerate" = none)(ha:PE X a (tE B fa))(hs:noStar a=true):PI X (.Tuple elts x1 gB) (.Call (.Name "enumerate" p) [a] [] pos) (tI B (iE 0 fa)):=
 j6 (Oz hg hm (pU ha tH (ai hs)) (ai hs)) (PY hB 0)
theorem P4(hB:B.K=X.K){elts:Bz}{x1 k1:Nat}{gB p1 kp:Pos}(hg:Gl X "enumerate")(hm:X.mg "enumerate" = none)(ha:PE X a (tE B fa))(hs:noStar a=true):PI X (.Tuple elts x1 gB) (.Call (.Name "enumerate" p) [a] [⟨some (Str.ofString "start"),.Constant (.int 1) k1 p1,kp⟩] pos) (tI B (iE 1 fa)):=
 j6 (JE hg hm (pU ha tH (ai hs)) (ai hs)) (PY hB 1)
end
section
theorem rj{m:Str}(hb:aP o=true)(hs:es.all noStar=true)(hl:es.length<30)(hp:(aY.endLine == pos.line)=true):om X o m aY es pos:=by
 have hf:methodCallForm (es.length+0) (backTo pos (starEach es X.env)) (backToKw pos (keywordEach [] X.env))=true:=by
  unfold methodCallForm;rw[lV hs];show(true&&true&&decide (es.length+0+0<30))=true;rw[decide_eq_true (show es.length+0+0<30 by omega)];rfl
 refine⟨(do return(<- importBound o X.env).getD true),?_⟩
 show(do
  let ov <- attributeBase o m X.env (eval o X.env)
  standAt aY.atName
  methodCall o m aY pos X.env ov (es.length+0) (backTo pos (starEach es X.env)) (backToKw pos (keywordEach [] X.env)))=_
 rw[dS hb];unfold methodCall;rw[hf];unfold calleeOf methodCallPos;rw[hp];rfl
theorem Eb{Pr:Program}{w:World}{K:aS}{mg:Str->D1}{base:Heap}{n qual:Str}{st:Stmt}{f C:Addr}{fd:FuncData}{N ps ns:Bi}{k:Nat}(Fn:rh K n qual st f fd)(Sc:eV N ps (au st))
  (hv:∀(i:Nat)(x:Str),N[i]?=some x->kI (au st) x/\aQ x/\dZ x) (hi:lZ N 1 (bF st) ns=true) (hl:ps.length=ns.length+1) (cl:mO K C) (na:∀f∈ns,dq K C f) (nd:ns.Nodup) (nY:ns.length<=100) :
  bH Pr w K mg base j3 (k+1) f fd ps (WG C ns):=by
 refine Fn.ok Sc (λvs H Q E h=>?_) (λgC A outer s H vs Q E hr h=>?_)
 ·obtain⟨x,dx,args,rfl,IC,_⟩:=h
  rw[cT,IC,hl]
 ·obtain⟨x,dx,args,rfl,IC,hx,q⟩:=h
  refine⟨R5 K 1 ns,vm (X:=(kr j3 Pr w K mg base N qual (au st) f gC A outer s H E).zq) hv _ ns 1 hi,?_⟩;exact vn (N:=N) (D:={nx:=λ_ H'=>Q .non H',rt:=Q}) cl ns [] args [] H na (by simpa using nd) (by simpa using nY) rfl IC rfl (by simpa using hx) (by simpa using q)
def WQ(K:aS)(C:Addr)(n:Str):Sp:=λvs H Q _=>∃x dx p ys,vs=[.ref x,.ref p]/\H x=some (.ins C dx [])/\bW K H p ys/\∀l,H l=none->Q .non (upd (upd H l (.lst ys)) x (.ins C dx [(n,.ref l)]))
noncomputable def p_(st:Stmt):Option (Str×Str×Str):=(AY st).bind λw=>(fB w.2.2).bind λc=>(match c.2.1,c.2.2 with
 |[a],[]=>if c.1=("list" : Str)then(asName a).map λq=>(w.1,w.2.1,q)else none
 |_,_=>none)
theorem rl{st:Stmt}{z:Str×Str×Str}(h:p_ st=some z):∃p0 pf pq pl pc pos,st=.Assign [.Attribute (.Name z.1 p0) z.2.1 pf] (.Call (.Name "list" pl) [.Name z.2.2 pq] [] pc) pos:=by
 obtain⟨w,h1,h2⟩:=ba.mp h;obtain⟨⟨f,as,ks⟩,h3,h4⟩:=ba.mp h2
 match as,ks,h3,h4 with
 |[a],[],h3,h4=>
  dsimp only at h4;split at h4
  ·rename_i e
   obtain⟨q,h5,rfl⟩:=eL.mp h4;obtain⟨p0,pf,pos,rfl⟩:=vj h1;obtain⟨pl,pc,h6⟩:=b9 h3;obtain⟨pq,h7⟩:=a_ h5;rw[h6,h7,e];exact⟨_,_,_,_,_,_,rfl⟩
  ·cases h4
theorem AZ{Pr:Program}{w:World}{K:aS}{mg:Str->D1}{base:Heap}{nm qual s0 q n:Str}{st ym:Stmt}{f C:Addr}{fd:FuncData}{N ps:Bi}{k:Nat}(Fn:rh K nm qual st f fd)(Sc:eV N ps (au st))
  (hb:bF st=[ym]) (h1:p_ ym=some (s0,n,q)) (h0:N[0]?=some s0) (hq:N[1]?=some q) (hv:∀(i:Nat)(x:Str),N[i]?=some x->kI (au st) x/\aQ x/\dZ x) (hm:mg "list" = none) (hg:(au st).names.lookup ("list" : Str)=some .globalImplicit) (hl:ps.length=2) (cl:mO K C) (na:dq K C n) :
  bH Pr w K mg base j3 (k+1) f fd ps (WQ K C n):=by
 obtain⟨p0,pf,pq,pl,pc,pos,rfl⟩:=rl h1;refine Fn.ok Sc (λvs H Q E h=>?_) (λgC A outer s H vs Q E hr h=>?_)
 ·obtain⟨x,dx,p,ys,rfl,_⟩:=h
  exact hl.symm
 ·obtain⟨x,dx,p,ys,rfl,hx,hp,k⟩:=h
  obtain⟨v1,v2,v3⟩:=hv 0 _ h0;obtain⟨w1,w2,w3⟩:=hv 1 _ hq;rw[hb];refine⟨_,kK (sR (bG h0 v1 v2 v3) (du dP (X:=(kr j3 Pr w K mg base N qual (au st) f gC A outer s H E).zq) hg hm wC (az (bG hq w1 w2 w3) aO)) rfl),?_⟩;refine⟨.ref p,rfl,p,ys,rfl,.inl hp,λl hl=>⟨.ref x,rfl,x,C,dx,[],rfl,?_,cl,na,by decide,k l hl⟩⟩
  rw[ak (λe=>by subst e;rw[hl]at hx;cases hx)]
  exact hx
structure WT(P:Pg)(Pr:Program)(w:World)(K:aS)(mg:Str->D1)(base:Heap)(k:Nat)(c:Nat)(x:Str):Prop where
 ex:∃(C fi:Addr)(fd:FuncData)(ps:Bi)(n:Str),f9 (fM P K Pr w) c C [n]/\mg x=some (.ref C)/\Mk K C fi/\bH Pr w K mg base j3 k fi fd ps (WQ K C n)/\Binds K fd ps []
theorem Kw{k j c:Nat}(D:WT P X.prog X.w X.K X.mg X.base k c x)(hr:aX j X.A)(nA:k+1<=j)(ha:PE X e (tE (P.kt X) fa))(hg:Gl X x)(iK:aQ x)(hs:noStar e=true) :
  PE X (.Call (.Name x p) [e] [] pos) (tE (P.kt X) (kN (JL c) fa)):=by
 obtain⟨C,fi,fd,ps,n,hC,hm,M,F,hb⟩:=D.ex;refine aB (pI M F (hr.mono nA) hg hm hb .nil j4 (az ha aO (ai hs)) iK (ai hs) rfl) λσ H Q zz=>?_;obtain⟨g,s,t,s',z,h,k⟩:=zz;obtain⟨⟨tx,s1⟩,h1,h⟩:=aa h;obtain⟨t',h2,h⟩:=aa h;cases h;have h2:=ah h2;cases tx<;>first|(cases h2;done)|skip
 rename_i ts;cases h2;refine⟨g,s,_,_,z,h1,λv g1 H1 p1 x1 r1 x dx nx nd gR=>?_⟩;obtain⟨q,vs,rfl,hq,rr⟩:=r1;have g2:=Gr.new (o:=.own x) x1.sub nd;have Us:upd H1 dx (.own x) x=none:=by rw[ak (Ne.symm gR)];exact nx
 have P5:H1 q=some (.lst vs):=x1.sub _ _ hq;have qd:q≠dx:=λe=>by subst e;rw[nd]at P5;cases P5
 have qx:q≠x:=λe=>by subst e;rw[nx]at P5;cases P5
 refine⟨x,dx,q,vs,rfl,af,bW.of (by rw[ak qx,ak qd];exact P5),λl hl=>⟨rfl,?_⟩⟩
 have lx:l≠x:=λe=>by subst e;rw[af]at hl;cases hl
 have ME:upd H1 dx (.own x) l=none:=by rw[ak lx]at hl;exact hl
 have ld:l≠dx:=λe=>by subst e;rw[af]at ME;cases ME
 have g3:=Gr.new (o:=.lst vs) g2.sub ME;have Y5:upd (upd H1 dx (.own x)) l (.lst vs) x=none:=by rw[ak (Ne.symm lx)];exact Us
 have g4:=Gr.new (o:=.ins C dx [(n,.ref l)]) g3.sub Y5;have e:upd (upd (upd (upd H1 dx (.own x)) x (.ins C dx [])) l (.lst vs)) x (.ins C dx [(n,.ref l)])=upd (upd (upd H1 dx (.own x)) l (.lst vs)) x (.ins C dx [(n,.ref l)]):=by
  funext b
  by_cases hb:b=x
  ·subst hb;rw[af,af]
  ·rw[ak hb,ak hb]
   by_cases hb2:b=l
   ·subst hb2;rw[af,af]
   ·rw[ak hb2,ak hb2,ak hb]
 rw[e];have gr:=(g2.trans g3).trans g4;refine k _ (g1.grow _) _ (p1.trans (x1.dW gr)) (x1.grow gr) ⟨x,C,dx,[n],[.ref l],rfl,hC,af,cC _,?_,.one ⟨l,vs,rfl,?_,rr.same gr.fr⟩⟩
 ·show upd (upd (upd g1.HF dx (.own x)) l (.lst vs)) x _ dx=_
  rw[ak gR,ak (Ne.symm ld),af]
 ·show upd (upd (upd g1.HF dx (.own x)) l (.lst vs)) x _ l=_
  rw[ak lx,af]
theorem vp{K:aS}{t:Value}:∀{cs:B2}{bs:Ee},cs.length=bs.length->(∀(i:Nat)(c:Value)(b:Bool),cs[i]?=some c->bs[i]?=some b->gG K t c=some b)->yD K t cs=some (bs.any id)
 |[],[],_,_=>rfl
 |[],_::_,h,_=>by cases h
 |_::_,[],h,_=>by cases h
 |c::cs,b::bs,hl,h=>by
  have h1:=h 0 c b rfl rfl;have h2:=vp (cs:=cs) (bs:=bs) (by simpa using hl) λi c b e1 e2=>h (i+1) c b (by simpa using e1) (by simpa using e2)
  unfold yD;rw[h1];cases b with
  |true=>rfl
  |false=>exact h2
def namesOf:Bz->Option Bi
 |[]=>some []
 |.Name x _::es=>(namesOf es).map (x::·)
 |_=>none
theorem rm{Ds:BM}:∀{es:Bz}{ys:Bi}{Ds:BM},namesOf es=some ys->ys.length=Ds.length->(∀(i:Nat)(y:Str)(D:Addr),ys[i]?=some y->Ds[i]?=some D->Gl X y/\X.mg y=some (.ref D)/\aQ y)->PA X es (λ_ H Q=>Q (Ds.map V.ref) H)
 |[],_,Ds,h,hl,_=>by
  cases h;cases Ds with
  |nil=>exact aO
  |cons=>cases hl
 |e::es,ys,Ds,h,hl,k=>by
  cases e<;>first|(cases h;done)|skip
  rename_i x px;obtain⟨zs,h1,rfl⟩:=eL.mp (show(namesOf es).map (x::·)=some ys from h)
  cases Ds with
  |nil=>cases hl
  |cons D Ds=>
   obtain⟨k1,k2,k3⟩:=k 0 x D rfl rfl;exact az (kJ (v:=.ref D) k1 k2 rfl k3) (rm (Ds:=Ds) h1 (by simpa using hl) λi y D e1 e2=>k (i+1) y D (by simpa using e1) (by simpa using e2)) rfl
theorem P6(O:kD X.K X.mg P){ds:B1}{ys:Bi}{x1:Nat}{gB:Pos}(WU:namesOf es=some ys)(hd:ys.length=ds.length)(hy:∀(i d:Nat)(y:Str),ds[i]?=some d->ys[i]?=some y->P.cn[d]?=some y/\(P.fn[d]?).isSome=true/\Gl X y/\aQ y)
  (hl:es.length<=100) (hm:X.mg "isinstance" = none) (ha:PE X a (tE (P.kt X) fa)) (hg:Gl X "isinstance") (hs:noStar a=true) :
  PE X (.Call (.Name "isinstance" p) [a,.Tuple es x1 gB] [] pos) (tE (P.kt X) (kN (RZ P.sub ds) fa)):=by
 have cls:∀(ds:B1)(ys:Bi),ys.length=ds.length->(∀(i d:Nat)(y:Str),ds[i]?=some d->ys[i]?=some y->P.cn[d]?=some y/\(P.fn[d]?).isSome=true/\Gl X y/\aQ y)->∃Ds:BM,Ds.length=ds.length/\∀(i:Nat)(y:Str)(D:Addr),ys[i]?=some y->Ds[i]?=some D->X.mg y=some (.ref D):=by
  intro ds
  induction ds with
  |nil=>intro ys hl _;exact⟨[],rfl,λi y D _ h=>by simp at h⟩
  |cons d ds ih=>
   intro ys hl h;cases ys with
   |nil=>cases hl
   |cons y ys=>
    obtain⟨h1,h2,_⟩:=h 0 d y rfl rfl;obtain⟨ns,se⟩:=yF.mp h2;obtain⟨D,F⟩:=O.cls d y ns h1 se;obtain⟨Ds,hD,k⟩:=ih ys (by simpa using hl) λi d y e1 e2=>h (i+1) d y (by simpa using e1) (by simpa using e2)
    refine⟨D::Ds,by simp[hD],λi y' D' e1 e2=>?_⟩
    cases i with
    |zero=>simp at e1 e2;subst e1 e2;exact F.gl
    |succ i=>exact k i y' D' (by simpa using e1) (by simpa using e2)
 obtain⟨Ds,Uy,WW⟩:=cls ds ys hd hy;have get:∀(i:Nat)(y:Str),ys[i]?=some y->∃d,ds[i]?=some d:=λi y h=>by
  have:=(eT.mp h).1
  exact⟨_,eM (by omega)⟩
 have names:=rm (X:=X) (Ds:=Ds) WU (by rw[hd,Uy]) λi y D e1 e2=>by
  obtain⟨d,e3⟩:=get i y e1;obtain⟨_,_,h3,h4⟩:=hy i d y e3 e1;exact⟨h3,WW i y D e1 e2,h4⟩
 refine aB (cW AX hg hm zj (az ha (az (zI names) aO rfl) (ai hs)) (he:=ai hs) (hpl:=rfl)) λσ H Q zz=>?_;obtain⟨g,s,t,s',x,h,k⟩:=zz;obtain⟨⟨tx,s1⟩,h1,h⟩:=aa h;obtain⟨t',h2,h⟩:=aa h;cases h;refine⟨g,s,_,_,x,h1,λv g1 H1 p1 x1 r1=>?_⟩;have h2:=ah h2;cases tx<;>first|(cases h2;done)|skip
 obtain⟨l,IC,rfl⟩:=eL.mp h2;obtain⟨b,C,dx,yi,vs,rfl,hC,hq,hle,YT,r⟩:=r1;obtain⟨m,Uq,Ur,F⟩:=O.of hC;have cM:ys.length=es.length:=by
  have:∀(es:Bz)(ys:Bi),namesOf es=some ys->ys.length=es.length:=by
   intro es
   induction es with
   |nil=>intro ys h;cases h;rfl
   |cons e es ih=>
    intro ys h;cases e<;>first|(cases h;done)|skip
    rename_i x px;obtain⟨zs,h1,rfl⟩:=eL.mp (show(namesOf es).map (x::·)=some ys from h)
    rw[cT,cT,ih zs h1]
  exact this es ys WU
 refine⟨by rw[dB,Uy,<- hd,cM,sizeLine_eq];omega,λtp Uz=>?_⟩
 have g2:=Gr.new (o:=.tup (Ds.map V.ref)) x1.sub Uz;have Ec:=vp (K:=X.K) (t:=.ref C) (cs:=Ds.map Value.ref) (bs:=ds.map λd=>decide (d∈l)) (by rw[dB,dB,Uy]) λi c bb e1 e2=>by
  rw[fk]at e1 e2;obtain⟨D,e3,rfl⟩:=eL.mp e1;obtain⟨d,e4,rfl⟩:=eL.mp e2;have hi:i<ys.length:=by rw[hd];exact(eT.mp e4).1
  have e5:ys[i]?=some ys[i]:=eM hi;obtain⟨f1,_⟩:=hy i d _ e4 e5;exact O.sub _ d m _ C D l Uq f1 F.gl (WW i _ D e5 e3) IC
 refine⟨b,C,dx,tp,_,Ds,_,rfl,g2.sub _ _ (g2.fr _ _ hq),F.cl,F.ca,O.gt.1,O.gt.2,F.mo,af,Ec,?_⟩
 have:=k (V.bl (ds.any λd=>decide (d∈l))) (g1.grow _) _ (p1.trans (x1.dW g2)) (x1.grow g2) rfl
 rw[GC];exact this
def HJ(u v:B1):T->FK
 |.str l=>gd (l.length<=100000) (.str (u++l++v))
 |_=>none
theorem Kz{k1 k2:Nat}{x y:Str}{p1 p2 p3:Pos}(hB:B.K=X.K)(ha:PE X a (tE B fa))(hl:x.length<=1000)(hm:y.length<=1000) :
  PE X (.JoinedStr [.Constant (.str x) k1 p1,.FormattedValue a (-1) none p2,.Constant (.str y) k2 p3] pos) (tE B (kN (HJ x.cps.toList y.cps.toList) fa)):=by
 obtain⟨⟨u⟩⟩:=x;obtain⟨⟨v⟩⟩:=y;have hl:u.length<=1000:=by rw[<- cU u];exact hl
 have hm:v.length<=1000:=by rw[<- cU v];exact hm
 refine aB (D9 ha (by show(⟨u.toArray⟩:Str).length<=_;rw[cU,sizeLine_eq];omega)) (Ai hB λB hB al HF H x t tx Q sm rx h k=>?_)
 cases tx<;>first|(cases h;done)|skip
 rename_i n;obtain⟨z,rfl⟩:=aL h;obtain⟨rfl,hz⟩:=rx;refine⟨_,rfl,by show(⟨u.toArray⟩:Str).length+_+(⟨v.toArray⟩:Str).length<=_;rw[cU,cU,cU,sizeLine_eq];omega,k _ HF H (.refl sm) ⟨?_,by rw[gH,gH];show u.length+_+v.length<=_;omega⟩⟩
 show V.str _=V.str _
 congr 1
 show(⟨(((#[]:Array Nat)++u.toArray)++n.toArray)++v.toArray⟩:Str)=⟨(u++n++v).toArray⟩
 congr 1
 simp
theorem Ed(hB:B.K=X.K){px:Pos}(hN:X.N[i]?=some y)(hv:kI X.env.scope y)(hd:aQ y)(eO:dZ y)(hg:Gl X "len")(hm:X.mg "len" = none) :
  PE X (.Call (.Name "len" p) [.Name y px] [] pos) (tE B (Hn i)):=by
 refine aB (cW jd hg hm PySem.boot_len (az (bG hN hv hd eO) aO rfl) (he:=rfl) (hpl:=rfl)) λσ H Q zz=>?_;obtain⟨g,s,t,s',x,h,k⟩:=zz;obtain⟨ts,h1,h⟩:=aa h;cases h;obtain⟨l,vs,w1,w2,w3,w4⟩:=x.lY (dC (ah h1));exact⟨_,w1,_,_,rfl,.inl ⟨vs,bW.of w3,w4.len⟩,k _ g H .refl x rfl⟩
theorem KA{px:Pos}(hN:X.N[i]?=some y)(hv:kI X.env.scope y)(hd:aQ y)(eO:dZ y)(hb:PE X b (tE B fb))(hs:ig b) :
  PE X (.Subscript (.Name y px) b pos) (tE B (OM i fb)):=by
 refine aB (Hb uJ (bG hN hv hd eO) hb hs) λσ H Q zz=>?_;obtain⟨g,s,t,s',x,h,k⟩:=zz;obtain⟨us,h0,h⟩:=aa h;obtain⟨⟨ty,s1⟩,h1,h⟩:=aa h;obtain⟨ts,h2,h⟩:=aa h;obtain⟨t',h3,h⟩:=aa h;cases h;obtain⟨l,vs,w1,w2,w3,w4⟩:=x.lY (dC (ah h0));refine⟨_,w1,g,s,ty,_,x,h1,λv g1 H1 p1 x1 r1=>?_⟩;obtain⟨l',dX,q1,q2,q3,q4⟩:=x1.lY (dC (ah h2));rw[w1]at q1;cases q1;have h3:=ah h3;cases ty<;>first|(cases h3;done)|skip
 obtain⟨w,e,qF⟩:=pV q4 (show atT ts _=some _ from h3);exact⟨l,dX,_,w,rfl,r1,bW.of q3,e,k w g1 H1 p1 x1 qF⟩
def gu:T->T->FK
 |.int i,.int j=>some (.int (i+j))
 |_,_=>none
theorem P7(hN:X.N.Nodup)(hi:X.N[i]?=some x)(hx:Loc X.env.scope x)(he:PE X e (tE B fa))(hf:X.fn x=true\/X.env.scope.names.lookup x=some .local) :
  PS X (.AugAssign (.Name x bM) .Add e pos) (tS B (JM gu i fa)):=bQ (IU hN hi hx he IV hf) λD σ H zz=>by
 obtain⟨g,s,o,s',z,h,k⟩:=zz;unfold JM at h;split at h
 ·rename_i tx hr
  obtain⟨⟨ty,s1⟩,h1,h⟩:=aa h;obtain⟨t,h2,h⟩:=aa h;cases h;obtain⟨v,hv,rv⟩:=z.lc.at_ i _ hr;have h2:=ah h2;cases tx<;>first|(cases h2;done)|(cases ty<;>first|(cases h2;done)|skip)
  cases h2;cases(show v=V.int _ from rv);refine⟨_,hv,g,s,_,s1,z,h1,λw g1 H1 p1 x1 r1=>?_⟩;cases(show w=V.int _ from r1);exact⟨_,_,rfl,rfl,k _ g1 H1 p1 (x1.set (t:=.int _) rfl)⟩
 ·cases h
def vq(K:aS)(mg:Str->D1)(x:Str)(t:T):Prop:=∃u v,mg x=some u/\RelV v u/\∀(B:KT)(al:BM)(H:Hp),B.K=K->Rep B al H t v
theorem P8{t:T}(h:vq X.K X.mg x t)(hB:B.K=X.K)(hg:Gl X x)(hd:aQ x):PE X (.Name x pos) (tE B (cF t)):=by
 obtain⟨u,v,h1,h2,h3⟩:=h;exact ik (kJ hg h1 h2 hd) λal H=>h3 B al H hB
theorem P9{body:DD}{h0:ExceptHandler}{hs:List ExceptHandler}{t:TS}(A0:X.xe=λ_ _=>False)(h:fm X body t):PS X (.Try body (h0::hs) [] [] pos) t:=λae s σ H D I q=>by
 refine wpAny_Try_except (wpAny_mono (h ae s σ H D I q) (λf s1 z=>?_) λe s1 z=>?_)
 ·cases f with
  |next=>exact wpAny_execs_nil z
  |brk=>exact z
  |cont=>exact z
  |ret u=>exact z
 ·rw[A0]at z;exact z.elim
end
def Ef(neg:Bool):T->T->FK
 |x,.c8 ks _=>(pR x).map λk=>.bl (if neg then !decide (k∈ks)else decide (k∈ks))
 |_,_=>none
def bx(op:CmpOp)(x y:T):FK:=match op,y with
 |.In,.c8 ks vs=>Ef false x (.c8 ks vs)
 |.NotIn,.c8 ks vs=>Ef true x (.c8 ks vs)
 |op,y=>DU op x y
def MU:Option (Option C)->Option (List Ky×Fs)
 |some (some (.od ks ts))=>some (ks,ts)
 |_=>none
def j8:CmpOp->Option Bool
 |.In=>some false
 |.NotIn=>some true
 |_=>none
def P_(neg:Bool)(i:Nat)(a:FE):FE:=λs=>(a s).bind λp=>(aT (MU p.2.r[i]?)).bind λd=>(aT (pR p.1)).bind λk=>.ok (.bl (if neg then !decide (k∈d.1)else decide (k∈d.1)),p.2)
def UA(i:Nat)(s:S):Bool:=(MU s.r[i]?).isSome
def HK(neg:Bool)(i:Nat)(a:FE):FE:=λs=>(a s).bind λp=>(aT (jO p.2.r[i]?)).bind λts=>(aT (JG p.1 (.lst ts))).bind λb=>.ok (.bl (if neg then !b else b),p.2)
def KC(i:Nat)(s:S):Bool:=(jO s.r[i]?).isSome
def MV(op:CmpOp)(neg:Bool)(i:Nat)(a:FE):FE:=λs=>if UA i s then P_ neg i a s else if KC i s then HK neg i a s else dD (bx op) a (vF i) s
def vt(i:Nat):FS:=λs=>.ok (.nx,i7 s i (.od [] []))
def j9(ks:List Ky)(ts:Fs)(k:Ky)(t:T):List Ky×Fs:=if k∈ks then(ks,(ks.zip ts).map λp=>if p.1=k then t else p.2)else(ks++[k],ts++[t])
def HL(i:Nat)(b a:FE):FS:=λs=>(a s).bind λp=>(b p.2).bind λq=>(aT (MU p.2.r[i]?)).bind λ_=>(aT (MU q.2.r[i]?)).bind λd=>(aT (pR q.1)).bind λk=>(aT (gd (d.1.length<1000000) ())).bind λ_=>.ok (.nx,i7 q.2 i (let z:=j9 d.1 d.2 k p.1;.od z.1 z.2))
def Eg:B1->B1->B1:=Pf.jh
def A1:T->FK
 |.str l=>gd (l.all (· < 128)=true/\l.length<=4000) (.int ((Eg [] l).length:Nat))
 |_=>none
section
variable{f6 p1:Pos}{al:BM}
theorem qa{a b:Ky}(h:iR a=iR b):a=b:=by
 cases a<;>cases b
 ·injection h with h;rw[h]
 ·cases h
 ·cases h
 ·injection h with h
  injection h with h
  have h:=congrArg Array.toList h;dsimp only at h;rw[h]
theorem eZ{t:T}{v:V}{k:Ky}(h:pR t=some k)(r:Rep B al H t v):v=kV (iR k):=by
 cases t<;>first|(cases h;done)|skip
 ·cases h;exact r
 ·cases h;exact r.1
theorem mf:∀{ks:List Ky}{vs:List V},ks.length=vs.length->∀k,(iL ((ks.map iR).zip vs) (iR k)).isSome=decide (k∈ks)
 |[],_,_,k=>by simp[iL]
 |q::ks,[],h,_=>by cases h
 |q::ks,v::vs,h,k=>by
  rw[dY,k7];by_cases e:q=k
  ·rw[gS (p:=(iR q,v)) (by rw[e])]
   simp[e]
  ·rw[gT (p:=(iR q,v)) (λz=>e (qa z)),mf (uB.inj h) k]
   have:(k∈q::ks) ↔ (k∈ks):=⟨λz=>(cH.mp z).elim (λz=>absurd z.symm e) id,dm _⟩
   simp only[this]
theorem vv{k:Ky}{v:V}{t:T}(rt:Rep B al H t v):∀{ks:List Ky}{vs:List V}{ts:Fs},ks.length=vs.length->aq B al H ts vs ->
  ((ks.map iR).zip vs).map (λkv=>if kv.1=iR k then(kv.1,v)else kv)=(ks.map iR).zip ((ks.zip vs).map λp=>if p.1=k then v else p.2)/\ks.length=((ks.zip vs).map λp=>if p.1=k then v else p.2).length/\aq B al H ((ks.zip ts).map λp=>if p.1=k then t else p.2) ((ks.zip vs).map λp=>if p.1=k then v else p.2)
 |[],[],_,_,r=>⟨rfl,rfl,by cases ‹Fs›<;>exact rfl⟩
 |q::ks,[],_,h,_=>by cases h
 |[],_::_,_,h,_=>by cases h
 |q::ks,u::vs,ts,h,r=>by
  cases ts with
  |nil=>cases(show u::vs=[]from r)
  |cons t' ts=>
   obtain⟨u',dX,e,ru,rs⟩:=r;cases e;obtain⟨h1,h2,h3⟩:=vv rt (ks:=ks) (vs:=vs) (ts:=ts) (uB.inj h) rs;refine⟨?_,?_,?_⟩
   ·simp only[dY,k7]at h1 ⊢
    rw[h1];by_cases e:q=k
    ·rw[if_pos (by rw[e]),if_pos e]
    ·rw[if_neg (λz=>e (qa z)),if_neg e]
   ·simp only[k7,dY,cT]
    rw[<- h2]
   ·simp only[k7,dY]
    refine⟨_,_,rfl,?_,h3⟩;by_cases e:q=k
    ·rw[if_pos e,if_pos e];exact rt
    ·rw[if_neg e,if_neg e];exact ru
theorem A2{ks:List Ky}{ts:Fs}{vs:List V}{k:Ky}{t:T}{v:V}(hl:ks.length=vs.length)(r:aq B al H ts vs)(rt:Rep B al H t v) :
  ∃dX,L2.putK ((ks.map iR).zip vs) (iR k) v=((j9 ks ts k t).1.map iR).zip dX/\(j9 ks ts k t).1.length=dX.length/\aq B al H (j9 ks ts k t).2 dX:=by
 unfold L2.putK j9;rw[lF,mf hl];by_cases e:k∈ks
 ·rw[if_pos (decide_eq_true e),if_pos e]
  obtain⟨h1,h2,h3⟩:=vv (k:=k) rt hl r;exact⟨_,h1,h2,h3⟩
 ·rw[if_neg (by simpa using e),if_neg e]
  refine⟨vs++[v],?_,by simp[hl],r.app (.one rt)⟩
  rw[jI,List.zip_append (by rw[dB];exact hl)]
  rfl
def KD(neg:Bool):R2:=λx y H Q=>∃a o,y=.ref a/\nk H a x o/\Q (.bl (if neg then !o.isSome else o.isSome)) H
theorem A3(hu:X.A.units+1<cLine):eQ X (compareOp .In) (KD false):=λae s σ H x y v u Q I rx ry z=>by
 obtain⟨a,o,ey,g,q⟩:=z;subst ey
 obtain rfl:u=Value.ref a:=ry
 exact Tn hu I g rx λs3 I3=>⟨.bl o.isSome,H,I3,rfl,q⟩
theorem vz(hu:X.A.units+1<cLine):eQ X (compareOp .NotIn) (KD true):=λae s σ H x y v u Q I rx ry z=>by
 obtain⟨a,o,ey,g,q⟩:=z;subst ey
 obtain rfl:u=Value.ref a:=ry
 exact DE hu I g rx λs3 I3=>⟨.bl (!o.isSome),H,I3,rfl,q⟩
theorem HM(neg:Bool):nz X (Ef neg) (KD neg):=λB hB al HF H x y t tx ty Q sm rx ry h k=>by
 unfold Ef at h;split at h
 case h_2=>cases h
 rename_i ks ts;obtain⟨kk,h1,rfl⟩:=eL.mp h;obtain⟨a,vs,rfl,h2,h3,h4⟩:=ry;rw[eZ h1 rx];refine⟨a,_,rfl,.k (sm _ _ h2),?_⟩;rw[mf h3];exact k _ HF H (.refl sm) rfl
theorem kT{op:CmpOp}{k:Nat}(hr:aX k X.A):∃r,eQ X (compareOp op) r/\nz X (bx op) r:=by
 have hu:X.A.units+1<cLine:=by have:=hr.units;omega
 obtain⟨r,h1,h2⟩:=JX (op:=op) hr;have UB:(∀x y,bx op x y=DU op x y)->∃r,eQ X (compareOp op) r/\nz X (bx op) r:=λz=>⟨r,h1,by
  have:bx op=DU op:=funext λx=>funext λy=>z x y
  rw[this];exact h2⟩
 cases op
 case In=>exact⟨_,h1.or (A3 hu),λB hB al HF H x y t tx ty Q sm rx ry h k=>by
  unfold bx at h;split at h
  ·exact .inr (HM false B hB al HF H x y t tx _ Q sm rx ry h k)
  ·rename_i q;cases q
  ·exact .inl (h2 B hB al HF H x y t tx _ Q sm rx ry h k)⟩
 case NotIn=>exact⟨_,h1.or (vz hu),λB hB al HF H x y t tx ty Q sm rx ry h k=>by
  unfold bx at h;split at h
  ·rename_i q;cases q
  ·exact .inr (HM true B hB al HF H x y t tx _ Q sm rx ry h k)
  ·exact .inl (h2 B hB al HF H x y t tx _ Q sm rx ry h k)⟩
 all_goals exact UB λx y=>by cases y<;>rfl
theorem KG{op:CmpOp}{k:Nat}(hB:B.K=X.K)(hr:aX k X.A)(ha:PE X a (tE B fa))(hb:PE X b (tE B fb))(hm:behindInMarks op b=false):PE X (.Compare a [op] [b] pos) (tE B (dD (bx op) fa fb)):=by
 obtain⟨r,ho,hl⟩:=kT (op:=op) hr;exact aB (jb ho ha hb hm) (h_ hB hl)
theorem Eh{op:CmpOp}{k:Nat}(hB:B.K=X.K)(hr:aX k X.A)(ha:PE X a (tE B fa))(hb:PE X b (tE B fb))(hm:behindInMarks op b=false):PT X (.Compare a [op] [b] pos) (tT B (dF (dD (bx op) fa fb))):=by
 obtain⟨r,ho,hl⟩:=kT (op:=op) hr;exact uT (jc ho ha hb hm) λσ H Q q=>h_ hB hl σ H _ (Az q)
theorem qb{q:Option (Option C)}{d:List Ky×Fs}(h:MU q=some d):q=some (some (.od d.1 d.2)):=by
 unfold MU at h;split at h
 ·cases h;rfl
 ·cases h
theorem SR.KI(x:SR B g H σ s){ks:List Ky}{ts:Fs}(h:s.r[i]?=some (some (.od ks ts))):∃l vs,σ[i]?=some (some (.ref l))/\g.o l=some (.loc i)/\H l=some (.dK ((ks.map iR).zip vs))/\ks.length=vs.length/\aq B g.al g.HF ts vs:=by
 obtain⟨v,h1,l,vs,rfl,h2,h3,h4,h5⟩:=x.lc.at_ i _ h;exact⟨l,vs,h1,h2,h3,h4,h5⟩
theorem A4{neg:Bool}:∀σ H Q,tE B (P_ neg i fa) σ H Q->zA (KD neg) (tE B fa) (sJ i) σ H Q:=by
 rintro σ H Q ⟨g,s,t,s',x,h,k⟩
 obtain⟨⟨tx,s1⟩,h1,h⟩:=aa h;obtain⟨d,h2,h⟩:=aa h;obtain⟨kk,h3,h⟩:=aa h;cases h;refine⟨g,s,tx,_,x,h1,λv g1 H1 p1 x1 r1=>?_⟩;obtain⟨l,vs,w1,w2,w3,w4,w5⟩:=x1.KI (qb (ah h2));refine⟨_,w1,?_⟩;rw[eZ (ah h3) r1];refine⟨l,_,rfl,.k w3,?_⟩;rw[mf w4];exact k _ g1 H1 p1 x1 rfl
theorem jx{op:CmpOp}{neg:Bool}(hu:X.A.units+1<cLine)(h:j8 op=some neg):eQ X (compareOp op) (KD neg):=by
 cases op<;>first|(cases h;done)|skip
 ·cases h;exact A3 hu
 ·cases h;exact vz hu
theorem vA{neg:Bool}(hB:B.K=X.K):∀σ H Q,tE B (HK neg i fa) σ H Q->zA (qU X.K neg) (tE B fa) (sJ i) σ H Q:=by
 rintro σ H Q ⟨g,s,t,s',x,h,k⟩
 obtain⟨⟨tx,s1⟩,h1,h⟩:=aa h;obtain⟨ts,h2,h⟩:=aa h;obtain⟨b,h3,h⟩:=aa h;cases h;refine⟨g,s,tx,_,x,h1,λv g1 H1 p1 x1 r1=>?_⟩;obtain⟨l,vs,w1,w2,w3,w4⟩:=x1.lY (dC (ah h2));have hf:=(x1.st.live l _ w2).1;refine⟨_,w1,Ay (HF:=upd g1.HF l (.lst vs)) (ty:=.lst ts) hB (λb u e=>?_) (r1.mv cA (aF hf)) ⟨l,vs,rfl,af,w4.mv cA (aF hf)⟩ (ah h3) (k _ g1 H1 p1 x1 rfl)⟩;by_cases hb:b=l
 ·subst hb;rw[af]at e;cases e;exact w3
 ·rw[ak hb]at e;exact x1.sub _ _ e
theorem ou{op:CmpOp}{neg:Bool}(h:j8 op=some neg):eQ X (compareOp op) (qU X.K neg):=by
 cases op<;>first|(cases h;done)|skip
 ·cases h;exact Ax
 ·cases h;exact uY
theorem Qa{op:CmpOp}{neg:Bool}{k:Nat}{py:Pos}(hB:B.K=X.K)(hr:aX k X.A)(hn:j8 op=some neg)(ha:PE X a (tE B fa))(hN:X.N[i]?=some y)(hv:kI X.env.scope y)(hd:aQ y)(eO:dZ y) :
  PE X (.Compare a [op] [.Name y py] pos) (tE B (MV op neg i fa)):=by
 have hu:X.A.units+1<cLine:=by have:=hr.units;omega
 obtain⟨r,ho,hl⟩:=kT (op:=op) hr;have hm:behindInMarks op (.Name y py)=false:=by cases op<;>rfl
 refine AO (ι:=Option Bool) (C:=λ_=>True) (t:=λq=>match q with|some true=>zA (KD neg) (tE B fa) (sJ i)|none=>zA (qU X.K neg) (tE B fa) (sJ i)|some false=>zA r (tE B fa) (tE B (vF i))) (λq _=>?_) λσ H Q ⟨g,s,t,s',x,h,kk⟩=>?_
 ·match q with
  |some true=>exact jb (jx hu hn) ha (bG hN hv hd eO) hm
  |none=>exact jb (ou hn) ha (bG hN hv hd eO) hm
  |some false=>exact jb ho ha (Ah hN hv hd eO) hm
 ·unfold MV at h
  split at h
  ·exact⟨some true,trivial,A4 σ H Q ⟨g,s,t,s',x,h,kk⟩⟩
  ·split at h
   ·exact⟨none,trivial,vA hB σ H Q ⟨g,s,t,s',x,h,kk⟩⟩
   ·exact⟨some false,trivial,h_ hB hl σ H Q ⟨g,s,t,s',x,h,kk⟩⟩
theorem KJ{op:CmpOp}{neg:Bool}{k:Nat}{py:Pos}(hB:B.K=X.K)(hr:aX k X.A)(hn:j8 op=some neg)(ha:PE X a (tE B fa))(hN:X.N[i]?=some y)(hv:kI X.env.scope y)(hd:aQ y)(eO:dZ y) :
  PT X (.Compare a [op] [.Name y py] pos) (tT B (dF (MV op neg i fa))):=by
 have hu:X.A.units+1<cLine:=by have:=hr.units;omega
 obtain⟨r,ho,hl⟩:=kT (op:=op) hr;have hm:behindInMarks op (.Name y py)=false:=by cases op<;>rfl
 have h1:=jc (pos:=pos) ho ha (Ah (B:=B) hN hv hd eO) hm;have h2:=jc (pos:=pos) (jx hu hn) ha (bG hN hv hd eO) hm;have h3:=jc (pos:=pos) (ou hn) ha (bG hN hv hd eO) hm;intro ae s0 σ H Q I q;obtain⟨g,s,t,s',x,h,kk⟩:=Az q;unfold MV at h;split at h
 ·exact h2 ae s0 σ H Q I (A4 σ H _ ⟨g,s,t,s',x,h,kk⟩)
 ·split at h
  ·exact h3 ae s0 σ H Q I (vA hB σ H _ ⟨g,s,t,s',x,h,kk⟩)
  ·exact h1 ae s0 σ H Q I (h_ hB hl σ H _ ⟨g,s,t,s',x,h,kk⟩)
theorem A5(hc:X.calm=true)(Ot:X.mg "len" = none)(Tr:X.mg "set" = none)(ha:PE X a (tE B fa))(Ou:Gl X "len")(Tt:Gl X "set")(hs:noStar a=true) :
  PE X (.Call (.Name "len" p) [.Call (.Name "set" p1) [a] [] f6] [] pos) (tE B (kN A1 fa)):=by
 refine aB (xw hc Ot Tr ha Ou Tt (ai hs) rfl rfl rfl) λσ H Q zz=>?_;obtain⟨g,s,t,s',x,h,k⟩:=zz;obtain⟨⟨tx,s1⟩,h1,h⟩:=aa h;obtain⟨t',h2,h⟩:=aa h;cases h;have h2:=ah h2;cases tx<;>first|(cases h2;done)|skip
 obtain⟨z,rfl⟩:=aL h2;refine⟨g,s,_,_,x,h1,λv g1 H1 p1 x1 r1=>?_⟩;obtain⟨rfl,hz⟩:=r1;refine⟨_,rfl,?_,?_,k _ g1 H1 p1 x1 rfl⟩
 ·rw[List.all_toArray];exact z.1
 ·rw[eU]
  show _+1<4096
  have:=z.2
  omega
theorem KL{dp:Pos}(hN:X.N.Nodup)(hi:X.N[i]?=some x)(hx:Loc X.env.scope x)(hf:X.fn x=true\/X.env.scope.names.lookup x=some .local) :
  PS X (.Assign [.Name x bM] (.Dict [] [] dp) pos) (tS B (vt i)):=bQ (iJ hN hi hx lJ rfl hf) λD σ H z=>by
 obtain⟨g,s,o,s',x,h,k⟩:=z;cases h;intro q hq;obtain⟨gr,n1,n2⟩:=iz (u:=.dK []) x hq;have x1:=x.grow gr;have p1:=x.dW gr;refine k _ ((g.grow g.HF).own q (.loc i)) _ ⟨p1.fr,p1.pre,λb u h n z=>?_,p1.there⟩ (x1.TV (ks:=[]) (ts:=[]) (vs:=[]) n2 n1 af rfl rfl);obtain⟨a,b',c⟩:=p1.rest b u h n z
 have:b≠q:=aC h hq
 exact⟨a,b',by show(if b=q then some (hU.loc i)else g.o b)=none;rw[if_neg this];exact c⟩
theorem KN{py:Pos}{k:Nat}(hr:aX k X.A)(he:PE X e (tE B fa))(hb:PE X b (tE B fb))(hN:X.N[i]?=some y)(hv:kI X.env.scope y)(hd:aQ y)(eO:dZ y)
  (hs:swapsWith e (some (.Subscript (.Name y py) b bM)) pos.line X.env=pure false) :
  PS X (.Assign [.Subscript (.Name y py) b bM] e pos) (tS B (HL i fb fa)):=by
 have hu:X.A.units+1<cLine:=by have:=hr.units;omega
 refine bQ (uP hu (bG hN hv hd eO) hb he hs) λD σ H zz=>?_;obtain⟨g,s,o,s',x,h,k⟩:=zz;obtain⟨⟨t,s1⟩,h1,h⟩:=aa h;obtain⟨⟨tk,s2⟩,h2,h⟩:=aa h;obtain⟨d0,h3,h⟩:=aa h;obtain⟨d,h4,h⟩:=aa h;obtain⟨kk,h5,h⟩:=aa h;obtain⟨_,h6,h⟩:=aa h;obtain⟨z,_⟩:=aL (ah h6);cases h;refine⟨g,s,t,s1,x,h1,λv g1 H1 p1 x1 r1=>?_⟩;obtain⟨l,vs,w1,w2,w3,w4,w5⟩:=x1.KI (qb (ah h3));refine⟨_,w1,g1,s1,tk,s2,x1,h2,λu g2 H2 p2 x2 r2=>?_⟩;have ho:=qb (ah h4);obtain⟨l',dX,q1,q2,q3,q4,q5⟩:=x2.KI ho;rw[w1]at q1;cases q1;obtain⟨Qc,e1,e2,e3⟩:=A2 (k:=kk) q4 q5 (r1.mv p2.pre p2.fr);obtain⟨x3,p3⟩:=x2.TX ho w1 e2 e3;rw[eZ (ah h5) r2];refine⟨l,_,rfl,.k q3 ?_,?_⟩
 ·rw[CU,dB,sizeLine_eq]
  have:d.1.length<1000000:=z
  omega
 ·rw[e1]
  exact k σ g2 _ ((p1.trans p2).trans p3) x3
end
def rn(n:Nat)(m:FR):T->Option (Nat×C)
 |.own k=>(m[k]?).bind λob=>(match ob.fs with
  |[c]=>if ob.c=n then some (k,c)else none
  |_=>none)
 |_=>none
def UC:C->Fm
 |.ol ts=>some ts
 |_=>none
def UD:C->Option (List Ky×Fs)
 |.od ks ts=>some (ks,ts)
 |_=>none
def kF(n:Nat)(m:FR)(t:T):Option (Nat×Fs):=(rn n m t).bind λz=>(UC z.2).map λts=>(z.1,ts)
def nC(n:Nat)(m:FR)(t:T):Option (Nat×List Ky×Fs):=(rn n m t).bind λz=>(UD z.2).map λd=>(z.1,d.1,d.2)
def setB(n:Nat)(s:S)(k:Nat)(c:C):S:={s with m:=s.m.set k ⟨n,[c]⟩}
def nE(n:Nat):FE:=λs=>.ok (.own s.m.length,{s with m:=s.m++[⟨n,[.od [] []]⟩]})
def eA(n:Nat)(o a:FE):FS:=λs=>(o s).bind λp=>(aT (kF n p.2.m p.1)).bind λ_=>(a p.2).bind λq=>(aT (kF n q.2.m p.1)).bind λz=>(aT (gd (z.2.length<1000000) ())).bind λ_=>.ok (.nx,setB n q.2 z.1 (.ol (z.2++[q.1])))
def Qd(n:Nat)(o b a:FE):FS:=λs=>(a s).bind λv=>(o v.2).bind λp=>(b p.2).bind λq=>(aT (nC n q.2.m p.1)).bind λz=>(aT (pR q.1)).bind λk=>(aT (gd (z.2.1.length<1000000) ())).bind λ_=>.ok (.nx,setB n q.2 z.1 (let y:=j9 z.2.1 z.2.2 k v.1;.od y.1 y.2))
def Ei(n:Nat)(neg:Bool)(a o:FE):FE:=λs=>(a s).bind λp=>(o p.2).bind λq=>(aT (nC n q.2.m q.1)).bind λz=>(aT (pR p.1)).bind λk=>.ok (.bl (if neg then !decide (k∈z.2.1)else decide (k∈z.2.1)),q.2)
def Qe(n:Nat)(o b:FE):FE:=λs=>(o s).bind λp=>(b p.2).bind λq=>(aT (nC n q.2.m p.1)).bind λz=>(aT (pR q.1)).bind λk=>(aT (nq z.2.1 z.2.2 k)).bind λt=>.ok (t,q.2)
def KO(n:Nat)(o b d:FE):FE:=λs=>(o s).bind λp=>(aT (nC n p.2.m p.1)).bind λ_=>(b p.2).bind λq=>(d q.2).bind λw=>(aT (nC n w.2.m p.1)).bind λz=>(aT (pR q.1)).bind λk=>.ok ((nq z.2.1 z.2.2 k).getD w.1,w.2)
section
variable{f:Expr}{H1:Hp}{g1:G}{n:Nat}
theorem mh{m:FR}{t:T}{z:Nat×C}(h:rn n m t=some z):t=.own z.1/\m[z.1]?=some ⟨n,[z.2]⟩:=by
 cases t<;>first|(cases h;done)|skip
 obtain⟨ob,h1,h⟩:=ba.mp (show(m[_]?).bind _=some z from h);obtain⟨d,fs⟩:=ob
 match fs,h,h1 with
 |[c],h,h1=>
  dsimp only at h;split at h
  ·rename_i q;cases h;subst q;exact⟨rfl,h1⟩
  ·cases h
theorem eB{m:FR}{t:T}{z:Nat×Fs}(h:kF n m t=some z):t=.own z.1/\m[z.1]?=some ⟨n,[.ol z.2]⟩:=by
 obtain⟨w,h1,h2⟩:=ba.mp h;obtain⟨ts,h3,rfl⟩:=eL.mp h2;obtain⟨e1,e2⟩:=mh h1;obtain⟨k,c⟩:=w;cases c<;>first|(cases h3;done)|skip
 cases h3;exact⟨e1,e2⟩
theorem eE{m:FR}{t:T}{z:Nat×List Ky×Fs}(h:nC n m t=some z):t=.own z.1/\m[z.1]?=some ⟨n,[.od z.2.1 z.2.2]⟩:=by
 obtain⟨w,h1,h2⟩:=ba.mp h;obtain⟨d,h3,rfl⟩:=eL.mp h2;obtain⟨e1,e2⟩:=mh h1;obtain⟨k,c⟩:=w;cases c<;>first|(cases h3;done)|skip
 cases h3;exact⟨e1,e2⟩
theorem SR.iW(x:SR B g H σ s)(hc:B.cn[n]?=none){c:C}(hm:s.m[k]?=some ⟨n,[c]⟩){l:Addr}(ha:g.al[k]?=some l):OQ B g H k ⟨n,[c]⟩ l/\aM B g H (.ob k) c (.ref l):=by
 rcases x.st.at_ k _ hm with⟨a',C,dx,ns,vs,Z⟩|⟨a',Z⟩
 ·obtain⟨m,q,_⟩:=Z.cl
  rw[hc]at q;cases q
 ·have:=Z.al.symm.trans ha
  cases this;exact⟨Z,Z.f c rfl⟩
theorem SR.rq{l:Addr}{c:C}(x:SR B g H σ s)(hc:B.cn[n]?=none)(hf:B.fn[n]?=none)(n1:g.HF l=none)(n2:g.o l=none){u:HO}(hl:H l=some u)(r:aM B (g.cZ l) H (.ob g.al.length) c (.ref l)):SR B (g.cZ l) H σ {s with m:=s.m++[⟨n,[c]⟩]}:=by
 have ho:∀b p',g.o b=some p'->(g.cZ l).o b=some p':=λb p' h=>by
  show(if b=l then some (hU.ob g.al.length)else g.o b)=_
  rw[if_neg λz=>by rw[z,n2]at h;cases h];exact h
 have pre:g.al <+: (g.cZ l).al:=CV _ _;refine⟨⟨x.sub,λb p' e=>?_,?_,λk ob e=>?_⟩,x.lc.len,λi c' e=>?_⟩
 ·have e:(if b=l then some (hU.ob g.al.length)else g.o b)=some p':=e
  by_cases hb:b=l
  ·subst hb;exact⟨n1,_,hl⟩
  ·rw[if_neg hb]at e;exact x.st.live b p' e
 ·show(s.m++[_]).length=(g.al++[l]).length
  rw[gH,gH,x.st.len];rfl
 ·have e:(s.m++[(⟨n,[c]⟩:Ob)])[k]?=some ob:=e
  by_cases hk:k<s.m.length
  ·rw[gI hk]at e
   exact(x.st.at_ k ob e).mv (aA.refl _) pre λb p' h _=>⟨ho b p' h,rfl⟩
  ·rw[fj (by omega)]at e
   have Ux:k-s.m.length=0:=by
    have:=(eT.mp e).1
    simp at this;omega
   rw[Ux]at e;cases e;have kE:k=g.al.length:=by have:=x.st.len;omega
   subst kE;refine .inr ⟨l,?_,hc,hf,λd z=>by cases z;exact r⟩
   show(g.al++[l])[g.al.length]?=some l;rw[fj (cC _),ki];rfl
 ·obtain⟨v,h1,h2⟩:=x.lc.at_ i c' e
  exact⟨v,h1,aM.mv (g:=g) (g':=g.cZ l) (aA.refl _) pre (λb h=>⟨ho b _ h,rfl⟩) h2⟩
theorem vB{l:Addr}:(g.cZ l).o l=some (.ob g.al.length):=by
 show(if l=l then some (hU.ob g.al.length)else g.o l)=_
 rw[if_pos rfl]
theorem b8.rq(q:b8 g H g1 H1){l:Addr}(h0:H l=none):b8 g H (g1.cZ l) H1:=⟨q.fr,q.pre.trans (CV _ _),λb u h n z=>by
 obtain⟨h1,h2,h3⟩:=q.rest b u h n z;refine⟨h1,h2,?_⟩;show(if b=l then some (hU.ob g1.al.length)else g1.o b)=none
 rw[if_neg (aC h h0)];exact h3,q.there⟩
theorem rA(x:SR B g H σ s){l:Addr}:Rep B (g.cZ l).al (g.cZ l).HF (.own s.m.length) (.ref l):=⟨l,rfl,by
 show(g.al++[l])[s.m.length]?=some l;rw[x.st.len,fj (cC _),ki];rfl⟩
theorem A6(hc:B.cn[n]?=none)(hf:B.fn[n]?=none)(he:PE X e (tO B fl)):PE X e (tE B (iF n fl)):=aB he λσ H Q z=>by
 obtain⟨g,s,t,s',x,h,k⟩:=z;obtain⟨⟨ts,s1⟩,h1,h⟩:=aa h;cases h;exact⟨g,s,ts,s1,x,h1,λl vs g1 H1 p1 x1 h0 n1 n2 hl r=>k _ (g1.cZ l) H1 (p1.rq h0) (x1.rq (c:=.ol ts) hc hf n1 n2 hl ⟨l,vs,rfl,vB,hl,r.mv (CV _ _) (aA.refl _)⟩) (rA x1)⟩
theorem KP{dp:Pos}(hc:B.cn[n]?=none)(hf:B.fn[n]?=none):PE X (.Dict [] [] dp) (tE B (nE n)):=aB lJ λσ H Q z=>by
 obtain⟨g,s,t,s',x,h,k⟩:=z;cases h;intro q hq;obtain⟨gr,n1,n2⟩:=iz (u:=.dK []) x hq;have x1:=x.grow gr;exact k _ ((g.grow g.HF).cZ q) _ ((x.dW gr).rq hq) (x1.rq (c:=.od [] []) hc hf n1 n2 af ⟨q,[],rfl,vB,af,rfl,rfl⟩) (rA x1)
theorem SR.A7{l:Addr}{c c':C}{u:HO}(x:SR B g H σ s)(Z:OQ B g H k ⟨n,[c]⟩ l)(hk:s.m[k]?=some ⟨n,[c]⟩)(ho:g.o l=some (.ob k))(r:aM B g (upd H l u) (.ob k) c' (.ref l)) :
  b8 g H g (upd H l u)/\SR B g (upd H l u) σ (setB n s k c'):=by
 have ne:∀b q,g.o b=some q->q≠.ob k->upd H l u b=H b:=λb q hb hq=>ak λz=>hq (by rw[z,ho]at hb;cases hb;rfl)
 refine⟨kO ho,⟨⟨λb w e=>?_,λb q e=>?_,by show(s.m.set k _).length=_;rw[dH];exact x.st.len,λk' qm e=>?_⟩,x.lc.len,λi c e=>?_⟩⟩
 ·have:b≠l:=λz=>by rw[z,(x.st.live l _ ho).1]at e;cases e
  rw[ak this];exact x.sub _ _ e
 ·obtain⟨h1,w,h2⟩:=x.st.live b q e
  by_cases hb:b=l
  ·exact⟨h1,_,by rw[hb,af]⟩
  ·exact⟨h1,w,by rw[ak hb];exact h2⟩
 ·have e:(s.m.set k ⟨n,[c']⟩)[k']?=some qm:=e
  by_cases kE:k=k'
  ·subst kE
   rw[c9 (eT.mp hk).1]at e;cases e;exact .inr ⟨l,Z.al,Z.nc,Z.nf,λd z=>by cases z;exact r⟩
  ·rw[gF kE]at e
   refine(x.st.at_ k' qm e).mv (aA.refl _) cA λb q h hq=>⟨h,ne b q h ?_⟩;rcases hq with rfl|⟨j,rfl⟩
   ·exact λz=>kE (by cases z;rfl)
   ·exact λz=>by cases z
 ·obtain⟨v,h1,h2⟩:=x.lc.at_ i c e
  exact⟨v,h1,aM.mv (g:=g) (g':=g) (aA.refl _) cA (λb hb=>⟨hb,ne b _ hb λz=>by cases z⟩) h2⟩
theorem KQ(hc:B.cn[n]?=none)(ho:PE X o (tE B fo))(hb:aP o=true)(he:PE X e (tE B fa))(hs:noStar e=true)(fH:(aY.endLine == aW.line)=true) :
  PS X (.Expr (.Call (.Attribute o "append" aY) [e] [] aW) pos) (tS B (eA n fo fa)):=by
 refine bQ (kL (uK PySem.F.plainAttrs_list PySem.F.slot_list_append PySem.F.type_list_append jL ho (az he aO (ai hs)) (dS hb) (nY (by rw[c_,hs];rfl) (by decide)) fH (ai hs) rfl) rfl) λD σ H z=>?_
 obtain⟨g,s,oo,s',x,h,k⟩:=z;obtain⟨⟨tx,s1⟩,h1,h⟩:=aa h;obtain⟨z0,h2,h⟩:=aa h;obtain⟨⟨t,s2⟩,h3,h⟩:=aa h;obtain⟨z,h4,h⟩:=aa h;obtain⟨_,h5,h⟩:=aa h;obtain⟨hz,_⟩:=aL (ah h5);cases h;obtain⟨e1,m1⟩:=eB (ah h2);obtain⟨e2,m2⟩:=eB (ah h4);dsimp only at e1 e2;subst e1;refine⟨g,s,_,s1,x,h1,λv g1 H1 p1 x1 r1=>?_⟩;obtain⟨l,rfl,ha⟩:=r1;obtain⟨Z1,l1,Y6,q1,o1,UE,_⟩:=x1.iW hc m1 ha;cases q1;refine⟨.inl ⟨rfl,_,bW.of UE⟩,g1,s1,t,s2,x1,h3,λv g2 H2 p2 x2 r2=>?_⟩;have ek:z.1=z0.1:=by injection e2 with e2;exact e2.symm
 rw[<- ek]at ha;obtain⟨Z2,l2,Qc,q2,o2,Y7,rr⟩:=x2.iW hc m2 (cu p2.pre ha);cases q2;obtain⟨p3,x3⟩:=x2.A7 (c':=.ol (z.2++[t])) Z2 m2 o2 ⟨l,_,rfl,o2,af,rr.app (.one r2)⟩;exact⟨l,Qc,v,rfl,rfl,Y7,by rw[<- rr.len,sizeLine_eq];omega,k σ g2 _ ((p1.trans p2).trans p3) x3⟩
theorem Qf{kk:Nat}(hc:B.cn[n]?=none)(hr:aX kk X.A)(he:PE X e (tE B fa))(ho:PE X o (tE B fo))(hb:PE X b (tE B fb))(hs:swapsWith e (some (.Subscript o b bM)) pos.line X.env=pure false) :
  PS X (.Assign [.Subscript o b bM] e pos) (tS B (Qd n fo fb fa)):=by
 have hu:X.A.units+1<cLine:=by have:=hr.units;omega
 refine bQ (uP hu ho hb he hs) λD σ H z=>?_;obtain⟨g,s,oo,s',x,h,k⟩:=z;obtain⟨⟨t,s1⟩,h1,h⟩:=aa h;obtain⟨⟨tx,s2⟩,h2,h⟩:=aa h;obtain⟨⟨tk,s3⟩,h3,h⟩:=aa h;obtain⟨z,h4,h⟩:=aa h;obtain⟨ky,h5,h⟩:=aa h;obtain⟨_,h6,h⟩:=aa h;obtain⟨hz,_⟩:=aL (ah h6);cases h;obtain⟨e1,m1⟩:=eE (ah h4);dsimp only at e1;subst e1;refine⟨g,s,t,s1,x,h1,λv g1 H1 p1 x1 r1=>⟨g1,s1,_,s2,x1,h2,λw g2 H2 p2 x2 r2=>⟨g2,s2,tk,s3,x2,h3,λu g3 H3 p3 x3 r3=>?_⟩⟩⟩;obtain⟨l,rfl,ha⟩:=r2;obtain⟨Z,l1,vs,q1,o1,hh,hl,rr⟩:=x3.iW hc m1 (cu p3.pre ha);cases q1;obtain⟨Qc,e1,e2,e3⟩:=A2 (k:=ky) hl rr ((r1.mv p2.pre p2.fr).mv p3.pre p3.fr);obtain⟨p4,x4⟩:=x3.A7 (c':=.od (j9 z.2.1 z.2.2 ky t).1 (j9 z.2.1 z.2.2 ky t).2) Z m1 o1 ⟨l,Qc,rfl,o1,af,e2,e3⟩;rw[eZ (ah h5) r3];refine⟨l,_,rfl,.k hh ?_,?_⟩
 ·rw[CU,dB,sizeLine_eq]
  have:z.2.1.length<1000000:=hz
  omega
 ·rw[e1]
  exact k σ g3 _ (((p1.trans p2).trans p3).trans p4) x4
theorem HN{neg:Bool}(hc:B.cn[n]?=none):∀σ H Q,tE B (Ei n neg fa fo) σ H Q->zA (KD neg) (tE B fa) (tE B fo) σ H Q:=by
 rintro σ H Q ⟨g,s,t,s',x,h,k⟩
 obtain⟨⟨tx,s1⟩,h1,h⟩:=aa h;obtain⟨⟨ty,s2⟩,h2,h⟩:=aa h;obtain⟨z,h3,h⟩:=aa h;obtain⟨kk,h4,h⟩:=aa h;cases h;obtain⟨e1,m1⟩:=eE (ah h3);dsimp only at e1;subst e1;refine⟨g,s,tx,s1,x,h1,λv g1 H1 p1 x1 r1=>⟨g1,s1,_,s2,x1,h2,λw g2 H2 p2 x2 r2=>?_⟩⟩;obtain⟨l,rfl,ha⟩:=r2;obtain⟨Z,l1,vs,q1,o1,hh,hl,rr⟩:=x2.iW hc m1 ha;cases q1;rw[eZ (ah h4) r1];refine⟨l,_,rfl,.k hh,?_⟩;rw[mf hl];exact k _ g2 H2 (p1.trans p2) x2 rfl
theorem KR{op:CmpOp}{neg:Bool}{kk:Nat}(hc:B.cn[n]?=none)(hr:aX kk X.A)(hn:j8 op=some neg)(ha:PE X a (tE B fa))(ho:PE X o (tE B fo))(hm:behindInMarks op o=false):PE X (.Compare a [op] [o] pos) (tE B (Ei n neg fa fo)):=
 aB (jb (jx (by have:=hr.units;omega) hn) ha ho hm) (HN hc)
theorem KS{op:CmpOp}{neg:Bool}{kk:Nat}(hc:B.cn[n]?=none)(hr:aX kk X.A)(hn:j8 op=some neg)(ha:PE X a (tE B fa))(ho:PE X o (tE B fo))(hm:behindInMarks op o=false):PT X (.Compare a [op] [o] pos) (tT B (dF (Ei n neg fa fo))):=
 uT (jc (jx (by have:=hr.units;omega) hn) ha ho hm) λσ H Q q=>HN hc σ H _ (Az q)
theorem kU{al:BM}{HF:Hp}{k:Ky}:∀{ks:List Ky}{ts:Fs}{vs:List V},ks.length=vs.length->aq B al HF ts vs->(∀t,nq ks ts k=some t->∃v,iL ((ks.map iR).zip vs) (iR k)=some v/\Rep B al HF t v)/\(nq ks ts k=none->iL ((ks.map iR).zip vs) (iR k)=none)
 |[],ts,[],_,r=>by
  refine⟨λt h=>?_,λ_=>rfl⟩;cases ts<;>cases h
 |[],_,_::_,h,_=>by cases h
 |q::ks,_,[],h,_=>by cases h
 |q::ks,[],u::vs,h,r=>by cases(show u::vs=[]from r)
 |q::ks,t::ts,u::vs,h,r=>by
  obtain⟨u',dX,e,ru,rs⟩:=r;cases e;rw[dY,k7];by_cases e:q=k
  ·rw[gS (p:=(iR q,u)) (by rw[e])]
   refine⟨λt' h'=>?_,λh'=>?_⟩
   ·rw[nq,if_pos e]at h'
    cases h';exact⟨u,rfl,ru⟩
   ·rw[nq,if_pos e]at h';cases h'
  ·rw[gT (p:=(iR q,u)) (λz=>e (qa z)),nq,if_neg e]
   exact kU (uB.inj h) rs
theorem Qg{kk:Nat}(hc:B.cn[n]?=none)(hr:aX kk X.A)(ho:PE X o (tE B fo))(hb:PE X b (tE B fb))(hs:Jy b):PE X (.Subscript o b pos) (tE B (Qe n fo fb)):=by
 refine aB (uO (by have:=hr.units;omega) ho hb hs) λσ H Q z=>?_
 obtain⟨g,s,t,s',x,h,k⟩:=z;obtain⟨⟨tx,s1⟩,h1,h⟩:=aa h;obtain⟨⟨ty,s2⟩,h2,h⟩:=aa h;obtain⟨z,h3,h⟩:=aa h;obtain⟨ky,h4,h⟩:=aa h;obtain⟨t',h5,h⟩:=aa h;cases h;obtain⟨e1,m1⟩:=eE (ah h3);dsimp only at e1;subst e1;refine⟨g,s,_,s1,x,h1,λv g1 H1 p1 x1 r1=>⟨g1,s1,ty,s2,x1,h2,λw g2 H2 p2 x2 r2=>?_⟩⟩;obtain⟨l,rfl,ha⟩:=r1;obtain⟨Z,l1,vs,q1,o1,hh,hl,rr⟩:=x2.iW hc m1 (cu p2.pre ha);cases q1;obtain⟨v,hv,rv⟩:=(kU (k:=ky) hl rr).1 _ (ah h5);rw[eZ (ah h4) r2];exact⟨l,v,rfl,hv▸.k hh,k v g2 H2 (p1.trans p2) x2 rv⟩
theorem Qh{kk:Nat}(hc:B.cn[n]?=none)(hr:aX kk X.A)(ho:PE X o (tE B fo))(hb:PE X b (tE B fb))(hd:PE X f (tE B fc))(m:M2 X o "get" aY b f aW):PE X (.Call (.Attribute o "get" aY) [b,f] [] aW) (tE B (KO n fo fb fc)):=by
 refine aB (Ac (by have:=hr.units;omega) ho hb hd m) λσ H Q z=>?_
 obtain⟨g,s,t,s',x,h,k⟩:=z;obtain⟨⟨tx,s1⟩,h1,h⟩:=aa h;obtain⟨z0,h2,h⟩:=aa h;obtain⟨⟨ty,s2⟩,h3,h⟩:=aa h;obtain⟨⟨td,s3⟩,h4,h⟩:=aa h;obtain⟨z,h5,h⟩:=aa h;obtain⟨ky,h6,h⟩:=aa h;cases h;obtain⟨e1,m1⟩:=eE (ah h2);obtain⟨e2,m2⟩:=eE (ah h5);dsimp only at e1 e2;subst e1;refine⟨g,s,_,s1,x,h1,λv g1 H1 p1 x1 r1=>?_⟩;obtain⟨l,rfl,ha⟩:=r1;obtain⟨Z1,l1,Y6,q1,o1,UE,_⟩:=x1.iW hc m1 ha;cases q1;refine⟨l,rfl,.inl ⟨_,.inl UE⟩,g1,s1,ty,s2,x1,h3,λw g2 H2 p2 x2 r2=>⟨g2,s2,td,s3,x2,h4,λy g3 H3 p3 x3 r3=>?_⟩⟩;have ek:z.1=z0.1:=by injection e2 with e2;exact e2.symm
 rw[<- ek]at ha;obtain⟨Z,l2,vs,q2,o2,hh,hl,rr⟩:=x3.iW hc m2 (cu p3.pre (cu p2.pre ha));cases q2;rw[eZ (ah h6) r2];obtain⟨g4,g5⟩:=kU (k:=ky) hl rr;refine⟨_,.k hh,?_⟩;cases e:nq z.2.1 z.2.2 ky with
 |none=>rw[e]at k;rw[g5 e];exact k _ g3 H3 ((p1.trans p2).trans p3) x3 r3
 |some t'=>
  rw[e]at k;obtain⟨v,hv,rv⟩:=g4 t' e;rw[hv];exact k _ g3 H3 ((p1.trans p2).trans p3) x3 rv
end
section
variable{m:FR}{j:Nat}{ob:Ob}{c c':C}{a Ca dx:Addr}{ns:Bi}{vs:List V}{w:V}
theorem cO.one(x:cO B g H m)(hk:m[k]?=some ob)(Z:yj B g H k ob a Ca dx ns vs)(hw:vs[j]?=some w)(sub:aA g'.HF H')(live:∀b p,g'.o b=some p->g'.HF b=none/\∃u,H' b=some u)(fr:aA g.HF g'.HF)(OR:g'.al=g.al)
  (kk:∀l p,g.o l=some p->p≠.fld k j->(∀i,p≠.loc i)->g'.o l=some p/\H' l=H l) (q:aM B g' H' (.fld k j) c' w):cO B g' H' (m.set k ⟨ob.c,ob.fs.set j c'⟩):=by
 have pre:g.al <+: g'.al:=by rw[OR];exact cA
 refine⟨sub,live,by rw[dH,OR];exact x.len,λk' jw e=>?_⟩
 by_cases kE:k=k'
 ·subst kE
  rw[c9 (eT.mp hk).1]at e;cases e;obtain⟨o',h'⟩:=kk a _ Z.o (λz=>by cases z) (λi z=>by cases z)
  refine .inl ⟨a,Ca,dx,ns,vs,cu pre Z.al,o',Z.cl,h'.trans Z.h,Z.le,by rw[dH];exact Z.ln,λj' d e=>?_⟩
  by_cases hj:j=j'
  ·subst hj
   have eX:j<ob.fs.length:=by rw[<- Z.ln];exact(eT.mp hw).1
   have e:(ob.fs.set j c')[j]?=some d:=e;rw[c9 eX]at e;cases e;exact⟨w,hw,q⟩
  ·have e:(ob.fs.set j c')[j']?=some d:=e
   rw[gF hj]at e;obtain⟨v,h1,h2⟩:=Z.f j' d e;exact⟨v,h1,h2.mv fr pre λl z=>kk l _ z (λz=>hj (by cases z;rfl)) (λi z=>by cases z)⟩
 ·rw[gF kE]at e
  refine(x.at_ k' jw e).mv fr pre λl p h hp=>kk l p h ?_ ?_
  ·rcases hp with rfl|⟨j',rfl⟩
   ·exact λz=>by cases z
   ·exact λz=>kE (by cases z;rfl)
  ·rcases hp with rfl|⟨j',rfl⟩
   ·exact λi z=>by cases z
   ·exact λi z=>by cases z
end
def e9(tab:Ap)(f:Nat)(m:FR):T->Option (Nat×Ob×Nat×C)
 |.own k=>(m[k]?).bind λob=>(gD tab ob.c f).bind λj=>(ob.fs[j]?).map λc=>(k,ob,j,c)
 |_=>none
def A8(m:FR)(z:Nat×Ob×Nat×C)(c:C):FR:=m.set z.1 ⟨z.2.1.c,z.2.1.fs.set z.2.2.1 c⟩
def KU:C->FK
 |.ol ts=>some (.lst ts)
 |.od ks ts=>some (.c8 ks ts)
 |_=>none
def xK(n:Nat)(tab:Ap)(f:Nat)(a:FE):FE:=λs=>(a s).bind λp=>(aT (e9 tab f p.2.m p.1)).bind λz=>match z.2.2.2 with
 |.val t=>(match rn n p.2.m t with
  |some y=>(aT (KU y.2)).bind λu=>.ok (u,{p.2 with m:=A8 (p.2.m.set y.1 ⟨n,[]⟩) z (.val u)})
  |none=>.ok (t,p.2))
 |_=>.bad
def mi(tab:Ap)(f:Nat)(gg:T->T->FK)(o a:FE):FS:=λs=>(o s).bind λp=>(aT (e9 tab f p.2.m p.1)).bind λz=>match z.2.2.2 with
 |.val t=>(a p.2).bind λq=>(aT (e9 tab f q.2.m p.1)).bind λy=>(aT (gd (y.2.1.c=z.2.1.c) ())).bind λ_=>(aT (gg t q.1)).bind λu=>.ok (.nx,{q.2 with m:=A8 q.2.m y (.val u)})
 |_=>.bad
section
variable{n:Nat}
theorem SR.Ej(O:kD X.K X.mg P){f:Nat}{n:Str}(hf:P.an[f]?=some n)(x:SR (P.kt X) g H σ s){t:T}{z:Nat×Ob×Nat×C}(h:e9 P.tab f s.m t=some z){v:V}(r:Rep (P.kt X) g.al g.HF t v) :
  ∃a Ca dx ns vs w,v=.ref a/\yj (P.kt X) g H z.1 z.2.1 a Ca dx ns vs/\s.m[z.1]?=some z.2.1/\vs[z.2.2.1]?=some w/\aM (P.kt X) g H (.fld z.1 z.2.2.1) z.2.2.2 w/\mO X.K Ca/\dq X.K Ca n/\(ns.zip vs).lookup n=some w:=by
 cases t<;>first|(cases h;done)|skip
 rename_i k;obtain⟨ob,h1,h⟩:=ba.mp (show(s.m[k]?).bind _=some z from h);obtain⟨j,h2,h⟩:=ba.mp h;obtain⟨c,h3,rfl⟩:=eL.mp h;obtain⟨a,rfl,ha⟩:=r;rcases x.st.at_ k ob h1 with⟨a',Ca,dx,ns,vs,Z⟩|⟨a',Z⟩
 case inr=>
  obtain⟨l,q,_⟩:=ba.mp h2;have z:(P.tab.map _)[ob.c]?=none:=Z.nf;rw[fk,q]at z;cases z
 have:=Z.al.symm.trans ha
 cases this;obtain⟨mm,hm,se,F⟩:=O.of Z.cl;have hj:=kQ hf se h2;obtain⟨w,hw,sl⟩:=Z.f j c h3;exact⟨a,Ca,dx,ns,vs,w,rfl,Z,h1,hw,sl,F.cl,F.na _ (ir hj),by rw[f_ F.nd hj,hw]⟩
theorem SR.UG{l:Addr}{c:C}{u:HO}(x:SR B g H σ s)(Z:OQ B g H k ⟨n,[c]⟩ l)(hk:s.m[k]?=some ⟨n,[c]⟩)(ho:g.o l=some (.ob k))(hh:H l=some u) :
  b8 g H (g.gJ l u) H/\SR B (g.gJ l u) H σ {s with m:=s.m.set k ⟨n,[]⟩}:=by
 have hf:=(x.st.live l _ ho).1;have ne:∀b p,g.o b=some p->p≠.ob k->(g.gJ l u).o b=some p:=λb p hb hp=>by
  have:b≠l:=λe=>hp (by rw[e,ho]at hb;cases hb;rfl)
  show(if b=l then none else g.o b)=_
  rw[if_neg this];exact hb
 refine⟨pT ho hf,⟨⟨λb w e=>?_,λb q e=>?_,by show(s.m.set k _).length=_;rw[dH];exact x.st.len,λk' qm e=>?_⟩,x.lc.len,λi d e=>?_⟩⟩
 ·have e:upd g.HF l u b=some w:=e
  by_cases hb:b=l
  ·subst hb;rw[af]at e;cases e;exact hh
  ·rw[ak hb]at e;exact x.sub _ _ e
 ·have e:(if b=l then none else g.o b)=some q:=e
  by_cases hb:b=l
  ·rw[if_pos hb]at e;cases e
  ·rw[if_neg hb]at e
   obtain⟨h1,h2⟩:=x.st.live b q e;exact⟨by show upd g.HF l u b=none;rw[ak hb];exact h1,h2⟩
 ·have e:(s.m.set k ⟨n,[]⟩)[k']?=some qm:=e
  by_cases kE:k=k'
  ·subst kE
   rw[c9 (eT.mp hk).1]at e;cases e;exact .inr ⟨l,Z.al,Z.nc,Z.nf,λd z=>by cases z⟩
  ·rw[gF kE]at e
   refine(x.st.at_ k' qm e).mv (g':=g.gJ l u) (aF hf) cA λb q h hq=>⟨ne b q h ?_,rfl⟩;rcases hq with rfl|⟨j,rfl⟩
   ·exact λz=>kE (by cases z;rfl)
   ·exact λz=>by cases z
 ·obtain⟨v,h1,h2⟩:=x.lc.at_ i d e
  exact⟨v,h1,lP (q:=.loc i) ho hf (λz=>by cases z) h2⟩
theorem SR.UH{z:Nat×Ob×Nat×C}{c':C}{a Ca dx:Addr}{ns:Bi}{vs:List V}{w:V}(x:SR B g H σ s)(hk:s.m[z.1]?=some z.2.1)(Z:yj B g H z.1 z.2.1 a Ca dx ns vs)(hw:vs[z.2.2.1]?=some w)(q:aM B g H (.fld z.1 z.2.2.1) c' w):SR B g H σ {s with m:=A8 s.m z c'}:=
 ⟨x.st.one hk Z hw x.st.sub x.st.live (aA.refl _) rfl (λ_ _ h _ _=>⟨h,rfl⟩) q,x.lc⟩
theorem ow{tab:Ap}{f:Nat}{m:FR}{t:T}{z:Nat×Ob×Nat×C}(h:e9 tab f m t=some z):t=.own z.1/\m[z.1]?=some z.2.1/\gD tab z.2.1.c f=some z.2.2.1/\z.2.1.fs[z.2.2.1]?=some z.2.2.2:=by
 cases t<;>first|(cases h;done)|skip
 rename_i k;obtain⟨ob,h1,h⟩:=ba.mp (show(m[k]?).bind _=some z from h);obtain⟨j,h2,h⟩:=ba.mp h;obtain⟨c,h3,rfl⟩:=eL.mp h;exact⟨rfl,h1,h2,h3⟩
theorem Ek{l:Addr}{c:C}{u:T}(h:KU c=some u)(q:aM B g H (.ob k) c (.ref l))(lv:g.HF l=none):∃hu,g.o l=some (.ob k)/\H l=some hu/\Rep B (g.gJ l hu).al (g.gJ l hu).HF u (.ref l):=by
 cases c<;>first|(cases h;done)|skip
 ·cases h
  obtain⟨l',vs,e,ho,hh,r⟩:=q;cases e;exact⟨_,ho,hh,l,vs,rfl,af,r.mv cA (aF lv)⟩
 ·cases h
  obtain⟨l',vs,e,ho,hh,hl,r⟩:=q;cases e;exact⟨_,ho,hh,l,vs,rfl,af,hl,r.mv cA (aF lv)⟩
theorem KW(O:kD X.K X.mg P){f:Nat}{nm:Str}(hc:P.cn[n]?=none)(hf:P.an[f]?=some nm)(he:PE X e (tE (P.kt X) fa))(hb:aP e=true):PE X (.Attribute e nm pos) (tE (P.kt X) (xK n P.tab f fa)):=by
 refine aB (zG he (dS hb)) λσ H Q z=>?_;obtain⟨g,s,t,s',x,h,k⟩:=z;obtain⟨⟨tx,s1⟩,h1,h⟩:=aa h;obtain⟨z,h2,h⟩:=aa h;have hz:=ah h2;refine⟨g,s,_,s1,x,h1,λv g1 H1 p1 x1 r1=>?_⟩;obtain⟨a,Ca,dx,ns,vs,w,rfl,Z,hk,hw,sl,cl,na,lk⟩:=x1.Ej O hf hz r1;refine⟨a,Ca,dx,_,w,rfl,Z.h,cl,na,lk,?_⟩;obtain⟨k0,ob,j,c⟩:=z;cases c<;>first|(cases h;done)|skip
 rename_i tv;dsimp only at h;cases hb:rn n s1.m tv with
 |none=>
  rw[hb]at h;cases h;exact k w g1 H1 p1 x1 sl
 |some y=>
  rw[hb]at h;obtain⟨u,h3,h⟩:=aa h;cases h;obtain⟨e1,m1⟩:=mh hb;subst e1;obtain⟨l,rfl,ha⟩:=sl;obtain⟨ZB,qB⟩:=x1.iW hc m1 ha;have Y8:g1.HF l=none:=by
   have h3:=ah h3;obtain⟨kb,cb⟩:=y;cases cb<;>first|(cases h3;done)|skip
   ·obtain⟨l',_,e,ho,_⟩:=qB
    cases e;exact(x1.st.live l _ ho).1
   ·obtain⟨l',_,e,ho,_⟩:=qB
    cases e;exact(x1.st.live l _ ho).1
  obtain⟨hu,ho,hh,ru⟩:=Ek (ah h3) qB Y8;obtain⟨p2,x2⟩:=x1.UG ZB m1 ho hh;obtain⟨e0,e1,e2,e3⟩:=ow hz;dsimp only at e0 e1 e2 e3;have kE:y.1≠k0:=λz=>by
   rw[z,e1]at m1;cases m1;obtain⟨l,q,_⟩:=ba.mp e2;obtain⟨mm,q2,_⟩:=Z.cl;rw[hc]at q2;cases q2
  have WY:(s1.m.set y.1 ⟨n,[]⟩)[k0]?=some ob:=by rw[gF kE];exact e1
  have Tv:e9 P.tab f (s1.m.set y.1 ⟨n,[]⟩) tx=some (k0,ob,j,.val (.own y.1)):=by
   rw[e0];show((s1.m.set y.1 ⟨n,[]⟩)[k0]?).bind _=_;rw[WY];show(gD P.tab ob.c f).bind _=_;rw[e2];show(ob.fs[j]?).map _=_;rw[e3];rfl
  obtain⟨a',Ca',RI,yi,dX,w',e4,Z',Y9,Y_,G2,_⟩:=x2.Ej O hf Tv (r1.mv p2.pre p2.fr);obtain⟨l',e5,RM⟩:=G2
  have:l=l':=by
   have q:=cu p2.pre ha;rw[q]at RM;exact jH.inj RM
  subst this;subst e5;exact k _ _ H1 (p1.trans p2) (x2.UH Y9 Z' Y_ (c':=.val _) ru) ru
theorem xM{t u w:T}(h:gu t u=some w):∃i j,t=.int i/\u=.int j/\w=.int (i+j):=by
 cases t<;>first|(cases h;done)|(cases u<;>first|(cases h;done)|(cases h;exact⟨_,_,rfl,rfl,rfl⟩))
theorem Qi(O:kD X.K X.mg P){f:Nat}{nm:Str}(hf:P.an[f]?=some nm)(ho:PE X o (tE (P.kt X) fo))(he:PE X e (tE (P.kt X) fa)):PS X (.AugAssign (.Attribute o nm bM) .Add e pos) (tS (P.kt X) (mi P.tab f gu fo fa)):=by
 refine bQ (wR ho he Ji) λD σ H z=>?_;obtain⟨g,s,oo,s',x,h,k⟩:=z;obtain⟨⟨tx,s1⟩,h1,h⟩:=aa h;obtain⟨z,h2,h⟩:=aa h;have hz:=ah h2;refine⟨g,s,_,s1,x,h1,λv g1 H1 p1 x1 r1=>?_⟩;obtain⟨a,Ca,dx,ns,vs,w,rfl,Z,hk,hw,sl,cl,na,lk⟩:=x1.Ej O hf hz r1;refine⟨a,Ca,dx,_,w,rfl,Z.h,cl,na,lk,?_⟩;obtain⟨k0,ob,j,c⟩:=z;cases c<;>first|(cases h;done)|skip
 rename_i tv;obtain⟨⟨ty,s2⟩,h3,h⟩:=aa h;obtain⟨y,h4,h⟩:=aa h;obtain⟨_,h5,h⟩:=aa h;obtain⟨MB,_⟩:=aL (ah h5);obtain⟨u,h6,h⟩:=aa h;cases h;have h6:=ah h6;obtain⟨i,j',rfl,rfl,rfl⟩:=xM h6;cases(show w=V.int i from sl);refine⟨g1,s1,_,s2,x1,h3,λw2 g2 H2 p2 x2 r2=>?_⟩;cases(show w2=V.int j' from r2);refine⟨_,_,rfl,rfl,?_⟩;have hy:=ah h4;obtain⟨a2,Ca2,Za,ns2,Qc,w3,e4,Z2,WY,hw2,_,_⟩:=x2.Ej O hf hy (r1.mv p2.pre p2.fr);cases e4;obtain⟨k2,qm,j2,c2⟩:=y;have MB:qm.c=ob.c:=MB;have ec:=Z2.cl;rw[MB]at ec;obtain⟨rfl,rfl⟩:=ec.eq Z.cl;obtain⟨e0,e1,e2,e3⟩:=ow hy;have hp:cy P.tab f (.val (.int (i+j'))) qm=some ⟨qm.c,qm.fs.set j2 (.val (.int (i+j')))⟩:=by
  unfold cy;rw[e2];show(setAt qm.fs j2 _).map _=_;unfold setAt;rw[if_pos (eT.mp e3).1];rfl
 obtain⟨_,_,hl,dX,e5,p3,x3⟩:=vg O hf x2 Z2 e1 hp (v:=.int (i+j')) λj=>rfl;refine⟨Za,_,Z2.h,hl,?_⟩;rw[e5];exact k σ g2 _ ((p1.trans p2).trans p3) x3
end
def WZ(c:FT)(a b:FL):FL:=λs=>(c s).bind λp=>if p.1 then a p.2 else b p.2
def W0:T->Fm
 |.tup ts=>some ts
 |.lst ts=>some ts
 |_=>none
def o1(g:T->Fm)(a:FE):FL:=λs=>(a s).bind λp=>(aT (g p.1)).bind λts=>.ok (ts,p.2)
def Qj:T->T->Fm
 |.lst a,.int k=>gd (k<1000000/\-1000000<k/\a.length*k.toNat<=1000000) (cj k.toNat a).flatten
 |_,_=>none
def Qk:T->T->Fm
 |.lst a,.lst b=>gd (a.length+b.length<=1000000) (a++b)
 |_,_=>none
def o2(g:T->T->Fm)(a b:FE):FL:=λs=>(a s).bind λp=>(b p.2).bind λq=>(aT (g p.1 q.1)).bind λts=>.ok (ts,q.2)
def El:T->Fm
 |.int j=>gd (0<=j/\j<1000000) (mK 0 j.toNat)
 |_=>none
def KY:Fs->Fm
 |[.int i,.int j,.int k]=>gd (j=-1/\k=-1/\-1<=i/\i<1000000) ((cD (i+1).toNat).map λk=>.int (i-(k:Nat)))
 |_=>none
def Ql:T->Fm
 |.lst ts=>some ts.reverse
 |_=>none
def isSlice:Expr->Bool
 |.Slice _ _ _ _=>true
 |_=>false
def Qm(i:Nat)(b a:FE):FS:=λs=>match KC i s with
 |true=>cV i b a s
 |false=>HL i b a s
section
variable{gl:FL}{ft:FT}
theorem Qn(hc:PT X c (tT B ft))(ha:PE X a (tO B fl))(hb:PE X b (tO B gl)):PE X (.IfExp c a b pos) (tO B (WZ ft fl gl)):=aB (qu hc ha hb) λσ H Q z=>by
 obtain⟨g,s,t,s',x,h,k⟩:=z;obtain⟨⟨d,s1⟩,h1,h⟩:=aa h;refine⟨g,s,d,s1,x,h1,λg1 H1 p1 x1=>?_⟩;cases d with
 |true=>exact ng ⟨g1,s1,_,_,x1,h,λl vs g2 H2 p2 x2 n0=>k l vs g2 H2 (p1.trans p2) x2 (p1.there l n0)⟩
 |false=>exact lC ⟨g1,s1,_,_,x1,h,λl vs g2 H2 p2 x2 n0=>k l vs g2 H2 (p1.trans p2) x2 (p1.there l n0)⟩
theorem Qp(hB:B.K=X.K)(hm:X.mg "list" = none)(hg:Gl X "list")(ha:PE X a (tE B fa))(hs:noStar a=true):PE X (.Call (.Name "list" p) [a] [] pos) (tO B (o1 W0 fa)):=by
 refine aB (du dP hg hm wC (az ha aO (ai hs)) (by decide) (by decide) (ai hs) rfl) λσ H Q z=>?_
 obtain⟨g,s,t,s',x,h,k⟩:=z;obtain⟨⟨tx,s1⟩,h1,h⟩:=aa h;obtain⟨ts,h2,h⟩:=aa h;cases h;have h2:=ah h2;refine⟨g,s,tx,s1,x,h1,λv g1 H1 p1 x1 r1=>?_⟩;have main:∀{xs:List V},aq B g1.al g1.HF t xs->∀l,H1 l=none->Q (.ref l) (upd H1 l (.lst xs)):=λ{xs} r l hl=>by
  obtain⟨gr,n1,n2⟩:=iz (u:=.lst xs) x1 hl;exact k l xs _ _ (p1.trans (x1.dW gr)) (x1.grow gr) (p1.there l hl) n1 n2 af r
 cases tx<;>first|(cases h2;done)|skip
 ·cases h2
  obtain⟨l,xs,rfl,q,r⟩:=r1;exact⟨l,xs,rfl,.inr (hB▸bB x1.sub q),main r⟩
 ·cases h2
  obtain⟨l,xs,rfl,q,r⟩:=r1;exact⟨l,xs,rfl,.inl (bW.of (x1.sub _ _ q)),main r⟩
theorem KZ(ha:PE X a (tE B fa))(hb:PE X b (tE B fb)):PE X (.BinOp a .Mult b pos) (tO B (o2 Qj fa fb)):=by
 refine aB (iC zU ha hb) λσ H Q z=>?_;obtain⟨g,s,t,s',x,h,k⟩:=z;obtain⟨⟨tx,s1⟩,h1,h⟩:=aa h;obtain⟨⟨ty,s2⟩,h2,h⟩:=aa h;obtain⟨ts,h3,h⟩:=aa h;cases h;have h3:=ah h3;refine⟨g,s,tx,s1,x,h1,λv g1 H1 p1 x1 r1=>⟨g1,s1,ty,s2,x1,h2,λw g2 H2 p2 x2 r2=>?_⟩⟩;cases tx<;>first|(cases h3;done)|(cases ty<;>first|(cases h3;done)|skip)
 obtain⟨c,rfl⟩:=aL h3;obtain⟨l,xs,rfl,q,r⟩:=r1.mv p2.pre p2.fr;refine⟨l,_,xs,rfl,r2,x2.sub _ _ q,by omega,by omega,by rw[<- r.len,sizeLine_eq];omega,λp hp=>?_⟩
 obtain⟨gr,n1,n2⟩:=iz (u:=.lst (cj _ xs).flatten) x2 hp;exact k p _ _ _ ((p1.trans p2).trans (x2.dW gr)) (x2.grow gr) (p1.there p (p2.there p hp)) n1 n2 af (r.flat _)
theorem K0(ha:PE X a (tE B fa))(hb:PE X b (tE B fb)):PE X (.BinOp a .Add b pos) (tO B (o2 Qk fa fb)):=by
 refine aB (iC pM ha hb) λσ H Q z=>?_;obtain⟨g,s,t,s',x,h,k⟩:=z;obtain⟨⟨tx,s1⟩,h1,h⟩:=aa h;obtain⟨⟨ty,s2⟩,h2,h⟩:=aa h;obtain⟨ts,h3,h⟩:=aa h;cases h;have h3:=ah h3;refine⟨g,s,tx,s1,x,h1,λv g1 H1 p1 x1 r1=>⟨g1,s1,ty,s2,x1,h2,λw g2 H2 p2 x2 r2=>?_⟩⟩;cases tx<;>first|(cases h3;done)|(cases ty<;>first|(cases h3;done)|skip)
 obtain⟨c,rfl⟩:=aL h3;obtain⟨l,xs,rfl,q,r⟩:=r1.mv p2.pre p2.fr;obtain⟨m,ys,rfl,q',r'⟩:=r2;refine⟨l,m,xs,ys,rfl,rfl,x2.sub _ _ q,x2.sub _ _ q',by rw[<- r.len,<- r'.len,sizeLine_eq];omega,λp hp=>?_⟩
 obtain⟨gr,n1,n2⟩:=iz (u:=.lst (xs++ys)) x2 hp;exact k p _ _ _ ((p1.trans p2).trans (x2.dW gr)) (x2.grow gr) (p1.there p (p2.there p hp)) n1 n2 af (r.app r')
theorem Em{t:T}{ts:Fs}(h:El t=some ts):∃j,t=.int j/\(0<=j/\j<1000000)/\ts=mK 0 j.toNat:=by
 cases t<;>first|(cases h;done)|skip
 obtain⟨c,rfl⟩:=aL h;exact⟨_,rfl,c,rfl⟩
theorem HP(hc:X.calm=true)(Ot:X.mg "list" = none)(Zb:X.mg "range" = none)(Ou:Gl X "list")(Zc:Gl X "range")(ha:PE X a (tE B fa)){p1 f6:Pos}(hs:noStar a=true) :
  PE X (.Call (.Name "list" p) [.Call (.Name "range" p1) [a] [] f6] [] pos) (tO B (o1 El fa)):=by
 refine aB (du (nj hc) Ou Ot wC (az (du xn Zc Zb PyProof.Rows.boot_range (az ha aO (ai hs)) (by decide) (by decide) (ai hs) rfl) aO (ai rfl)) (by decide) (by decide) (ai rfl) rfl) λσ H Q z=>?_
 obtain⟨g,s,t,s',x,h,k⟩:=z;obtain⟨⟨tx,s1⟩,h1,h⟩:=aa h;obtain⟨ts,h2,h⟩:=aa h;cases h;have h2:=ah h2;obtain⟨j,rfl,c,rfl⟩:=Em h2;refine⟨g,s,_,s1,x,h1,λv g1 H1 p1 x1 r1=>?_⟩;cases r1;refine⟨j,rfl,λq hq=>⟨q,j,rfl,af,c.1,by omega,λl hl=>?_⟩⟩
 obtain⟨gr,n1,n2⟩:=iz (u:=.mK 0 j) x1 hq;have x2:=x1.grow gr;obtain⟨W2,n3,n4⟩:=iz (u:=.lst ((cD j.toNat).map λk=>V.int (k:Nat))) x2 hl;have zL:l≠q:=(aC af hl).symm;have Zd:H1 l=none:=by rw[ak zL]at hl;exact hl
 have e:((cD j.toNat).map λk=>V.int (k:Nat))=(cD j.toNat).map λk=>V.int (0+((k:Nat):Int)):=by
  apply CT;intro k _;rw[GQ]
 refine k l _ _ _ ((p1.trans (x1.dW gr)).trans (x2.dW W2)) (x2.grow W2) (p1.there l Zd) n3 n4 af ?_;rw[e];exact aq.mK 0 _
theorem aq.rev{al:BM}{H:Hp}:∀{ts:Fs}{vs:List V},aq B al H ts vs->aq B al H ts.reverse vs.reverse
 |[],_,h=>by have h:_=[]:=h;subst h;rfl
 |t::ts,_,h=>by
  obtain⟨v,r,rfl,h1,h2⟩:=h;rw[GK,GK];exact h2.rev.app (.one h1)
theorem En{a b c:T}{ts:Fs}(h:KY [a,b,c]=some ts):∃i,a=.int i/\b=.int (-1)/\c=.int (-1)/\-1<=i/\i<1000000/\ts=(cD (i+1).toNat).map λk=>.int (i-(k:Nat)):=by
 cases a<;>first|(cases h;done)|(cases b<;>first|(cases h;done)|(cases c<;>first|(cases h;done)|skip))
 obtain⟨⟨rfl,rfl,h1,h2⟩,rfl⟩:=aL h;exact⟨_,rfl,rfl,rfl,h1,h2,rfl⟩
theorem K1(hg:Gl X "range")(hm:X.mg "range" = none)(ha:PE X a (tE B fa))(hb:PE X b (tE B fb))(hc:PE X c (tE B fc))(hs:[a,b,c].all noStar=true):PI X tg (.Call (.Name "range" p) [a,b,c] [] pos) (tI B (DK KY (cJ fa (cJ fb (cJ fc aU))))):=by
 simp only[c_,GL,CI,bL]at hs;obtain⟨k1,k2,k3⟩:=hs;have e3:starEach [c] X.env=[(false,eval c X.env)]:=ai k3;have e2:starEach [b,c] X.env=[(false,eval b X.env),(false,eval c X.env)]:=by rw[ai k2,e3]
 have e1:starEach [a,b,c] X.env=[(false,eval a X.env),(false,eval b X.env),(false,eval c X.env)]:=by rw[ai k1,e2]
 refine j6 (Dz hg hm (az ha (az hb (az hc aO (ai k3)) (ai k2)) (ai k1)) e1 e2) λσ H R z=>?_;obtain⟨g,s,t,s',x,h,k⟩:=z;obtain⟨⟨ts,s1⟩,h1,h⟩:=aa h;obtain⟨us,h2,h⟩:=aa h;cases h;obtain⟨⟨tx,s2⟩,h3,h1⟩:=aa h1;obtain⟨⟨ty,s3⟩,h4,h1⟩:=aa h1;cases h1;obtain⟨⟨tz,s4⟩,h5,h4⟩:=aa h4;obtain⟨⟨tw,s5⟩,h6,h4⟩:=aa h4;cases h4;obtain⟨⟨tv,s6⟩,h7,h6⟩:=aa h6;cases h6;obtain⟨i,rfl,rfl,rfl,l1,l2,rfl⟩:=En (ah h2);refine⟨g,s,_,_,x,h3,λv g1 H1 p1 x1 r1=>⟨g1,_,_,_,x1,h5,λw g2 H2 p2 x2 r2=>⟨g2,_,_,_,x2,h7,λu g3 H3 p3 x3 r3=>?_⟩⟩⟩;cases r1;cases r2;cases r3;exact⟨_,rfl,l1,by omega,k _ g3 H3 ((p1.trans p2).trans p3) x3 (jv (AR _ _) (aq.YW _ _))⟩
theorem Qq(hg:Gl X "reversed")(hm:X.mg "reversed" = none)(ha:PE X a (tE B fa))(hs:noStar a=true):PI X tg (.Call (.Name "reversed" p) [a] [] pos) (tI B (o1 Ql fa)):=by
 have h0:starEach [a] X.env=[(false,eval a X.env)]:=ai hs;refine j6 (Jt hg hm (az ha aO h0) h0) λσ H R z=>?_;obtain⟨g,s,t,s',x,h,k⟩:=z;obtain⟨⟨tx,s1⟩,h1,h⟩:=aa h;obtain⟨ts,h2,h⟩:=aa h;cases h;have h2:=ah h2;cases tx<;>first|(cases h2;done)|skip
 cases h2;refine⟨g,s,_,s1,x,h1,λv g1 H1 p1 x1 r1=>?_⟩;obtain⟨l,vs,rfl,q,r⟩:=r1;refine⟨l,vs,rfl,bW.of (x1.sub _ _ q),k _ g1 H1 p1 x1 ⟨λi H1 s1 hi=>?_,λi H1 x H2 s1 hi y=>?_,λi H1 s1 hi=>?_⟩⟩
 ·rw[zf,r.len]at hi
  exact⟨hi,bW.of (s1 _ _ q)⟩
 ·rw[zf,r.len]at hi
  obtain⟨rfl,e⟩:=y;have e':vs.reverse[i]?=some x:=by rw[List.getElem?_reverse hi];exact e
  obtain⟨t,e1,e2⟩:=r.rev.tG e';exact⟨t,e1,λq_ s2 s3=>⟨q_,.refl s3,e2.same s2⟩⟩
 ·rw[zf,r.len]at hi
  exact hi
theorem Qs{py pN:Pos}(hb:PE X b (tE B fb))(he:PE X e (tE B fa))(hN:X.N[i]?=some y)(hv:kI X.env.scope y)(hd:aQ y)(eO:dZ y)(hs:swapsWith e (some (.Subscript (.Name y py) b pN)) pos.line X.env=pure false)(Pj:isSlice b=false) :
  PS X (.Assign [.Subscript (.Name y py) b pN] e pos) (tS B (cV i fb fa)):=by
 refine bQ (zx he (IT (bG hN hv hd eO) hb set_list λv=>?_) hs rfl rfl) λD σ H z=>?_
 ·cases b<;>first|rfl|(cases Pj)
 obtain⟨g,s,oo,s',x,h,k⟩:=z;obtain⟨⟨t,s1⟩,h1,h⟩:=aa h;obtain⟨K2,h2,h⟩:=aa h;obtain⟨⟨tk,s2⟩,h3,h⟩:=aa h;obtain⟨ts,h4,h⟩:=aa h;obtain⟨j,h5,h⟩:=aa h;obtain⟨us,h6,h⟩:=aa h;obtain⟨⟨z1,z2⟩,rfl⟩:=aL (ah h6);cases h;have ej:tk=.int j:=u_ (ah h5);subst ej;refine⟨g,s,t,s1,x,h1,λv g1 H1 p1 x1 r1=>?_⟩;obtain⟨l,vs,w1,w2,w3,w4⟩:=x1.lY (dC (ah h2));refine⟨_,w1,g1,s1,_,s2,x1,h3,λu g2 H2 p2 x2 r2=>?_⟩;have ho:=dC (ah h4);obtain⟨l',dX,q1,q2,q3,q4⟩:=x2.lY ho;rw[w1]at q1;cases q1;cases r2;obtain⟨x3,p3⟩:=x2.chg ho w1 (q4.set (r1.mv p2.pre p2.fr) j.toNat);have hl:ts.length=dX.length:=q4.len;refine⟨l,dX,j,j.toNat,rfl,rfl,q3,?_,k σ g2 _ ((p1.trans p2).trans p3) x3⟩;unfold Dp;rw[if_pos z1,if_pos (by omega)]
theorem UI{py pN:Pos}{k:Nat}(hr:aX k X.A)(hb:PE X b (tE B fb))(he:PE X e (tE B fa))(hN:X.N[i]?=some y)(hv:kI X.env.scope y)(hd:aQ y)(eO:dZ y)(hs:swapsWith e (some (.Subscript (.Name y py) b pN)) pos.line X.env=pure false)(Pj:isSlice b=false) :
  PS X (.Assign [.Subscript (.Name y py) b pN] e pos) (tS B (Qm i fb fa)):=λae sh σ H D I z=>by
 obtain⟨g,s,oo,s',x,h,k⟩:=z;unfold Qm at h;cases ho:KC i s with
 |true=>
  rw[ho]at h;exact Qs hb he hN hv hd eO hs Pj ae sh σ H D I ⟨g,s,oo,s',x,h,k⟩
 |false=>
  rw[ho]at h;exact KN hr he hb hN hv hd eO hs ae sh σ H D I ⟨g,s,oo,s',x,h,k⟩
def K3(i:Nat):FE:=λs=>match s.r[i]? with
 |some (some (.ol ts))=>.ok (.int ts.length,s)
 |some (some (.val (.lst ts)))=>.ok (.int ts.length,s)
 |_=>.bad
theorem K4(hB:B.K=X.K){px:Pos}(hN:X.N[i]?=some y)(hv:kI X.env.scope y)(hd:aQ y)(eO:dZ y)(hg:Gl X "len")(hm:X.mg "len" = none) :
  PE X (.Call (.Name "len" p) [.Name y px] [] pos) (tE B (K3 i)):=by
 refine aB (cW jd hg hm PySem.boot_len (az (bG hN hv hd eO) aO rfl) (he:=rfl) (hpl:=rfl)) λσ H Q z=>?_;obtain⟨g,s,t,s',x,h,k⟩:=z;unfold K3 at h;split at h
 ·rename_i ts h1
  cases h;obtain⟨l,vs,w1,w2,w3,w4⟩:=x.lY h1;exact⟨_,w1,_,_,rfl,.inl ⟨vs,bW.of w3,w4.len⟩,k _ g H .refl x rfl⟩
 ·rename_i ts h1
  cases h;obtain⟨v,w1,l,vs,rfl,w3,w4⟩:=x.lc.at_ _ _ h1;exact⟨_,w1,_,_,rfl,.inl ⟨vs,bW.of (x.sub _ _ w3),w4.len⟩,k _ g H .refl x rfl⟩
 ·cases h
end
def dU:Expr->Option Const
 |.Constant c _ _=>some c
 |_=>none
def ia(e:Expr):Option Str:=match dU e with
 |some (.str x)=>some x
 |_=>none
def UJ:T->Bool
 |.c8 _ _=>true
 |_=>false
section
theorem Qt{kk:Nat}(hB:B.K=X.K)(hr:aX kk X.A)(ha:PE X a (tE B fa))(hb:PE X b (tE B fb))(hs:ig b):PE X (.Subscript a b pos) (tE B (dD OG fa fb)):=λae sh σ H Q I z=>by
 obtain⟨g,s,t,s',x,h,k⟩:=z;obtain⟨⟨tx,s1⟩,h1,h0⟩:=aa h;obtain⟨⟨ty,s2⟩,h2,h0⟩:=aa h0;obtain⟨t',h3,h0⟩:=aa h0;cases h0;cases hd:UJ tx with
 |false=>
  refine JZ hB ha hb hs ae sh σ H Q I ⟨g,s,t,_,x,?_,k⟩;have e:lU tx ty=OG tx ty:=by cases tx<;>first|rfl|(cases hd)
  unfold dD;rw[h1];show(fb s1).bind _=_;rw[h2];show(aT (lU tx ty)).bind _=_;rw[e,h3];rfl
 |true=>
  cases tx<;>first|(cases hd;done)|skip
  obtain⟨ky,h4,h5⟩:=ba.mp (ah h3);refine uO (by have:=hr.units;omega) ha hb hs ae sh σ H Q I ⟨g,s,_,s1,x,h1,λv g1 H1 p1 x1 r1=>⟨g1,s1,ty,s2,x1,h2,λw g2 H2 p2 x2 r2=>?_⟩⟩
  obtain⟨l,vs,rfl,q,hl,rr⟩:=r1.mv p2.pre p2.fr;obtain⟨v,hv,rv⟩:=(kU (k:=ky) hl rr).1 _ h5;rw[eZ h4 r2];exact⟨l,v,rfl,hv▸.k (x2.sub _ _ q),k v g2 H2 (p1.trans p2) x2 rv⟩
theorem Qu{dp:Pos}:PE X (.Dict [] [] dp) (tE B (cF (.c8 [] []))):=aB lJ λσ H Q z=>by
 obtain⟨g,s,t,s',x,h,k⟩:=z;cases h;intro q hq;have gr:=Gr.new (o:=.dK []) x.sub hq;exact k _ _ _ (x.dW gr) (x.grow gr) ⟨q,[],rfl,af,rfl,rfl⟩
def Qv(l:List (Str×Str)):List (V×V):=l.map λp=>(.str p.1,.str p.2)
theorem A9{l:List (Str×Str)}:∀{σ:St}{H:Hp}{Q:List (V×V)->Hp->Prop},Q (Qv l) H->pP (l.map λp=>(tC (.str p.1),tC (.str p.2))) σ H Q:=by
 induction l with
 |nil=>intro σ H Q h;exact h
 |cons p l ih=>intro σ H Q h;exact ih h
theorem Eo:∀{aw:List (Key×V)}{k:Key}{v:V},k∉aw.map (·.1)->L2.putK aw k v=aw++[(k,v)]:=by
 intro aw k v h;unfold L2.putK;split
 ·rename_i z
  exfalso;obtain⟨q,h1,h2⟩:=zc.mp z;exact h (sH.mpr ⟨q,h1,of_decide_eq_true h2⟩)
 ·rfl
theorem oz:∀{more aw:List (Key×V)},((aw++more).map (·.1)).Nodup->iM aw more=aw++more
 |[],aw,_=>by rw[fh];rfl
 |p::more,aw,h=>by
  have e:aw++p::more=(aw++[p])++more:=by simp
  have h':=h;rw[e]at h';have hn:p.1∉aw.map (·.1):=λz=>by
   rw[jI,ze]at h;exact h.2.2 _ z _ (sH.mpr ⟨p,dj ..,rfl⟩) rfl
  show iM (L2.putK aw p.1 p.2) more=_;rw[Eo hn,oz h',e]
def Ep:List (Option Expr)->Bz->Option (List (Str×Str))
 |[],[]=>some []
 |some k::ks,v::vs=>(ia k).bind λx=>(ia v).bind λy=>if x.length<=1000/\y.length<=1000 then(Ep ks vs).map ((x,y)::·)else none
 |_,_=>none
def Qw(l:List (Str×Str)):T:=.c8 (l.map λp=>.s p.1.cps.toList) (l.map λp=>.str p.2.cps.toList)
theorem fQ{q}(h:dU e=some q):∃k p,e=.Constant q k p:=by
 cases e<;>first|(cases h;done)|(cases h;exact⟨_,_,rfl⟩)
theorem str_inv(h:ia e=some x):∃kk p,e=.Constant (.str x) kk p:=by
 unfold ia at h;cases hc:dU e with
 |none=>rw[hc]at h;cases h
 |some c=>
  rw[hc]at h;cases c<;>first|(cases h;done)|skip
  cases h;exact fQ hc
theorem vC:∀{ks:List (Option Expr)}{vs:Bz}{l:List (Str×Str)},Ep ks vs=some l->Oj X pos ks vs (l.map λp=>(tC (.str p.1),tC (.str p.2)))/\ks.all (·.isSome)=true/\ks.length=vs.length/\ks.length=l.length/\∀p∈l,p.2.length<=1000
 |[],[],l,h=>by cases h;exact⟨DH,rfl,rfl,rfl,λp hp=>by cases hp⟩
 |some k::ks,v::vs,l,h=>by
  obtain⟨x,h1,h⟩:=ba.mp h;obtain⟨y,h2,h⟩:=ba.mp h;split at h
  ·rename_i hl
   obtain⟨l',h3,rfl⟩:=eL.mp h;obtain⟨_,_,rfl⟩:=str_inv h1;obtain⟨_,_,rfl⟩:=str_inv h2;obtain⟨q1,q2,q3,q4,q5⟩:=vC h3;refine⟨Ab pj pj q1,by simpa using q2,by simp[q3],by simp[q4],λp hp=>?_⟩
   rcases cH.mp hp with rfl|hp
   ·exact hl.2
   ·exact q5 p hp
  ·cases h
 |[],_::_,_,h=>by cases h
 |none::_,_,_,h=>by cases h
 |some _::_,[],_,h=>by cases h
theorem vD(x:Str):(⟨x.cps.toList.toArray⟩:Str)=x:=by obtain⟨⟨l⟩⟩:=x;rfl
theorem rB{al:BM}{H:Hp}:∀{l:List (Str×Str)},(∀p∈l,p.2.length<=1000)->aq B al H (l.map λp=>T.str p.2.cps.toList) (l.map λp=>V.str p.2)
 |[],_=>rfl
 |p::l,h=>⟨_,_,rfl,⟨by show V.str p.2=V.str _;rw[vD],by have:=h p (dj ..);obtain⟨_,⟨⟨m⟩⟩⟩:=p;have e:m.length<=1000:=(cU m)▸this;show m.length<=1000000;omega⟩,rB λq hq=>h q (dm _ hq)⟩
def rC(l:List (Str×Str)):List (Key×V):=l.map λp=>(.inr p.1,.str p.2)
theorem oB:∀{l:Bi},l.Nodup->(l.map (λx=>(.inr x:Key))).Nodup
 |[],_=>.nil
 |x::l,h=>by
  rw[km]at h;rw[dY,km];refine⟨λz=>?_,oB h.2⟩;obtain⟨y,h1,h2⟩:=sH.mp z;injection h2 with h2
  exact h.1 (h2▸h1)
theorem vE:∀{l:List (Str×Str)},((l.map λp=>Ky.s p.1.cps.toList).map iR).zip (l.map λp=>V.str p.2)=rC l
 |[]=>rfl
 |p::l=>by
  have ih:=vE (l:=l);rw[dY,dY,dY,k7,ih];show((.inr ⟨p.1.cps.toList.toArray⟩:Key),V.str p.2)::_=_;rw[vD];rfl
theorem K5{ks:List (Option Expr)}{vs:Bz}{l:List (Str×Str)}(h:Ep ks vs=some l)(h0:l≠[])(To:l.length<=15)(hn:(l.map (·.1)).Nodup):PE X (.Dict ks vs pos) (tE B (cF (Qw l))):=by
 obtain⟨q1,q2,q3,q4,q5⟩:=vC (X:=X) (pos:=pos) h;have hk:ks≠[]:=λz=>h0 (by rw[z]at q4;exact CW.mp q4.symm)
 refine aB (DI q1 q2 q3 hk (by omega)) λσ H Q z=>?_
 obtain⟨g,s,t,s',x,h,k⟩:=z;cases h;intro q hq;refine A9 ⟨af,rC l,?_,by unfold rC;rw[dB];exact To,?_⟩
 ·unfold Qv rC
  rw[mV];rfl
 ·have nd:(([]++rC l).map (λq:Key×V=>q.1)).Nodup:=by
   unfold rC;rw[sG,mV]
   have:(l.map (λq:Str×Str=>q.1)).map (λx=>(.inr x:Key))=l.map ((λq:Key×V=>q.1)∘λp:Str×Str=>((.inr p.1,.str p.2):Key×V)):=by rw[mV];rfl
   rw[<- this];exact oB hn
  rw[oz nd,sG,oZ];have gr:=Gr.new (o:=.dK (rC l)) x.sub hq;refine k _ _ _ (x.dW gr) (x.grow gr) ⟨q,l.map λp=>.str p.2,rfl,?_,by simp,rB q5⟩
  show upd g.HF q (.dK (rC l)) q=_;rw[af,vE]
end
section
variable{prog:Program}{w:World}{A:Around}{E:Value->Shared->Prop}{s:Shared}
theorem oF{it l:Addr}{items:Array Value}(gR:l≠it):∀(n i:Nat)(s:Shared)(Q:B2->Shared->Prop),s.heap.IsListIter it l i->s.heap.IsList l items->i+n<=items.size ->
  (∀h':Heap,h'.IsListIter it l (i+n)->Heap.SameBut it s.heap h'->Q ((items.toList.drop i).take n) {s with heap:=h'})->wpAny (model prog w) A (draw (.ref it) n) Q E s
 |0,i,s,Q,hit,_,_,hQ=>by
  show wpAny _ _ (pure []) Q E s;exact wpAny_pure (by simpa using hQ s.heap hit (Heap.SameBut.refl ..))
 |n+1,i,s,Q,hit,ht,hle,hQ=>by
  have eX:i<items.size:=by omega
  show wpAny _ _ (pyNext (.ref it) >>= _) Q E s;refine wpAny_bind (wpAny_pyNext_list_item hit ht (x:=items[i]) (by simp[eX]) λh₁ hit₁ hs₁=>?_)
  refine wpAny_bind (wpAny_holding (oF gR n (i+1) _ _ hit₁ (ht.extBut hs₁.extBut gR) (by omega) λh₂ hit₂ hs₂=>wpAny_pure ?_))
  have hd:items.toList.drop i=items[i]::items.toList.drop (i+1):=by simp[zd,eX]
  have:=hQ h₂ (by rw[show i+(n+1)=i+1+n by omega];exact hit₂) (hs₁.trans hs₂)
  rw[hd,List.take_succ_cons]at this;exact this
theorem jY{l:Addr}{items:Array Value}{Q:B2->Shared->Prop}(hh:A.handled=none)(ht:s.heap.IsList l items)
  (hQ:∀h':Heap,Heap.ExtBut s.heap.objs.size s.heap h'->Q items.toList {s with heap:=h'}):wpAny (model prog w) A (unpackItems (.ref l) items.size none) Q E s:=by
 have eX:l≠s.heap.objs.size:=by obtain⟨o,ho,_⟩:=ht;exact cL (Heap.lt_size ho)
 unfold unpackItems;refine wpAny_bind ?_
 ·unfold notIterableAtAll
  refine wpAny_bind (wpAny_specialOf ht.typeIs slot_list_iter.lookup ?_);refine wpAny_pure ?_;simp only[Gq,if_false];refine wpAny_bind (wpAny_holding (wpAny_pyIter_list ht ?_));refine wpAny_bind (wpAny_holding (oF eX items.size 0 _ _ ⟨_,Heap.get?_push_size _ rfl,rfl,rfl⟩ (ht.push _) (by omega) λh₁ hit₁ hs₁=>?_))
  have zV:List.take items.size (List.drop 0 items.toList)=items.toList:=by
   rw[yS];exact GF (by simp)
  rw[zV];rw[if_neg (by simp)]
  have ht₁:h₁.IsList l items:=(ht.push _).extBut hs₁.extBut eX;refine wpAny_bind (wpAny_holding (wpAny_pyNext_list_end hh hit₁ ht₁ (by simp) λh₂ he₂=>?_))
  simp only[Option.isSome_none,Gq,if_false];refine wpAny_pure (hQ h₂ λb o hb e=>he₂ b o hb (hs₁.extBut b o hb (Heap.get?_push_of_some _ e)))
theorem jy{env:Env}{elts:Bz}{x1}{pos:Pos}{l:Addr}{items:Array Value}{Q:Unit->Shared->Prop}(hh:A.handled=none)(ht:s.heap.IsList l items)
  (hn:(assignEach elts env).length=items.size) (Qx:(assignEach elts env).findIdx? (·.1)=none)
  (h:∀h':Heap,Heap.ExtBut s.heap.objs.size s.heap h'->wpAny (model prog w) A (assignInOrder ((assignEach elts env).map (·.2)) items.toList) Q E {s with heap:=h'}) :
  wpAny (model prog w) A (assign (.Tuple elts x1 pos) env (.ref l)) Q E s:=by
 rw[PyProof.Rows.assign_Tuple];refine wpAny_bind (wpAny_standAt ?_);unfold unpack;rw[hn,Qx];exact wpAny_bind (wpAny_holding (jY hh ht h))
end
section
def Qy(K:aS)(n:Nat)(t:Cr):TG:=λv σ H Q=>∃a xs,v=.ref a/\bW K H a xs/\xs.length=n/\t xs σ H Q
theorem K6{es:Bz}{k:Nat}{t:Cr}{n:Nat}(hc:X.calm=true)(h:MC X es t)
  (hn:(assignEach es X.env).length=n:=by rfl) (uG:(assignEach es X.env).findIdx? (·.1)=none:=by rfl):PG X (.Tuple es k pos) (Qy X.K n t):=by
 intro ae s σ H v u Q I r hw;obtain⟨a,xs,e1,hq,hl,hw⟩:=hw;subst e1;cases r;obtain⟨av,rv,ht,hz⟩:=I.list hq;refine jy (I.ok.hd hc) ht.isList (by simp[hn,<- hl,rv.length]) uG λh' hx=>?_
 have I1:Inv X ae σ H {s with heap:=h'}:=I.kept (t':=s.toks) λb o e=>hx b o (cL (Heap.lt_size e)) e
 exact h ae _ σ H xs _ Q I1 (by simpa using rv) hw
def HQ(is:B1):FG:=λt r=>match t with
 |.lst ts=>nZ is ts r
 |_=>none
theorem K7{B:KT}(is:B1){n:Nat}(hn:is.length=n:=by rfl):nB B (Qy B.K n (jV is)) (HQ is) is:=⟨λal HF H σ ρ t v ρ' Q sm r h hl q=>by
 cases t<;>first|(cases h;done)|skip
 rename_i ts;obtain⟨a,vs,rfl,q1,r⟩:=r;have cM:∀(is:B1)(ts:Fs)(ρ:Fh),nZ is ts ρ=some ρ'->is.length=ts.length:=by
  intro is
  induction is with
  |nil=>intro ts ρ h;cases ts with
   |nil=>rfl
   |cons=>cases h
  |cons i is ih=>intro ts ρ h;cases ts with
   |nil=>cases h
   |cons t ts=>simp[ih ts _ h]
 exact⟨a,vs,rfl,bW.of (sm _ _ q1),by rw[<- r.len,<- cM _ _ _ h,hn],jW is HF H σ ρ ts vs ρ' Q sm r h hl q⟩⟩
end
end D
namespace D
open PySem L2 PySem.W PyProof.Rows PySem.Calls PySem.Builtin PySem.Builtin.ObjectAttr PySem.Builtin.Getset_descriptor
section
variable{K:Frag}{C a:Addr}{oe:Obj}{prog:Program}{w:World}{A:Around}
theorem A_{M:Model}{h:Heap}{x:Addr}{f g:Value}{name:Str}(X:K.In h)(ha:findIn K (.ref C) name=some (some f))(hg:specialIn K f "__get__" = some (some g))(ht:takesIn K f=some true) :
  Looks M h (Builtin.ObjectAttr.find (.ref x) (.ref C) name) (.bind g f):=
 (looks_findIn X ha).andThen ((looks_specialIn X hg).andThen ((show Looks M h (Builtin.ObjectAttr.dataDescriptor? (some f) (some g)) (some (g,f))from(looks_takesIn (M:=M) X ht).andThen .now).andThen (Looks.tag .now)))
theorem Ba{R:Result->Shared->Prop}{s:Shared}{tp:Value}{x:Addr}(X:K.In s.heap)(he:s.heap.get? x=some oe)(hc:oe.cls=.ref C)(hm:mroIn K C (.type "object")=some true)
  (h:R (.ok (.ret (.ref C))) s):codeAny (model prog w) A (.call (.builtin "getset_descriptor.__get__") ⟨[.builtin "object.__class__",.ref x,tp],[]⟩) R s:=by
 obtain⟨hh,g,dr,t,os⟩:=s;have L0:Looks (model prog w) hh (typeOf (.ref x)) (.ref C):=hc▸(Looks.ld he).andThen .now;have L1:=looks_mroIn (M:=model prog w) X hm;refine codeAny_call_builtin KF.slot_gs.plain KF.entry_gs (KF.slot_gs.check _ _ _ _ _ _ _ _ KF.type_class (KF.args_gs _ _ _) ?_);unfold Builtin.«getset_descriptor.__get__» descrGet;rw[dga_obj];refine wpAny_bind (wpAny_pure ?_);unfold descrGetter descrCheckInstance descrNameAndClass isInstance;simp only[KF.owner_class]
 repeat lk
 refine⟨Code.quiet_builtin _ (by decide +kernel),codeAny_builtin KF.entry_class ?_⟩
 unfold Builtin.«object.__class__» shownTypeOf
 repeat lk
 exact h
structure nF(K:Frag)(C:Addr):Prop where
 ga:findIn K (.ref C) "__getattribute__" = some (some (.builtin "BaseException.__getattribute__"))
 gn:findIn K (.ref C) "__getattr__" = some none
 cl:findIn K (.ref C) "__class__" = some (some (.builtin "object.__class__"))
 gt:specialIn K (.builtin "object.__class__") "__get__" = some (some (.builtin "getset_descriptor.__get__"))
 tk:takesIn K (.builtin "object.__class__")=some true
 mb:mroIn K C (.type "BaseException")=some true
 mo:mroIn K C (.type "object")=some true
theorem xN{M:Model}{E:Value->Shared->Prop}{Q:Unit->Shared->Prop}{s:Shared}{HR:Value}(Z:nF K C)(X:K.In s.heap)(he:s.heap.get? a=some oe)(hc:oe.cls=.ref C)(hq:Q () s) :
  wpAny M A (checkBuiltinCall "BaseException.__getattribute__" ⟨[.ref a,HR],[]⟩) Q E s:=by
 obtain⟨hh,g,d,t,os⟩:=s;have L0:Looks M hh (typeOf (.ref a)) (.ref C):=hc▸(Looks.ld he).andThen .now;have L4:=looks_mroIn (M:=M) X Z.mb;have hk:builtinKind "BaseException.__getattribute__" = some .slot:=by decide +kernel
 have Bb:splitId "BaseException.__getattribute__" = some ("BaseException","__getattribute__"):=by decide +kernel
 have ha:=F.args_bexc_ga (.ref a) HR;simp only[checkBuiltinCall,hk,Bb];refine wpAny_bind ?_;unfold isInstance;refine wpAny_bind (L0.at (L4.at ?_))
 repeat (first|wp_step)
 exact hq
theorem K8{E:Value->Shared->Prop}{Q:D1->Shared->Prop}{s:Shared}(Z:nF K C)(X:K.In s.heap)(he:s.heap.get? a=some oe)(hc:oe.cls=.ref C)(h:Q (some (.ref C)) {s with toks:=s.toks+1}) :
  wpAny (model prog w) A (getAttr? (.ref a) "__class__") Q E s:=by
 obtain⟨hh,g,d,t,os⟩:=s;have L0:Looks (model prog w) hh (typeOf (.ref a)) (.ref C):=hc▸(Looks.ld he).andThen .now;have L1:=looks_findIn (M:=model prog w) X Z.ga;have L2:=looks_findIn (M:=model prog w) X Z.gn;have L3:=A_ (M:=model prog w) (x:=a) X Z.cl Z.gt Z.tk;have L4:=looks_mroIn (M:=model prog w) X Z.mb;have f3:=F.excAttr_ValueError.ga.bind (.ref a);have hk:builtinKind "BaseException.__getattribute__" = some .slot:=by decide +kernel
 have Bb:splitId "BaseException.__getattribute__" = some ("BaseException","__getattribute__"):=by decide +kernel
 have Ze:(Value.builtin "BaseException.__getattribute__" == Value.builtin "object.__getattribute__")=false:=by decide +kernel
 have Zf:(onTheHeap (Value.ref C)&&Value.builtin "BaseException.__getattribute__" == Value.builtin "object.__getattribute__")=false:=by rw[Ze];rfl
 unfold getAttr? getAttrBy? getAttrBy;refine wpAny_bind (wpAny_mkText (wpAny_bind (wpAny_attempt (wpAny_holding (wpAny_bind (L0.at (wpAny_bind (L1.at ?_))))))));dsimp only;rw[Zf,if_neg (by decide)]
 unfold getAttrByItsOwn;refine wpAny_bind ?_;show wpAny _ _ (typeLookup (.ref C) "__getattr__") _ _ _;refine L2.at ?_;refine wpAny_bind (wpAny_attempt (wpAny_holding ?_));show wpAny _ _ (boundAndCalled _ _ _) _ _ _;unfold boundAndCalled;rw[f3];refine wpAny_bind (wpAny_pure ?_);refine wpAny_call (codeAny_call_builtin F.excAttr_ValueError.ga.plain F.entry_bexc_ga ?_);refine xN Z X he hc ?_;unfold «object.__getattribute__»
 repeat ((fail_if_success (with_reducible show wpAny _ _ (PySem.call _ _ _) _ _ _));lk)
 refine wpAny_call (Ba X he hc Z.mo ?_)
 repeat lk
 exact h
end
end D
namespace D
open PySem L2 PySem.W PyProof.Rows
variable{C:Addr}{X:Cx}{B:Heap}{H H':Hp}{s:Shared}
section
variable{K:Frag}{a:Addr}{oe:Obj}
theorem vG(Z:nF K C):∃cd,clsIn K C=some cd:=by
 have h:=Z.mo;unfold mroIn at h;obtain⟨cd,e,_⟩:=ba.mp h;exact⟨cd,e⟩
theorem rD(Z:nF K C)(hc:oe.cls=.ref C):KitX K (.ref a) (.ref C) (λh=>h.get? a=some oe) where
 ty:=λ_ _ _ e=>hc▸(Looks.ld e).andThen .now
 it:=λ_ _ X _=>by
  obtain⟨Zg,Dg⟩:=vG Z;unfold clsIn at Dg;split at Dg
  ·rename_i c' d' Zh G2 ho
   intro A' Q' E' s' k q;unfold isType loadHead;exact wpAny_bind (wpAny_loadPart (k _ _ (X _ _ ho)) (wpAny_pure q))
  ·cases Dg
 ne:=λh tp dd av n sl X Uz=>by
  obtain⟨Zg,Dg⟩:=vG Z;refine Bool.eq_false_iff.mpr λq=>?_;have e:C=tp:=Value.ref.inj (beq_iff_eq.mp q);subst e;unfold clsIn at Dg;split at Dg
  ·rename_i c' d' Zh G2 ho
   have z:=(X _ _ ho).symm.trans Uz;cases z
  ·cases Dg
 ca:=λX e k=>K8 Z X e hc k
end
structure Lies(P:Program)(w:World)(stack:List Env)(H:Hp)(s:Shared)(H':Hp)(B h:Heap):Prop where
 un:Un (mL stack) [] H H' s.heap h
 aV:iI P w H' h
 Cq:∀c u,H' c=some u->∃o,B.get? c=some o
 old:∀b o,s.heap.get? b=some o->b∉mL stack->∃o',B.get? b=some o'
section
variable{P:Program}{w:World}{stack outer:List Env}{h h':Heap}
theorem Lies.on(L:Lies P w stack H s H' B h)(st:B.StaysIn h)(mZ:B.StaysIn h')(up:h.UpToSlots h')(ff:h.FunFrames B stack):Lies P w stack H s H' B h':=by
 have frame:∀b o,b∈mL stack->h.get? b=some o->∃sl,h'.get? b=some {o with slots:=sl}:=λb o hb e=>by
  obtain⟨_,o',e',d⟩:=ff.mem hb;rw[e]at e';cases e';exact up b o e d
 have other:∀b o,(∃o',B.get? b=some o')->h.get? b=some o->h'.get? b=some o:=λb o ⟨o',q⟩ e=>by
  have:=st b o' q
  rw[e]at this;cases this;exact mZ b _ q
 refine⟨⟨λb o e n hb hx=>other b o (L.old b o e hb) (L.un.keep b o e n hb hx),λb o e n hb hx=>?_,L.un.free,λb o e hx=>?_,L.un.mW,L.un.k8,L.un.mX⟩,λa o e=>?_,L.Cq,L.old⟩
 ·obtain⟨sl,e1⟩:=L.un.slot b o e n hb hx
  obtain⟨G2,e2⟩:=frame b _ hb e1;exact⟨G2,e2⟩
 ·obtain⟨o',e1⟩:=L.un.there b o e hx
  by_cases hb:b∈mL stack
  ·obtain⟨sl,e2⟩:=frame b _ hb e1
   exact⟨_,e2⟩
  ·exact⟨o',other b o' (L.old b o e hb) e1⟩
 ·refine(L.aV a o e).o9 (λc u hc q=>other c u ?_ q) (λ_ q=>q) λ_ _ q=>q
  rcases hc with rfl|hc
  ·exact L.Cq _ _ e
  ·exact L.Cq _ _ hc
end
def tZ(P:Program)(w:World)(C:Addr):yf:=λstack H s E e s'=>∃a t H' B,e=.ref a/\s'.os=s.os/\AllBare s'.gens/\Lies P w stack H s H' B s'.heap/\Heap.FlyingW B stack a (.ref C) (.ref t) s'.heap/\E (.ref C) none H'
theorem rE{P:Program}{w:World}{H:Hp}{h:Heap}{a:Addr}{o:HO}(x:bA P w H h a o):∃ob,h.get? a=some ob:=by
 induction o with
 |lst xs=>obtain⟨_,_,_,_,e⟩:=x;exact⟨_,e⟩
 |tup xs=>obtain⟨_,_,_,ob,e,_⟩:=x;exact⟨ob,e⟩
 |dK aw=>obtain⟨_,_,_,_,ob,_,_,e,_⟩:=x;exact⟨ob,e⟩
 |dT aw=>obtain⟨_,_,_,_,ob,_,_,e,_⟩:=x;exact⟨ob,e⟩
 |set S n=>obtain⟨ob,_,_,_,e,_⟩:=x;exact⟨ob,e⟩
 |ins C dx fs=>obtain⟨_,_,_,e,_⟩:=x;exact⟨_,e⟩
 |own y=>exact x
 |xd fs=>obtain⟨_,⟨ob,_,_,e,_⟩,_⟩:=x;exact⟨ob,e⟩
 |mK lo hi=>obtain⟨_,_,_,e⟩:=x;exact⟨_,e⟩
 |gJ o u _=>exact⟨o,x.1⟩
 |tbl ps=>exact⟨_,x⟩
 |met f y=>exact⟨_,x⟩
 |ext φ=>exact x.2.1
structure HS(X:Cx)(C:Addr)(E:XK):Prop where
 lv:∀e s',wpAny (model X.prog X.w) X.A (leaving X.env e) (λ_ wU=>tZ X.prog X.w C X.outer X.H₀ X.s₀ E e wU) (λe' wU=>tZ X.prog X.w C X.outer X.H₀ X.s₀ E e' wU) s'->X.xe e s'
 st:X.stack=X.env::X.outer
 ex:X.ex=[]
 fr:X.env.frame=some X.env.locals
 cm:X.calm=true
section
variable{E:XK}{ae:b7}{σ:L2.St}{h:Heap}
theorem vH(Z:HS X C E)(I:Inv X ae σ H s)(old:∀b o,s.heap.get? b=some o->b∉mL X.stack->∃o',B.get? b=some o') :
  ∀b o,X.s₀.heap.get? b=some o->b∉mL X.outer->∃o',B.get? b=some o':=λb o e hb=>by
 obtain⟨o',e1⟩:=I.base.there b o e (by rw[Z.ex];simp)
 refine old b o' e1 λz=>?_;rcases cH.mp (I.k9 b z)with q|q
 ·exact absurd q (cL (gy (Heap.lt_size e) I.ok.above))
 ·exact hb q
theorem Qz(Z:HS X C E):Passes (tZ X.prog X.w C) X E:=by
 rintro ae σ H s e s' I ⟨a,t,H',B,rfl,ho,hb,L,F,q⟩
 apply Z.lv;have I':Inv X ae σ H' s':=I.zm ho L.un L.aV hb (λb z=>absurd z (by simp))
 have F0:=F;rw[Z.st]at F;refine wpAny_leaves_onW (L:=X.env.locals) (by rw[I.ok.frames,Z.st]) Z.fr F λh' F' up=>?_
 refine⟨a,t,H',B,rfl,I'.os,hb,?_,F',q⟩;have L2:Lies X.prog X.w X.outer X.H₀ X.s₀ H' B s'.heap:=⟨by have:=I'.base;rw[Z.ex]at this;exact this,I'.aV,L.Cq,vH Z I L.old⟩
 exact L2.on F.1 F'.1 up F.2.2.1.2.2
theorem K9(Z:HS X C E)(I:Inv X ae σ H s){e:Addr}{args:B2}{h':Heap}(hm:Heap.MadeExcOf s.heap h' e (.ref C) args)(q:E (.ref C) none H):X.xe (.ref e) {s with heap:=h'}:=by
 apply Z.lv;have ff:s.heap.FunFrames (hideAll s.heap (mL X.stack)) X.stack:=funFrames_hide I.stack λenv he b hb=>CM.mpr ⟨env,he,hb⟩;rw[Z.st]at ff;have W3:(hideAll s.heap (mL X.stack)).StaysIn s.heap:=λb o q=>of_hideAll _ q;refine wpAny_leaves_madeW (L:=X.env.locals) (base:=hideAll s.heap (mL X.stack)) (h:=s.heap) (by rw[I.ok.frames,Z.st]) Z.fr W3 (by rw[Z.st];exact ff) hm λh3 t F' tup nt up=>?_
 refine⟨e,t,H,hideAll s.heap (mL X.stack),rfl,I.os,I.bare,?_,F',q⟩;have L2:Lies X.prog X.w X.outer X.H₀ X.s₀ H (hideAll s.heap (mL X.stack)) s.heap:=⟨by have:=I.base;rw[Z.ex]at this;exact this,I.aV,λc u e=>?_,vH Z I λb o e hb=>⟨o,hideAll_get _ e hb⟩⟩
 ·exact L2.on W3 F'.1 ((Heap.UpToSlots.of_keeps hm.keeps).trans up) (by rw[Z.st];exact ff.2.2)
 ·obtain⟨ob,e1⟩:=rE (I.aV c u e)
  refine⟨ob,hideAll_get _ e1 λz=>?_⟩;rw[I.pe c z]at e;cases e
end
theorem Er{K:Frag}{h:Heap}{C:Addr}{HU:B2}{newId:String}(X:K.In h)(q:excIn K C HU newId=true) :
  ∃bm N nm qn bs hd sn sub ab col dd k0 k1 k2 k3 k5,h.get? C=some (excClassObj nm qn C N bs bm hd sn sub ab col dd k0 k1 k2 k3 k5 newId)/\h.Ns N (h.nsMap N)/\h.nsMap N "__init__" = none/\OwnTail h HU bm:=by
 unfold excIn at q;split at q
 ·rename_i Zi UK Zj lo
  split at q
  ·rename_i C1 Zk u0 u1 u2 u3 nid u5 mq sq
   simp only[bL,beq_iff_eq,Gs]at q;obtain⟨⟨⟨⟨⟨rfl,rfl⟩,HV⟩,Zl⟩,UL⟩,W4⟩:=q;obtain⟨nm,bs,mro,ns,qn,Zm,sn,sub,ab,col,del⟩:=UK;dsimp only at mq HV UL W4;subst mq HV;obtain⟨sl1⟩:=Zj;simp only at sq;subst sq;refine⟨Zk,ns,nm,qn,bs,Zm,sn,sub,ab,col,Zi,u0,u1,u2,u3,u5,X _ _ lo,?_,?_,tail_of_in X Zl⟩
   ·exact .of_isNs (isNs_of_in X UL)
   ·exact nsMap_none_of_in X UL W4
  ·cases q
 ·cases q
section
variable{E:XK}{x:Str}{e₀:PySem.Expr}{ta:TE}{np aW pos:Pos}{Bn newId t_:String}{HU:B2}
theorem Bc(Z:HS X C E)(FB:ExcBaseFacts Bn newId t_ HU)(q:excIn X.K C HU newId=true)(hm:X.mg x=some (.ref C))(ha:PE X e₀ ta)(hg:Gl X x:=by rfl)(iK:aQ x:=by decide)
  (he:starEach [e₀] X.env=(false,eval e₀ X.env)::starEach [] X.env:=by rfl):PS X (.Raise (some (.Call (.Name x np) [e₀] [] aW)) none pos) (λ_ σ H=>ta σ H λx H1=>[x].length=1/\E (.ref C) none H1):=by
 intro ae s σ H D I h;obtain⟨bm,N,nm,qn,bs,hd,sn,sub,ab,col,dd,k0,k1,k2,k3,k5,hC,hN,Zn,T⟩:=Er I.mod.kin q;refine wpAny_Raise_call_subT (C:=C) (nm:=nm) (q:=qn) (N:=N) (bs:=bs) (bm:=bm) (hdct:=hd) (sn:=sn) (sub:=sub) (ab:=ab) (col:=col) (dd:=dd) (k0:=k0) (k1:=k1) (k2:=k2) (k3:=k3) (k5:=k5) (newId:=newId)
  FB (mN:=X.base.nsMap N) (T.hasType FB.hasBase) (I.ok.hd Z.cm) (by rw[he];rfl) Zn (fX I hg hm ⟨rfl,?_⟩ iK)
 have pa:=az ha (aO (X:=X)) he aW ae s σ H (λvs H1=>vs.length=1/\E (.ref C) none H1) I ?_
 ·rw[he]at pa ⊢
  refine Calls.evalArgs_plain (wpAny_mono pa (λus s2 ⟨vs,H1,I1,r,l1,q1⟩=>?_) λ_ _ y=>y);refine⟨rfl,?_,I1.bk _ _ hC,hN.keeps I1.bk,T.keeps I1.bk,λh' e Zo=>K9 Z I1 Zo q1⟩;show us.length<=sizeLine;rw[<- r.length,l1];decide
 ·exact h
end
abbrev i8(X:Cx)(a:Addr)(oe:Obj):Cx:={X with A:=X.A.mark (some (.ref a)),calm:=false,pn:=(a,oe)::X.pn,xe:=λ_ _=>False}
section
variable{ae:b7}{σ:L2.St}{s':Shared}{a t CB:Addr}{oe:Obj}
theorem Inv.K_(I:Inv X ((a,oe)::ae) σ H s):Inv (i8 X a oe) ae σ H s:=
 ⟨⟨I.ok.mod,I.ok.kind,I.ok.glob,I.ok.blt,I.ok.above,I.ok.inj,I.ok.has,I.ok.cab,(λz=>nomatch z),I.ok.frames,I.ok.stk,I.ok.exf,I.ok.bs,I.ok.bsz,I.ok.noex,I.ok.exfs,I.ok.i9,I.ok.frf⟩,I.os,I.bare,I.base,I.loc,I.cell,I.free,I.freeC,
  λp hp=>I.pin p (by
   rcases qp.mp hp with z|z
   ·rcases cH.mp z with z|z
    ·rw[z];simp
    ·exact yV _ z
   ·simp[z]),I.aV,I.len⟩
theorem Inv.Bd(ok:X.Ok)(I:Inv (i8 X a oe) ae σ H s):Inv X ae σ H s:=
 ⟨ok,I.os,I.bare,I.base,I.loc,I.cell,I.free,I.freeC,
  λp hp=>I.pin p (by
   rcases qp.mp hp with z|z
   ·simp[z]
   ·simp[z]),I.aV,I.len⟩
theorem name_goes{M:Model}{A:Around}{E:Value->Shared->Prop}{i:Nat}{x:Str}{pos:Pos}{Q:Unit->Shared->Prop}(I:Inv X ae σ H s)(hN:X.N.Nodup)(hi:X.N[i]?=some x)(hk:X.env.scope.names.lookup x=some .local)
  (h:∀s',Inv X ae (σ.set i none) H s'->Q () s'):wpAny M A (do bindName X.env x .none;unbindBehindTheSuite X.env x pos) Q E s:=by
 obtain⟨m,hn,hl⟩:=id I.loc;have ID:(X.env.scope.kind == .class ||(X.env.scope.kind == .module&&X.env.locals != X.env.globals))=false:=by rw[I.ok.kind];rfl
 refine wpAny_nameGoes_keeps hk hn ID λh' v Sk hs=>h _ ?_;obtain⟨oL,es0,ep0,VT,hdL,_⟩:=id hn;have UM:∀b o,X.s₀.heap.get? b=some o->b≠X.env.locals:=λb o e=>cL (gy (Heap.lt_size e) I.ok.above);refine⟨I.ok,I.os,I.bare,⟨λb o e n hb hx=>(hs.2 b (UM b o e)).trans (I.base.keep b o e n hb hx),λb o e n hb hx=>?_,I.base.free,λb o e hx=>?_,I.base.mW,I.base.k8,I.base.mX⟩,⟨_,Sk,λj y v' e1 e2 e3=>?_⟩,λy c e=>?_,I.free,I.freeC,λp hp=>?_,λb ob e=>?_,by simpa using I.len⟩
 ·obtain⟨sl,e1⟩:=I.base.slot b o e n hb hx
  exact⟨sl,(hs.2 b (UM b o e)).trans e1⟩
 ·obtain⟨o',e1⟩:=I.base.there b o e hx
  exact⟨o',(hs.2 b (UM b o e)).trans e1⟩
 ·have hj:j≠i:=by
   rintro rfl
   by_cases eX:j<σ.length
   ·rw[c9 eX]at e2;cases e2
   ·rw[zg (by simpa using eX)]at e2;cases e2
  rw[gF (Ne.symm hj)]at e2;obtain⟨u',r',q⟩:=hl j y v' e1 e2 e3;refine⟨u',r',?_⟩;rcases q with⟨k,e⟩|⟨k,c,e,z⟩
  ·refine .inl ⟨k,?_⟩
   have:y≠x:=λe=>hj (k_ hN e1 (e▸hi))
   simp[this,e]
  ·exact .inr ⟨k,c,e,z.sameBut hs (I.C0 y c e)⟩
 ·obtain⟨w',z⟩:=I.cell y c e
  exact⟨w',z.sameBut hs (I.C0 y c e)⟩
 ·obtain⟨e,n,ne,nf,d⟩:=I.pin p hp
  exact⟨(hs.2 p.1 ne).trans e,n,ne,nf,d⟩
 ·refine(I.aV b ob e).o9 (λc w' hc q=>(hs.2 c ?_).trans q) (λ_ q=>q) λ_ _ q=>q
  rintro rfl
  rcases hc with z|hc
  ·have:=I.free;rw[z,e]at this;cases this
  ·have:=I.free;rw[hc]at this;cases this
theorem Es(L:Lies X.prog X.w X.stack H s H' B s'.heap)(F:Heap.FlyingW B X.stack a (.ref C) (.ref t) s'.heap):H' a=none:=by
 cases e:H' a with
 |none=>rfl
 |some u=>
  obtain⟨o,q⟩:=L.Cq a u e;rw[F.2.1]at q;cases q
theorem qc{h5:Heap}(I:Inv X ae σ H s)(ho:s'.os=s.os)(hb:AllBare s'.gens)(L:Lies X.prog X.w X.stack H s H' B h5)(F:Heap.FlyingW B X.stack a (.ref C) (.ref t) h5) :
  ∃oe,oe.cls=.ref C/\h5.get? a=some oe/\Inv X ((a,oe)::ae) σ H' {s' with heap:=h5}:=by
 have I5:Inv X ae σ H' {s' with heap:=h5}:=I.zm (s':={s' with heap:=h5}) ho L.un L.aV hb (λb z=>absurd z (by simp))
 obtain⟨oe,ws,MW,UN,UO,_⟩:=F.first
 have new:H' a=none:=Es (s':={s' with heap:=h5}) L F
 refine⟨oe,UN,MW,I5.ph λp hp=>?_⟩;rcases cH.mp hp with z|z
 ·subst z
  refine⟨MW,new,λz=>?_,λz=>?_,λv z=>?_⟩
  ·obtain⟨m,⟨o',es,ep,yc,G0,_⟩,_⟩:=I5.loc
   have z:a=X.env.locals:=z;have yc:h5.get? X.env.locals=some o':=yc;rw[<- z,MW]at yc;cases yc;rw[UO]at G0;cases G0
  ·obtain⟨_,o',e',d'⟩:=I5.i9.mem z
   have e':h5.get? a=some o':=e';rw[MW]at e';cases e';exact d' ws UO
  ·rw[UO]at z;cases z
 ·exact I5.pin p (k6 _ z)
theorem Be{Q:Flow->Shared->Prop}{y:Str}{np pos:Pos}{nm:Option Str}{e_:DD}{rest:List ExceptHandler}(I:Inv X ae σ H s)(uG:X.stack=X.env::X.outer)(Hc:X.env.frame=some X.env.locals)(ho:s'.os=s.os)(hb:AllBare s'.gens)
  (L:Lies X.prog X.w X.stack H s H' B s'.heap) (F:Heap.FlyingW B X.stack a (.ref C) (.ref t) s'.heap) (hm:X.mg y=some (.ref CB)) (hx:exmOne X.K (.ref C) (.ref CB)=some true)
  (k:∀h5,Lies X.prog X.w X.stack H s H' B h5->Heap.FlyingW B X.stack a (.ref C) (.ref t) h5 ->
   codeAny (model X.prog X.w) (X.A.mark (some (.ref a))) (.handlers (.ref a) [.ExceptHandler none nm e_ pos] X.env) (λr s₂=>match r with
     |.ok f=>(match nm with
      |none=>Q f s₂
      |some n=>wpAny (model X.prog X.w) X.A (do bindName X.env n .none;unbindBehindTheSuite X.env n pos) (λ_ s₃=>Q f s₃) (λ_ _=>False) s₂)
     |.error x=>cameBackBy (model X.prog X.w) X.A X.env (λ_ _=>False) x s₂) {s' with heap:=h5})
  (hg:Gl X y:=by rfl) (iK:aQ y:=by decide) :
  wpAny (model X.prog X.w) X.A (noteFrame (.ref a) X.env) (λ_ s₂=>wpAny (model X.prog X.w) X.A (setFlight (.ref a) none) (λ_ s₃=>
   wpAny (model X.prog X.w) X.A (handleBy (.ref a) X.env (.ExceptHandler (some (.Name y np)) nm e_ pos::rest)) Q (λ_ _=>False) s₃) (λ_ _=>False) s₂) (λ_ _=>False) s':=by
 have F1:=F;rw[uG]at F1;refine wpAny_looks_onW (L:=X.env.locals) (by rw[I.ok.frames,uG]) Hc F1 λh4 held Zp=>?_
 have L4:=L.on F.1 held.1 Zp F.2.2.1;refine wpAny_landsW held λh5 F5 Zq=>?_;have L5:=L4.on held.1 F5.1 Zq (by rw[uG];exact held.2.2.1)
 rw[<- uG]at F5;obtain⟨oe,UN,MW,I6⟩:=qc (s':=s') I ho hb L5 F5;refine wpAny_handleBy_cons (codeAny_handlers_test ?_) (by intro q;cases q)
 refine fX (X:=i8 X a oe) (Inv.K_ I6) hg hm ?_ iK;have LT:Looks (model X.prog X.w) h5 (typeOf (.ref a)) (.ref C):=UN▸(Looks.ld MW).andThen .now;refine exm_one (M:=model X.prog X.w) (h:=h5) I6.gK LT hx _ _ _ _ (λ_ _ e=>e) ?_;exact k h5 L5 F5
theorem La{Q:Flow->Shared->Prop}{pos:Pos}{st:Stmt}{e_:DD}{h5:Heap}(I:Inv X ae σ H s)(ho:s'.os=s.os)(hb:AllBare s'.gens)
  (L:Lies X.prog X.w X.stack H s H' B h5) (F:Heap.FlyingW B X.stack a (.ref C) (.ref t) h5)
  (k:∀oe s6,oe.cls=.ref C->Inv (i8 X a oe) ae σ H' s6->wpAny (model X.prog X.w) (X.A.mark (some (.ref a))) (execs (st::e_) X.env) Q (λ_ _=>False) s6) :
  codeAny (model X.prog X.w) (X.A.mark (some (.ref a))) (.handlers (.ref a) [.ExceptHandler none none (st::e_) pos] X.env) (λr s₂=>match r with
     |.ok f=>Q f s₂
     |.error x=>cameBackBy (model X.prog X.w) X.A X.env (λ_ _=>False) x s₂) {s' with heap:=h5}:=by
 refine codeAny_handlers_suite (lands_againW F λh6 F6 UP=>?_);have L6:=L.on F.1 F6.1 UP F.2.2.1;obtain⟨oe,hc,he,I6⟩:=qc (s':=s') I ho hb L6 F6;exact wpAny_passesOwnAt PassesOwnAt.never (k oe _ hc (Inv.K_ I6))
theorem Et{Q:Flow->Shared->Prop}{pos:Pos}{n:Str}{i:Nat}{st:Stmt}{e_:DD}{h5:Heap}(I:Inv X ae σ H s)(ho:s'.os=s.os)(hb:AllBare s'.gens)(hN:X.N.Nodup)(hi:X.N[i]?=some n)(hk:X.env.scope.names.lookup n=some .local)
  (L:Lies X.prog X.w X.stack H s H' B h5) (F:Heap.FlyingW B X.stack a (.ref C) (.ref t) h5)
  (k:∀oe s6,oe.cls=.ref C->Inv (i8 X a oe) ae (σ.set i (some (.ref a))) H' s6->wpAny (model X.prog X.w) (X.A.mark (some (.ref a))) (execs (st::e_) X.env) (λf s8=>∃σ8 H8,Inv (i8 X a oe) ae σ8 H8 s8/\∀s9,Inv X ae (σ8.set i none) H8 s9->Q f s9) (λ_ _=>False) s6) :
  codeAny (model X.prog X.w) (X.A.mark (some (.ref a))) (.handlers (.ref a) [.ExceptHandler none (some n) (st::e_) pos] X.env) (λr s₂=>match r with
     |.ok f=>wpAny (model X.prog X.w) X.A (do bindName X.env n .none;unbindBehindTheSuite X.env n pos) (λ_ s₃=>Q f s₃) (λ_ _=>False) s₂
     |.error x=>cameBackBy (model X.prog X.w) X.A X.env (λ_ _=>False) x s₂) {s' with heap:=h5}:=by
 refine codeAny_handlers_suite_as (lands_againW F λh6 F6 UP=>?_);have L6:=L.on F.1 F6.1 UP F.2.2.1;obtain⟨oe,hc,he,I6⟩:=qc (s':=s') I ho hb L6 F6;refine i_ I6 hN hi (Or.inl hk) (v:=.ref a) rfl (λs7 I7=>?_) (Or.inr hk);refine wpAny_mono (k oe s7 hc (Inv.K_ I7)) (λf s8 ⟨σ8,H8,I8,q⟩=>?_) λ_ _ z=>z.elim;exact name_goes (Inv.Bd I.ok I8) hN hi hk q
end
end D
namespace D
open PySem L2
def oG{α:Type}:Res α->Res α
 |.ok a=>.ok a
 |_=>.bad
def Eu(F:FS):FS:=λs=>oG (F s)
def xF(c:FT)(F:FS):FS:=λs=>(oG (c s)).bind λp=>if p.1 then .exc 0 [] p.2 else F p.2
theorem mj{α:Type}{x:Res α}{a:α}(h:oG x=.ok a):x=.ok a:=by cases x<;>first|exact h|cases h
theorem kW{α:Type}{x:Res α}{c:Nat}{fs:Fs}{s:S}(h:oG x=.exc c fs s):False:=by cases x<;>cases h
theorem jz{α β:Type}{x:Res α}{f:α->Res β}{c:Nat}{fs:Fs}{s:S}(h:x.bind f=.exc c fs s):x=.exc c fs s\/∃a,x=.ok a/\f a=.exc c fs s:=by
 cases x with
 |ok a=>exact .inr ⟨a,rfl,h⟩
 |bad=>cases h
 |exc _ _ _=>cases h;exact .inl rfl
def tX(B:KT)(EX:Hp->Prop)(f:FS):TS:=λD σ H=>∃g s,SR B g H σ s/\((∃o s',f s=.ok (o,s')/\xH B g H D o s')\/(∃c fs s',f s=.exc c fs s'/\∀g' H',b8 g H g' H'->cO B g' H' s'.m->EX H'))
def xO(B:KT)(C:Addr)(f:Fn):Sp:=λvs H Q E=>∃g ts m,cO B g H m/\aq B g.al g.HF ts vs/\((∃t m',f ts m=.ok (t,m')/\∀v g' H',b8 g H g' H'->cO B g' H' m'->Rep B g'.al g'.HF t v->Q v H')\/(∃c fs s',f ts m=.exc c fs s'/\∀g' H',b8 g H g' H'->cO B g' H' s'.m->E (.ref C) none H'))
section
variable{B:KT}{X:Cx}{e c:Expr}{pos np aW UQ:Pos}{fa:FE}{ft:FT}{F:FS}{EX:Hp->Prop}{rest:DD}{st:Stmt}{x:Str}{C:Addr}{E:XK}
theorem QA(h:fm X rest (tS B F)):fm X rest (tX B EX (Eu F)):=jR h λD σ H z=>by
 obtain⟨g,s,x,z⟩:=z;rcases z with⟨o,s',h,k⟩|⟨c,fs,s',h,k⟩
 ·exact⟨g,s,o,s',x,mj h,k⟩
 ·exact(kW h).elim
theorem UR{Bn newId t_:String}{HU:B2}{l:Str}{kk:Nat}{lp:Pos}(Z:HS X C E)(FB:ExcBaseFacts Bn newId t_ HU)(q:yE X.K C HU newId=true)(hm:X.mg x=some (.ref C))(hg:Gl X x)(iK:aQ x)
  (hc:PT X c (tT B ft)) (hr:fm X rest (tX B (λH=>E (.ref C) none H) F)):fm X (.If c [.Raise (some (.Call (.Name x np) [.Constant (.str l) kk lp] [] aW)) none UQ] [] pos::rest) (tX B (λH=>E (.ref C) none H) (xF ft F)):=by
 have hl:PE X (.Constant (.str l) kk lp) (tC (.str l)):=pj;refine jR (fG (G6 hc (kK (Bc Z FB q hm hl hg iK rfl)) pA) hr) λD σ H z=>?_;obtain⟨g,s,x,z⟩:=z;rcases z with⟨o,s',h,k⟩|⟨c,fs,s',h,k⟩
 ·obtain⟨⟨d,s1⟩,h1,h⟩:=aa h
  refine⟨g,s,d,s1,x,mj h1,λg1 H1 p1 x1=>?_⟩;cases d with
  |true=>cases h
  |false=>exact lC ⟨g1,s1,x1,.inl ⟨o,s',h,k.mv p1⟩⟩
 ·rcases jz h with h|⟨⟨d,s1⟩,h1,h⟩
  ·exact(kW h).elim
  refine⟨g,s,d,s1,x,mj h1,λg1 H1 p1 x1=>?_⟩;cases d with
  |true=>cases h;exact ng ⟨rfl,k g1 H1 p1 x1.st⟩
  |false=>exact lC ⟨g1,s1,x1,.inr ⟨c,fs,s',h,λg' H' p'=>k g' H' (p1.trans p')⟩⟩
end
section
variable{B:KT}{P:Program}{w:World}{K:aS}{mg:Str->D1}{base:Heap}{C:Addr}
theorem Bf{f:Addr}{fd:FuncData}{ps:Bi}{k:Nat}{fn:Fn}(F:bH P w K mg base (tZ P w C) k f fd ps (xO B C fn)):bH P w K mg base (tZ P w C) k f fd ps (xO B C (cz fn)):=F.imp λvs H Q E h=>by
 obtain⟨g,ts,m,x,r,h⟩:=h;have hn:bD ts=true:=by
  cases q:bD ts with
  |true=>rfl
  |false=>rcases h with⟨t,m',h,_⟩|⟨c,fs,s',h,_⟩<;>(unfold cz at h;rw[q]at h;cases h)
 have x0:cO B ⟨g.HF,λ_=>none,[]⟩ H []:=⟨x.sub,λb p e=>(by cases e),rfl,λk ob e=>(by simp at e)⟩
 have back:∀{g0:G}{H':Hp},b8 ⟨g.HF,λ_=>none,[]⟩ H g0 H'->aA g0.HF H'->b8 g H ⟨g0.HF,g.o,g.al⟩ H'/\cO B ⟨g0.HF,g.o,g.al⟩ H' m:=λ{g0 H'} p ys=>by
  have keep:∀b p,g.o b=some p->H' b=H b/\g0.HF b=none:=λb q hb=>by
   obtain⟨h1,u,h2⟩:=x.live b q hb;obtain⟨h3,h4,_⟩:=p.rest b u h2 h1 rfl;exact⟨h3.trans h2.symm,h4⟩
  refine⟨⟨p.fr,cA,λb u h n z=>?_,p.there⟩,x.mv ys (λb p e=>?_) p.fr rfl λl p h _=>⟨h,(keep l p h).1⟩⟩
  ·obtain⟨h3,h4,_⟩:=p.rest b u h n rfl
   exact⟨h3,h4,z⟩
  ·obtain⟨h1,u,h2⟩:=x.live b p e
   obtain⟨h3,h4⟩:=keep b p e;exact⟨h4,u,h3.trans h2⟩
 refine⟨⟨g.HF,λ_=>none,[]⟩,ts,[],x0,aq.no hn r,?_⟩;unfold cz at h;rw[if_pos hn]at h;cases e:fn ts []with
 |bad=>rw[e]at h;rcases h with⟨t,m',h,_⟩|⟨c,fs,s',h,_⟩<;>cases h
 |ok z=>
  rw[e]at h;dsimp only at h;by_cases zE:noOwn z.1=true
  ·rw[if_pos zE]at h
   rcases h with⟨t,m',h,q⟩|⟨c,fs,s',h,_⟩
   ·cases h
    exact .inl ⟨z.1,z.2,rfl,λv g0 H' p y rv=>let⟨a,b⟩:=back p y.sub;q v _ H' a b (Rep.no zE rv)⟩
   ·cases h
  ·rw[if_neg zE]at h
   rcases h with⟨t,m',h,_⟩|⟨c,fs,s',h,_⟩<;>cases h
 |exc c0 fs0 s0=>
  rw[e]at h;dsimp only at h;by_cases zE:bD fs0=true
  ·rw[if_pos zE]at h
   rcases h with⟨t,m',h,_⟩|⟨c,fs,s',h,q⟩
   ·cases h
   ·cases h
    exact .inr ⟨_,_,_,rfl,λg0 H' p y=>let⟨a,b⟩:=back p y.sub;q _ H' a b⟩
  ·rw[if_neg zE]at h
   rcases h with⟨t,m',h,_⟩|⟨c,fs,s',h,_⟩<;>cases h
theorem Lb{f:Addr}{fd:FuncData}{ps:Bi}{k:Nat}{fn:Fn}(F:bH P w K mg base (tZ P w C) k f fd ps (xO B C fn)):bH P w K mg base j3 k f fd ps (mP B fn):=by
 have conv:∀{vs H Q E},mP B fn vs H Q E->xO B C fn vs H Q λ_ _ _=>False:=λ⟨g,ts,m,t,m',x,r,h,q⟩=>⟨g,ts,m,x,r,.inl ⟨t,m',h,q⟩⟩;refine⟨λvs H Q E h=>F.len vs H Q _ (conv h),λA outer s H args us vs Q E hr e0 hb rv h=>codeAny_mono (F.run A outer s H args us vs Q _ hr e0 hb rv (conv h)) λr s' hq=>?_⟩;cases r with
 |ok fo=>cases fo<;>exact hq
 |error e=>
  obtain⟨_,_,_,_,_,_,_,_,_,z⟩:=hq;exact z.elim
end
end D
namespace D
open PySem L2 PyProof.Rows
def vI(i j:Nat)(bs:Ee):FS:=λs=>match s.r[i]? with
 |some none=>.ok (.nx,i7 s j (.val (.lst (bs.map .bl))))
 |_=>.bad
variable{C:Addr}{X:Cx}{e:Expr}{es:Bz}{i j:Nat}{p pos:Pos}{n y:Str}
section
variable{P:Pg}{CB:Addr}{k:Nat}{x:Str}{f:Fn}{fl:FL}{aW gB np xC:Pos}{H:Hp}{σ:L2.St}{g:G}{ss s1:S}{s:Shared}{ae:b7}{ts:Fs}
theorem QC{a:Addr}{oe:Obj}{D:Ends}{f:Flow}{s':Shared}(ok:X.Ok)(h:SP (i8 X a oe) ae D f s'):SP X ae D f s':=by
 cases f with
 |next=>obtain⟨σ',H',I,q⟩:=h;exact⟨σ',H',Inv.Bd ok I,q⟩
 |brk=>obtain⟨σ',H',I,q⟩:=h;exact⟨σ',H',Inv.Bd ok I,q⟩
 |cont=>obtain⟨σ',H',I,q⟩:=h;exact⟨σ',H',Inv.Bd ok I,q⟩
 |ret u=>obtain⟨v,σ',H',I,r,q⟩:=h;exact⟨v,σ',H',Inv.Bd ok I,r,q⟩
end
section
variable{a:Addr}{oe:Obj}
theorem Ld(Z:nF X.K C)(hc:oe.cls=.ref C):cQ (i8 X a oe) (.builtin "isinstance") (λvs H Q=>∃c b,vs=[.ref a,.ref c]/\gG X.K (.ref C) (.ref c)=some b/\Q (.bl b) H):=by
 rintro ae s σ H vs us Q I r ⟨c,b,rfl,Ec,q⟩
 cases r with
 |cons r1 r=>
  cases r with
  |cons r2 r=>
   cases r;cases(show _=Value.ref a from r1);cases(show _=Value.ref c from r2);exact jG (rD Z hc) I.gK (I.pin (a,oe) (by simp)).1 Ec (λz=>nomatch z) λtk=>⟨.bl b,H,I.tok tk,rfl,q⟩
theorem Ew(Z:nF X.K C)(hc:oe.cls=.ref C):cQ (i8 X a oe) (.builtin "isinstance") (λvs H Q=>∃c b,vs=[.ref a,.ty c]/\gG X.K (.ref C) (.type c)=some b/\Q (.bl b) H):=by
 rintro ae s σ H vs us Q I r ⟨c,b,rfl,Ec,q⟩
 cases r with
 |cons r1 r=>
  cases r with
  |cons r2 r=>
   cases r;cases(show _=Value.ref a from r1);cases(show _=Value.type c from r2);exact jG (rD Z hc) I.gK (I.pin (a,oe) (by simp)).1 Ec (λz=>nomatch z) λtk=>⟨.bl b,H,I.tok tk,rfl,q⟩
def R6(i:Nat)(a:Addr)(b:Bool):TE:=λσ H Q=>σ[i]?=some (some (.ref a))/\Q (.bl b) H
def Le(i:Nat)(a:Addr)(bs:Ee):TA:=λσ H Q=>σ[i]?=some (some (.ref a))/\Q (bs.map V.bl) H
variable{pn py:Pos}{b:Bool}{Dc:Addr}{T:String}
theorem Lf(Z:nF X.K C)(hc:oe.cls=.ref C)(Ec:gG X.K (.ref C) (.ref Dc)=some b)(MX:X.mg "isinstance" = none)(hD:X.mg y=some (.ref Dc))(hN:X.N[i]?=some n:=by rfl)(hv:kI X.env.scope n:=by first|exact Or.inl rfl|exact Or.inr (Or.inl rfl)|exact Or.inr (Or.inr rfl))
  (hd:aQ n:=by decide) (eO:dZ n:=by decide) (Cw:aQ y:=by decide) (hg:Gl X "isinstance" := by rfl) (yk:Gl X y:=by rfl)
  (hs:starEach [.Name n pn,.Name y py] X.env=(false,eval (.Name n pn) X.env)::starEach [.Name y py] X.env:=by rfl) (lj:starEach [.Name y py] X.env=(false,eval (.Name y py) X.env)::starEach [] X.env:=by rfl)
  (hpl:(backTo pos (starEach [.Name y py] X.env)).any (·.1)=false:=by rfl) :
  PE (i8 X a oe) (.Call (.Name "isinstance" p) [.Name n pn,.Name y py] [] pos) (R6 i a b):=
 aB (cW (X:=i8 X a oe) (Ld Z hc) hg MX zj (az (bG hN hv hd eO) (az (kJ (v:=.ref Dc) yk hD rfl Cw) aO lj) hs) (he:=hs) (hpl:=hpl)) λσ H Q ⟨h1,h2⟩=>⟨.ref a,h1,Dc,b,rfl,Ec,h2⟩
theorem Ey(Z:nF X.K C)(hc:oe.cls=.ref C)(Ec:gG X.K (.ref C) (.type T)=some b)(MX:X.mg "isinstance" = none)(hD:X.mg y=none)(hb:bootBuiltins y=some (.type T))(hN:X.N[i]?=some n:=by rfl)(hv:kI X.env.scope n:=by first|exact Or.inl rfl|exact Or.inr (Or.inl rfl)|exact Or.inr (Or.inr rfl))
  (hd:aQ n:=by decide) (eO:dZ n:=by decide) (Cw:aQ y:=by decide) (Zr:y ≠ "__name__" := by decide) (hg:Gl X "isinstance" := by rfl) (yk:Gl X y:=by rfl)
  (hs:starEach [.Name n pn,.Name y py] X.env=(false,eval (.Name n pn) X.env)::starEach [.Name y py] X.env:=by rfl) (lj:starEach [.Name y py] X.env=(false,eval (.Name y py) X.env)::starEach [] X.env:=by rfl)
  (hpl:(backTo pos (starEach [.Name y py] X.env)).any (·.1)=false:=by rfl) :
  PE (i8 X a oe) (.Call (.Name "isinstance" p) [.Name n pn,.Name y py] [] pos) (R6 i a b):=
 aB (cW (X:=i8 X a oe) (Ew Z hc) hg MX zj (az (bG hN hv hd eO) (az (uE yk hD hb (v:=.ty T) rfl Zr Cw) aO lj) hs) (he:=hs) (hpl:=hpl)) λσ H Q ⟨h1,h2⟩=>⟨.ref a,h1,T,b,rfl,Ec,h2⟩
variable{bs:Ee}
theorem Lg:PA (i8 X a oe) [] (Le i a []):=uU aO λ_ _ _ h=>h.2
theorem Ez(h:PE (i8 X a oe) e (R6 i a b))(hr:PA (i8 X a oe) es (Le i a bs))(hs:starEach (e::es) X.env=(false,eval e X.env)::starEach es X.env:=by rfl):PA (i8 X a oe) (e::es) (Le i a (b::bs)):=
 uU (az h hr hs) λ_ _ _ ⟨h1,h2⟩=>⟨h1,h1,h2⟩
def US(i j:Nat)(a:Addr)(bs:Ee):TS:=λE σ H=>σ[i]?=some (some (.ref a))/\j<σ.length/\j≠i/\∀l H1,(∀HF,aA HF H->Gr HF H HF H1)->H l=none->H1 l=some (.lst (bs.map V.bl))->E.nx (σ.set j (some (.ref l))) H1
theorem Lh{x:Str}{p1 p2 p3 p4 p5 q1 q2 q3 q4 q5 r1 r2 r3:Pos}{UT UU MG:Bz}{b1 b2 b3:Ee}(hN:X.N.Nodup)(hj:X.N[j]?=some x)(hx:Loc X.env.scope x)(h1:PA (i8 X a oe) UT (Le i a b1))(h2:PA (i8 X a oe) UU (Le i a b2))(h3:PA (i8 X a oe) MG (Le i a b3))(hz:b1.length+b2.length+b3.length<=1000)
  (hv:kI X.env.scope x:=by first|exact Or.inl rfl|exact Or.inr (Or.inl rfl)|exact Or.inr (Or.inr rfl)) (hd:aQ x:=by decide) (eO:dZ x:=by decide)
  (Zs:swapsWith (.List UT q1) (some (.Name x p1)) r1.line X.env=pure false:=by rfl) (lj:swapsWith (.BinOp (.Name x p3) .Add (.List UU q2) q3) (some (.Name x p2)) r2.line X.env=pure false:=by rfl) (N1:swapsWith (.BinOp (.Name x p5) .Add (.List MG q4) q5) (some (.Name x p4)) r3.line X.env=pure false:=by rfl)
  (hf:X.fn x=true\/X.env.scope.names.lookup x=some .local:=by first|exact .inl rfl|exact .inr rfl|assumption) :
  fm (i8 X a oe) [.Assign [.Name x p1] (.List UT q1) r1,.Assign [.Name x p2] (.BinOp (.Name x p3) .Add (.List UU q2) q3) r2,.Assign [.Name x p4] (.BinOp (.Name x p5) .Add (.List MG q4) q5) r3] (US i j a (b1++b2++b3)):=by
 refine jR (fG (iJ (X:=i8 X a oe) hN hj hx (lB h1) Zs hf) (fG (iJ (X:=i8 X a oe) hN hj hx (iC pM (bG hj hv hd eO) (lB h2)) lj hf) (kK (iJ (X:=i8 X a oe) hN hj hx (iC pM (bG hj hv hd eO) (lB h3)) N1 hf)))) ?_;intro D σ H ⟨he,MS,MY,k⟩;have hz':1000<=sizeLine:=by decide
 have QD:∀v,(σ.set j v)[i]?=some (some (.ref a)):=λv=>by rw[gF MY];exact he
 refine⟨he,by rw[dB];omega,λl1 n1=>?_⟩
 refine⟨.ref l1,c9 MS,QD _,by rw[dB];omega,λl2 n2=>?_⟩
 have UW:l1≠l2:=by rintro rfl;rw[af]at n2;cases n2
 refine⟨l1,l2,_,_,rfl,rfl,by rw[ak UW];exact af,af,by rw[dB,dB];omega,λl3 n3=>?_⟩
 have UX:j<(σ.set j (some (V.ref l1))).length:=by rw[dH];exact MS
 refine⟨.ref l3,c9 UX,?_,by rw[dB];omega,λl4 n4=>?_⟩
 ·rw[gF MY];exact QD _
 have UY:l3≠l4:=by rintro rfl;rw[af]at n4;cases n4
 refine⟨l3,l4,_,_,rfl,rfl,by rw[ak UY];exact af,af,by rw[gH,dB,dB,dB];omega,λl5 n5=>?_⟩
 show D.nx (((σ.set j (some (.ref l1))).set j (some (.ref l3))).set j (some (.ref l5))) _;rw[zh,zh];refine k l5 _ (λHF sm=>?_) ?_ (by rw[af,jI,jI])
 ·have g1:=Gr.iz (o:=.lst (b1.map V.bl)) sm n1
  have g2:=g1.trans (Gr.iz (o:=.lst (b2.map V.bl)) g1.sub n2);have g3:=g2.trans (Gr.iz (o:=.lst (b1.map V.bl++b2.map V.bl)) g2.sub n3);have g4:=g3.trans (Gr.iz (o:=.lst (b3.map V.bl)) g3.sub n4);exact g4.trans (Gr.iz (o:=.lst (b1.map V.bl++b2.map V.bl++b3.map V.bl)) g4.sub n5)
 ·exact((aF n1).trans ((aF n2).trans ((aF n3).trans (aF n4)))).free n5
end
def W5(K:aS)(mg:Str->D1)(C:Addr)(y:Str)(b:Bool):Prop:=aQ y/\((∃D,mg y=some (.ref D)/\gG K (.ref C) (.ref D)=some b)\/∃T,mg y=none/\bootBuiltins y=some (.type T)/\y ≠ "__name__" /\ gG K (.ref C) (.type T)=some b)
section
variable{a:Addr}{oe:Obj}{pn py:Pos}{b:Bool}
theorem Li(Z:nF X.K C)(hc:oe.cls=.ref C)(F:W5 X.K X.mg C y b)(MX:X.mg "isinstance" = none)(hN:X.N[i]?=some n)(hv:kI X.env.scope n)(hd:aQ n)(eO:dZ n)(hg:Gl X "isinstance")(yk:Gl X y) :
  PE (i8 X a oe) (.Call (.Name "isinstance" p) [.Name n pn,.Name y py] [] pos) (R6 i a b):=by
 obtain⟨Cw,⟨D,h1,h2⟩|⟨T,h1,h2,h3,h4⟩⟩:=F
 ·exact Lf Z hc h2 MX h1 hN hv hd eO Cw hg yk
 ·exact Ey Z hc h4 MX h1 h2 hN hv hd eO Cw h3 hg yk
end
theorem vJ{B:KT}{al:BM}{HF:Hp}:∀bs:Ee,aq B al HF (bs.map T.bl) (bs.map V.bl)
 |[]=>rfl
 |b::bs=>⟨_,_,rfl,rfl,vJ bs⟩
section
variable{P:Pg}{CB:Addr}{k jr:Nat}{x:Str}{f:Fn}{fl:FL}{aW gB np xC:Pos}{bs:Ee}
theorem SR.slot{B:KT}{g:G}{H:Hp}{σ:L2.St}{s:S}(x:SR B g H σ s)(hi:s.r[i]?=some none)(w:Option V):SR B g H (σ.set i w) s:=
 ⟨x.st,by rw[dH];exact x.lc.len,λm c h=>by
  have:i≠m:=λz=>by rw[z,h]at hi;cases hi
  rw[gF this];exact x.lc.at_ m c h⟩
end
end D
namespace D
open PySem L2
def j_(n:Nat)(o:FE):FE:=λs=>(o s).bind λp=>(aT (kF n p.2.m p.1)).bind λz=>.ok (.int z.2.length,p.2)
def kc(n:Nat)(o:FE):FE:=λs=>(o s).bind λp=>(aT (kF n p.2.m p.1)).bind λz=>match z.2 with
 |t::ts=>.ok (t,setB n p.2 z.1 (.ol ts))
 |[]=>.bad
def xP(n:Nat)(o:FE)(lo hi:FO):FE:=λs=>(o s).bind λp=>(lo p.2).bind λq=>(hi q.2).bind λw=>(aT (kF n w.2.m p.1)).bind λz=>.ok (.lst (dQ z.2 q.1 w.1),w.2)
variable{X:Cx}{o:Expr}{fo:FE}{B:KT}{n:Nat}{aY aW pos:Pos}
section
variable{P:Pg}{e:Expr}{MO MP:Option Expr}{p p2:Pos}{MM MN:FO}
theorem Lj(hc:B.cn[n]?=none)(ho:PE X o (tE B fo))(hs:noStar o=true)(hg:Gl X "len")(hm:X.mg "len" = none):PE X (.Call (.Name "len" p) [o] [] pos) (tE B (j_ n fo)):=by
 refine aB (cW jd hg hm PySem.boot_len (az ho aO (ai hs)) (he:=ai hs) (hpl:=rfl)) λσ H Q z=>?_;obtain⟨g,s,t,s',x,h,k⟩:=z;obtain⟨⟨tx,s1⟩,h1,h⟩:=aa h;obtain⟨z,h2,h⟩:=aa h;cases h;obtain⟨e1,m1⟩:=eB (ah h2);dsimp only at e1;subst e1;refine⟨g,s,_,s1,x,h1,λv g1 H1 p1 x1 r1=>?_⟩;obtain⟨l,rfl,ha⟩:=r1;obtain⟨Z,l1,vs,q1,o1,hh,rr⟩:=x1.iW hc m1 ha;cases q1;exact⟨_,_,rfl,.inl ⟨vs,bW.of hh,rr.len⟩,k _ g1 H1 p1 x1 rfl⟩
theorem Lk{c:Nat}{kp:Pos}(hc:B.cn[n]?=none)(ho:PE X o (tE B fo))(hb:aP o=true)(fH:(aY.endLine == aW.line)=true):PE X (.Call (.Attribute o "pop" aY) [.Constant (.int 0) c kp] [] aW) (tE B (kc n fo)):=by
 refine aB (uK PySem.F.plainAttrs_list PySem.F.slot_list_pop PySem.F.type_list_pop zT ho (az zo aO rfl) (dS hb) (nY rfl (by decide)) fH rfl rfl) λσ H Q z=>?_
 obtain⟨g,s,t,s',x,h,k⟩:=z;obtain⟨⟨tx,s1⟩,h1,h⟩:=aa h;obtain⟨⟨kb,ts⟩,h2,h⟩:=aa h;obtain⟨e1,m1⟩:=eB (ah h2);dsimp only at e1 m1;subst e1;dsimp only at h;cases ts with
 |nil=>cases h
 |cons t0 ts=>
  cases h;refine⟨g,s,_,s1,x,h1,λv g1 H1 p1 x1 r1=>?_⟩;obtain⟨l,rfl,ha⟩:=r1;obtain⟨Z,l1,vs,q1,o1,hh,rr⟩:=x1.iW hc m1 ha;cases q1;obtain⟨v0,dX,rfl,r0,rr⟩:=rr;refine⟨.inl ⟨rfl,_,bW.of hh⟩,l,_,0,0,v0,rfl,rfl,hh,by decide,by decide,by simp[seqIndex?],rfl,?_⟩
  obtain⟨p3,x3⟩:=x1.A7 (c':=.ol ts) (u:=.lst dX) Z m1 o1 ⟨l,dX,rfl,o1,af,rr⟩;exact k v0 g1 _ (p1.trans p3) x3 r0
theorem QE(hc:B.cn[n]?=none)(ho:PE X o (tE B fo))(hl:PO X MO (tP B MM))(hh:PO X MP (tP B MN)):PE X (.Subscript o (.Slice MO MP none p2) pos) (tE B (xP n fo MM MN)):=by
 refine aB (qD Pe ho hl hh) λσ H Q z=>?_;obtain⟨g,s,t,s',x,h,k⟩:=z;obtain⟨⟨tx,s1⟩,h1,h⟩:=aa h;obtain⟨⟨lo,s2⟩,h2,h⟩:=aa h;obtain⟨⟨hi,s3⟩,h3,h⟩:=aa h;obtain⟨⟨kb,ts⟩,h4,h⟩:=aa h;cases h;obtain⟨e1,m1⟩:=eB (ah h4);dsimp only at e1 m1;subst e1;refine⟨g,s,_,s1,x,h1,λv g1 H1 p1 x1 r1=>⟨g1,s1,_,s2,x1,h2,λg2 H2 p2 x2=>⟨g2,s2,_,_,x2,h3,λg3 H3 p3 x3=>?_⟩⟩⟩;obtain⟨l,rfl,ha⟩:=r1;obtain⟨Z,l1,vs,q1,o1,hh,rr⟩:=x3.iW hc m1 (cu p3.pre (cu p2.pre ha));cases q1;refine .inr ⟨l,vs,rfl,bW.of hh,λq hq=>?_⟩;rw[pW];have gr:=Gr.new (o:=.lst (dQ vs lo hi)) x3.sub hq;exact k _ _ _ (((p1.trans p2).trans p3).trans (x3.dW gr)) (x3.grow gr) ⟨q,_,rfl,af,(rr.cut _ _).same gr.fr⟩
end
theorem rF{X:Cx}:cQ X (.type "dict") (λxs H Q=>∃a aw,xs=[.ref a]/\H a=some (.dK aw)/\∀p,H p=none->Q (.ref p) (upd H p (.dK aw))):=by
 rintro ae s σ H xs us Q I r ⟨a,aw,rfl,e,q⟩
 obtain⟨u,rfl,ru⟩:=r.one;cases(show u=Value.ref a from ru);obtain⟨z,hs,ws,kv,hd⟩:=uN I.aV e;refine kt_call_dict hs hd (by rw[<- kv.length];exact z) λh' G0 xj=>?_
 refine⟨.ref s.heap.objs.size,_,I.laid (a:=s.heap.objs.size) (o:=.dK aw) (t':=s.toks) (λb u hb=>?_) (cC _) (tm z (beq_eq_false_iff_ne.mpr (Ne.symm (cL I.big))) kv G0),rfl,q _ (I.aV.fresh (cC _))⟩;have gR:b≠s.heap.objs.size:=cL (Heap.lt_size hb);rw[xj.2 b gR];exact Heap.get?_push_of_some _ hb
def Ll:Fs->FK
 |[.int i,.int j]=>some (.int (if j<i then j else i))
 |_=>none
theorem QF{X:Cx}:LN X Ll (λxs H Q=>∃i j,xs=[.int i,.int j]/\Q (.int (if j<i then j else i)) H):=λB hB al HF H xs t ts Q sm r h k=>by
 match ts,h with
 |[.int i,.int j],h=>
  cases h;obtain⟨v,vs,rfl,r1,r⟩:=r;obtain⟨w,ws,rfl,r2,r⟩:=r;cases r;cases r1;cases r2;exact⟨i,j,rfl,k _ HF H (.refl sm) rfl⟩
def EA(n:Nat)(o:FE):FE:=λs=>(o s).bind λp=>(aT (nC n p.2.m p.1)).bind λz=>.ok (.c8 z.2.1 z.2.2,p.2)
def EB(n:Nat)(o:FE):FE:=λs=>(o s).bind λp=>(aT (kF n p.2.m p.1)).bind λz=>.ok (.lst z.2,p.2)
section
variable{P:Pg}{p:Pos}
theorem QG(hc:B.cn[n]?=none)(ho:PE X o (tE B fo))(hs:noStar o=true)(hg:Gl X "dict")(hm:X.mg "dict" = none):PE X (.Call (.Name "dict" p) [o] [] pos) (tE B (EA n fo)):=by
 refine aB (du rF hg hm PyProof.Rows.boot_dict (az ho aO (ai hs)) (he:=ai hs) (hpl:=rfl)) λσ H Q z=>?_;obtain⟨g,s,t,s',x,h,k⟩:=z;obtain⟨⟨tx,s1⟩,h1,h⟩:=aa h;obtain⟨z,h2,h⟩:=aa h;cases h;obtain⟨e1,m1⟩:=eE (ah h2);dsimp only at e1;subst e1;refine⟨g,s,_,s1,x,h1,λv g1 H1 p1 x1 r1=>?_⟩;obtain⟨l,rfl,ha⟩:=r1;obtain⟨Z,l1,vs,q1,o1,hh,hl,rr⟩:=x1.iW hc m1 ha;cases q1;refine⟨l,_,rfl,hh,λq hq=>?_⟩;have gr:=Gr.new (o:=.dK ((z.2.1.map iR).zip vs)) x1.sub hq;exact k _ _ _ (p1.trans (x1.dW gr)) (x1.grow gr) ⟨q,vs,rfl,af,hl,rr.same gr.fr⟩
theorem QH(hc:B.cn[n]?=none)(ho:PE X o (tE B fo))(hs:noStar o=true)(hg:Gl X "list")(hm:X.mg "list" = none):PE X (.Call (.Name "list" p) [o] [] pos) (tE B (EB n fo)):=by
 refine aB (du dP hg hm wC (az ho aO (ai hs)) (he:=ai hs) (hpl:=rfl)) λσ H Q z=>?_;obtain⟨g,s,t,s',x,h,k⟩:=z;obtain⟨⟨tx,s1⟩,h1,h⟩:=aa h;obtain⟨z,h2,h⟩:=aa h;cases h;obtain⟨e1,m1⟩:=eB (ah h2);dsimp only at e1;subst e1;refine⟨g,s,_,s1,x,h1,λv g1 H1 p1 x1 r1=>?_⟩;obtain⟨l,rfl,ha⟩:=r1;obtain⟨Z,l1,vs,q1,o1,hh,rr⟩:=x1.iW hc m1 ha;cases q1;refine⟨l,vs,rfl,.inl (bW.of hh),λq hq=>?_⟩;have gr:=Gr.new (o:=.lst vs) x1.sub hq;exact k _ _ _ (p1.trans (x1.dW gr)) (x1.grow gr) ⟨q,vs,rfl,af,rr.same gr.fr⟩
end
section
variable{tg:Expr}{td:TE}{body:DD}
theorem EC(hp:PassesOwn (model X.prog X.w) X.A X.env X.xe)(hc:X.calm=true)(ho:PE X o td)(zQ:attributeBase o "values" X.env (eval o X.env)=eval o X.env)(fH:(aY.endLine == aW.line)=true) :
  PS X (.For tg (.Call (.Attribute o "values" aY) [] [] aW) body [] pos) (λD σ H=>td σ H λx H1=>∃a,x=.ref a/\H1 a=some (.dK [])/\D.nx σ H1):=by
 intro ae s σ H D I h;refine wpAny_For (wpAny_Call_method0_late zQ fH (bo (ho ae s σ H _ I h) λv s1 ⟨x,H1,I1,r1,q1⟩=>?_)) λ_=>rfl;obtain⟨d,ex,e,q⟩:=q1;subst ex;cases r1;obtain⟨z,lo,vs,kv,hd⟩:=uN I1.aV e;have hv:vs=[]:=CW.mp kv.length.symm;subst hv;obtain⟨ob,es,ep,r⟩:=id hd;have ht:s1.TypeIs (.ref d) "dict" := hd.typeIs;refine⟨"dict","dict.values",PySem.F.plainAttrs_dict,PySem.F.slot_dict_values,PySem.F.type_dict_values,ht,λb q=>by cases q;exact⟨ob,r.1,r.2.1.2.1⟩,Calls.callWith_builtin rfl (PySem.evalArgs_none ?_)⟩
 refine call_meetsIn PySem.F.slot_dict_values ht PySem.F.entry_dict_values (PySem.F.args_dict_values_1 _) (meets_dict_values (aN X.prog X.w) d lo) ⟨⟨_,hd⟩,?_⟩;have UZ:(s1.heap.push {cls:=.type "dict_values",data:=.fields #[.ref d]}).DictAt (aN X.prog X.w) d [] ep:=⟨ob,es,Heap.get?_push_of_some _ r.1,r.2⟩;refine wpAny_pyIter_values (s:={s1 with heap:=s1.heap.push {cls:=.type "dict_values",data:=.fields #[.ref d]}}) ⟨_,Heap.get?_push_size _ rfl,rfl,rfl⟩ UZ ?_
 obtain⟨h2,e2⟩:∃h2,h2=s1.heap.push {cls:=.type "dict_values",data:=.fields #[.ref d]}:=⟨_,rfl⟩;obtain⟨h3,e3⟩:∃h3,h3=h2.push {cls:=.type "dict_valueiterator",data:=.fields #[.ref d,.int 0 0,.int 0 0,.int ep 0]}:=⟨_,rfl⟩;rw[<- e2]at UZ;have U0:h3.DictAt (aN X.prog X.w) d [] ep:=by
  obtain⟨o',M9,q1,q2⟩:=UZ;exact⟨o',M9,by rw[e3];exact Heap.get?_push_of_some _ q1,q2⟩
 have hit:h3.IsValIter h2.objs.size d 0 ([]:List (Key×Value)).length ep:=⟨_,by rw[e3];exact Heap.get?_push_size _ rfl,rfl,rfl⟩
 rw[<- e2];show codeAny _ _ (.forLoop tg (.ref h2.objs.size) body [] X.env) _ {s1 with heap:=h2.push {cls:=.type "dict_valueiterator",data:=.fields #[.ref d,.int 0 0,.int 0 0,.int ep 0]}}
 rw[<- e3];refine codeAny_forLoop_any (λ_ s'=>s'={s1 with heap:=h3}) ?_ 0 rfl
 rintro n s3 rfl
 refine wpAny_passesOwn hp (wpAny_pyNext_values_end (s:={s1 with heap:=h3}) (I1.ok.hd hc) hit U0 rfl λh' hb=>?_)
 refine wpAny_execs_nil ⟨σ,H1,I1.kept (t':=s1.toks) λb o q=>hb b o (λz=>?_) ?_,q⟩
 ·have:=Heap.lt_size q
  rw[z,e2,Heap.size_push]at this;exact mS _ (Gw (sD _) this)
 ·rw[e3,e2]
  exact Heap.get?_push_of_some _ (Heap.get?_push_of_some _ q)
end
def vK(n:Nat)(o:FE):FS:=λs=>(o s).bind λp=>(aT (nC n p.2.m p.1)).bind λz=>match z.2.1,z.2.2 with
 |[],[]=>.ok (.nx,p.2)
 |_,_=>.bad
section
variable{tg:Expr}{body:DD}
theorem Lm(hp:PassesOwn (model X.prog X.w) X.A X.env X.xe)(QI:X.calm=true)(hc:B.cn[n]?=none)(ho:PE X o (tE B fo))(hb:aP o=true)(fH:(aY.endLine == aW.line)=true) :
  PS X (.For tg (.Call (.Attribute o "values" aY) [] [] aW) body [] pos) (tS B (vK n fo)):=bQ (EC hp QI ho (dS hb) fH) λD σ H z=>by
 obtain⟨g,s,oo,s',x,h,k⟩:=z;obtain⟨⟨tx,s1⟩,h1,h⟩:=aa h;obtain⟨⟨kb,ks,ts⟩,h2,h⟩:=aa h;obtain⟨e1,m1⟩:=eE (ah h2);dsimp only at e1 m1 h;subst e1;cases ks with
 |cons _ _=>cases h
 |nil=>
  cases ts with
  |cons _ _=>cases h
  |nil=>
   cases h;refine⟨g,s,_,_,x,h1,λv g1 H1 p1 x1 r1=>?_⟩;obtain⟨l,rfl,ha⟩:=r1;obtain⟨Z,l1,vs,q1,o1,hh,hl,rr⟩:=x1.iW hc m1 ha;cases q1;exact⟨l,rfl,hh,k σ g1 H1 p1 x1⟩
end
end D
namespace PySem
section
variable{prog:Program}{w:World}{A:Around}{E:Value->Shared->Prop}{s:Shared}
theorem rG(a b:Value):checkBuiltinCall "max" ⟨[a],[(Str.ofString "default",b)]⟩=pure ():=by kernel_rfl
theorem ua{l:Addr}{d:Value}{Q:Value->Shared->Prop}(hh:A.in1.handled=none)(hL:s.heap.IsList l #[])
  (hQ:∀h',(∀b o,s.heap.get? b=some o->h'.get? b=some o)->Q d {s with heap:=h'}) :
  wpAny (model prog w) A (call (.builtin "max") [.ref l] [(Str.ofString "default",d)]) Q E s:=by
 have QJ:(toString "max" ++ toString ".loop" : String) = "max.loop" := by decide
 refine wpAny_call (codeAny_call_builtin F.plain_max F.entry_max (wpAny_of_eq (rG _ _) ?_));show wpAny _ A.in1 (Builtin.Builtins.bindParams "max" ["key","default"] 0 ⟨[],[(Str.ofString "default",d)]⟩ >>= _) _ _ s;refine wpAny_bind (wpAny_of_eq (show Builtin.Builtins.bindParams "max" ["key","default"] 0 ⟨[],[(Str.ofString "default",d)]⟩=pure [none,some d]from rfl) ?_);refine wpAny_bind (wpAny_pure ?_);refine wpAny_bind (wpAny_pyIter_list hL ?_);refine wpAny_bind (wpAny_newObj_type ?_);rw[QJ];refine wpAny_pure ⟨plainId_quiet F.plain_max_loop _,?_⟩;obtain⟨h1,e1⟩:∃h1,h1=s.heap.push {cls:=.type "list_iterator",data:=.fields #[.ref l,.int 0 0]}:=⟨_,rfl⟩;rw[<- e1];obtain⟨h2,e2⟩:∃h2,h2=h1.push {cls:=.type "list",data:=.seq #[]}:=⟨_,rfl⟩;have hS:h2.get? h1.objs.size=some {cls:=.type "list",data:=.seq #[]}:=by rw[e2];exact Heap.get?_push_size _ rfl
 have hit:h2.IsListIter s.heap.objs.size l 0:=⟨_,by rw[e2];exact Heap.get?_push_of_some _ (by rw[e1];exact Heap.get?_push_size _ rfl),rfl,rfl⟩
 have ME:h2.IsList l #[]:=by
  obtain⟨o,q1,q2⟩:=hL;exact⟨o,by rw[e2];exact Heap.get?_push_of_some _ (by rw[e1];exact Heap.get?_push_of_some _ q1),q2⟩
 refine codeAny_builtin F.entry_max_loop ?_;rw[Around.under_plainId F.plain_max_loop _];show wpAny _ A.in1 (seqItems? (.ref h1.objs.size) >>= _) _ _ {s with heap:=h1.push {cls:=.type "list",data:=.seq #[]}}
 rw[<- e2];refine wpAny_bind (wpAny_seqItems hS rfl ?_);show wpAny _ A.in1 (tryCatch (pyNext (.ref s.heap.objs.size)) _ >>= _) _ _ _;refine wpAny_bind (wpAny_tryCatch (wpAny_pyNext_list_end hh hit ME rfl λh' eb=>?_));refine wpAny_bind (wpAny_rule (wpAny_pure ?_));refine hQ h' λb o q=>eb b o (λz=>?_) ?_
 ·have:=Heap.lt_size q
  rw[z]at this;exact mS _ this
 ·rw[e2,e1]
  exact Heap.get?_push_of_some _ (Heap.get?_push_of_some _ q)
end
end PySem
namespace D
open PySem L2
variable{X:Cx}{B:KT}{i:Nat}{pos:Pos}
section
variable{a:Expr}{ta:TA}{p p1 kp:Pos}{k1:Nat}{i:Int}{fa:FE}
theorem ED(hg:Gl X "max")(hm:X.mg "max" = none)(QI:X.calm=true)(ha:PA X [a] ta)(hs:starEach [a] X.env=[(false,eval a X.env)]) :
  PE X (.Call (.Name "max" p) [a] [⟨some (Str.ofString "default"),.Constant (.int i) k1 p1,kp⟩] pos) (λσ H Q=>ta σ H λvs H1=>∃l,vs=[.ref l]/\bW X.K H1 l []/\Q (.int i) H1):=by
 intro ae s σ H Q I h;refine wpAny_Call_Name_kw (dI I hg hm PyProof.Rows.boot_max ?_);refine Gh (P:=λ_=>True) (by rw[hs];rfl) (λh _=>⟨.machine,.inr (.inl rfl),.now⟩) ?_
 refine GX rfl (bo (ha pos ae s σ H _ I h) λus s1 ⟨vs,H1,I1,r1,q1⟩=>?_) hs;show wpAny _ _ (evalAll [(do let v <- eval (.Constant (.int i) k1 p1) X.env;standAt pos;pure v)]) _ _ s1
 refine wpAny_evalAll_cons (wpAny_bind (wpAny_Constant_int (wpAny_bind (wpAny_standAt (wpAny_pure (wpAny_evalAll_nil ⟨trivial,?_⟩))))));obtain⟨l,e,hq,q⟩:=q1;subst e;obtain⟨u,rfl,rx⟩:=vals1 r1;cases rx;have I2:Inv X ae σ H1 {s1 with toks:=s1.toks+1}:=I1.tok _
 obtain⟨av,rv,pl,hz⟩:=I2.list hq;have hi:av=[]:=CW.mp rv.length.symm;subst hi;show wpAny _ _ (call (.builtin "max") [.ref l] [(Str.ofString "default",.int i s1.toks)]) _ _ {s1 with toks:=s1.toks+1}
 exact ua (I.ok.hd QI) pl.isList λh' kk=>⟨.int i,H1,I2.kept (t':=s1.toks+1) kk,⟨_,rfl⟩,q⟩
def Bg(i:Int)(a:FE):FE:=λs=>(a s).bind λp=>match p.1 with
 |.lst []=>.ok (.int i,p.2)
 |_=>.bad
theorem Ln(hg:Gl X "max")(hm:X.mg "max" = none)(QI:X.calm=true)(ha:PE X a (tE B fa))(hs:noStar a=true) :
  PE X (.Call (.Name "max" p) [a] [⟨some (Str.ofString "default"),.Constant (.int i) k1 p1,kp⟩] pos) (tE B (Bg i fa)):=by
 refine aB (ED hg hm QI (az ha aO (ai hs)) (ai hs)) λσ H Q z=>?_;obtain⟨g,s,t,s',x,h,k⟩:=z;obtain⟨⟨tx,s1⟩,h1,h⟩:=aa h;dsimp only at h;split at h
 ·cases h
  refine⟨g,s,_,_,x,h1,λv g1 H1 p1 x1 r1=>?_⟩;obtain⟨l,vs,rfl,q,r⟩:=r1;cases r;exact⟨l,rfl,bW.of (x1.sub _ _ q),k _ g1 H1 p1 x1 rfl⟩
 ·cases h
end
section
variable{g:G}{H:Hp}{σ:St}{s:S}{k n:Nat}
theorem SR.Zt{l:Addr}{ts:Fs}{vs:List V}(x:SR B g H σ s)(Z:OQ B g H k ⟨n,[.ol ts]⟩ l)(hk:s.m[k]?=some ⟨n,[.ol ts]⟩)(ho:g.o l=some (.ob k))(hh:H l=some (.lst vs))(rr:aq B g.al g.HF ts vs) :
  b8 g H (g.own l (.loc i)) H/\SR B (g.own l (.loc i)) H (σ.set i (some (.ref l))) (i7 {s with m:=s.m.set k ⟨n,[]⟩} i (.ol ts)):=by
 have hf:=(x.st.live l _ ho).1;have ne:∀b p,g.o b=some p->p≠.ob k->(g.own l (.loc i)).o b=some p:=λb p hb hp=>by
  have:b≠l:=λe=>hp (by rw[e,ho]at hb;cases hb;rfl)
  show(if b=l then some (hU.loc i)else g.o b)=_
  rw[if_neg this];exact hb
 refine⟨⟨aA.refl _,cA,λb u h q z=>?_,λ_ h=>h⟩,⟨⟨x.sub,λb q e=>?_,by show(s.m.set k _).length=_;rw[dH];exact x.st.len,λk' qm e=>?_⟩,?_⟩⟩
 ·have:b≠l:=λe=>by rw[e,ho]at z;cases z
  exact⟨h,q,by show(if b=l then some (hU.loc i)else g.o b)=none;rw[if_neg this];exact z⟩
 ·have e:(if b=l then some (hU.loc i)else g.o b)=some q:=e
  by_cases hb:b=l
  ·rw[hb];exact⟨hf,_,hh⟩
  ·rw[if_neg hb]at e
   exact x.st.live b q e
 ·have e:(s.m.set k ⟨n,[]⟩)[k']?=some qm:=e
  by_cases kE:k=k'
  ·subst kE
   rw[c9 (eT.mp hk).1]at e;cases e;exact .inr ⟨l,Z.al,Z.nc,Z.nf,λd z=>by cases z⟩
  ·rw[gF kE]at e
   refine(x.st.at_ k' qm e).mv (g':=g.own l (.loc i)) (aA.refl _) cA λb q h hq=>⟨ne b q h ?_,rfl⟩;rcases hq with rfl|⟨j,rfl⟩
   ·exact λz=>kE (by cases z;rfl)
   ·exact λz=>by cases z
 ·exact x.lc.set (c:=.ol ts) ⟨l,vs,rfl,by show(if l=l then some (hU.loc i)else g.o l)=_;rw[if_pos rfl],hh,rr⟩ λj c v hj q=>aM.mv (g:=g) (g':=g.own l (.loc i)) (aA.refl _) cA (λb hb=>⟨ne b _ hb (λz=>by cases z),rfl⟩) q
end
def rH(n i:Nat)(a:FE):FS:=λs=>(a s).bind λp=>(aT (kF n p.2.m p.1)).bind λz=>.ok (.nx,i7 {p.2 with m:=p.2.m.set z.1 ⟨n,[]⟩} i (.ol z.2))
section
variable{e:Expr}{x:Str}{px:Pos}{fa:FE}{n:Nat}
theorem QK(hN:X.N.Nodup)(hi:X.N[i]?=some x)(hx:Loc X.env.scope x)(hc:B.cn[n]?=none)(he:PE X e (tE B fa))(hs:swapsWith e (some (.Name x px)) pos.line X.env=pure false)(hf:X.fn x=true\/X.env.scope.names.lookup x=some .local) :
  PS X (.Assign [.Name x px] e pos) (tS B (rH n i fa)):=bQ (iJ hN hi hx he hs hf) λD σ H z=>by
 obtain⟨g,s,o,s',x,h,k⟩:=z;obtain⟨⟨tx,s1⟩,h1,h⟩:=aa h;obtain⟨z,h2,h⟩:=aa h;cases h;obtain⟨e1,m1⟩:=eB (ah h2);dsimp only at e1;subst e1;refine⟨g,s,_,s1,x,h1,λv g1 H1 p1 x1 r1=>?_⟩;obtain⟨l,rfl,ha⟩:=r1;obtain⟨Z,l1,vs,q1,o1,hh,rr⟩:=x1.iW hc m1 ha;cases q1;obtain⟨p2,x2⟩:=x1.Zt (i:=i) Z m1 o1 hh rr;exact k _ _ _ (p1.trans p2) x2
end
theorem SR.ext{B:KT}{g:G}{H H':Hp}{σ:St}{s:S}(x:SR B g H σ s)(e:∀b u,H b=some u->H' b=some u):SR B g H' σ s:=by
 have keep:∀l p,g.o l=some p->H' l=H l:=λl p hl=>by
  obtain⟨_,u,h⟩:=x.st.live l p hl;rw[e l u h,h]
 refine⟨x.st.mv (λb u h=>e b u (x.sub b u h)) (λb p h=>?_) (aA.refl _) rfl λl p h _=>⟨h,keep l p h⟩,x.lc.len,λi c h=>?_⟩
 ·obtain⟨h1,u,h2⟩:=x.st.live b p h
  exact⟨h1,u,e b u h2⟩
 ·obtain⟨v,h1,h2⟩:=x.lc.at_ i c h
  exact⟨v,h1,aM.mv (g:=g) (g':=g) (aA.refl _) cA (λb hb=>⟨hb,keep b _ hb⟩) h2⟩
theorem Bj{B:KT}{al Af:BM}{HF eK:Hp}{t:T}{v:V}(h:bg t=true)(r:Rep B al HF t v):Rep B Af eK t v:=by
 cases t<;>first|(cases h;done)|exact r
def kg(f:Fn)(i:Nat)(b:FE):FE:=λs=>(aT (jO s.r[i]?)).bind λ_=>(b s).bind λp=>(aT (jO p.2.r[i]?)).bind λts=>match f [.lst ts,p.1] []with
 |.ok q=>if bD ts=true/\noOwn p.1=true/\bg q.1=true then .ok (q.1,p.2)else .bad
 |_=>.bad
section
variable{P:Pg}{b:Expr}{x y:Str}{p py:Pos}{fb:FE}
theorem Lo{k j:Nat}{f:Fn}(D:R0 P X.prog X.w X.K X.mg X.base k x [] f)(hr:aX j X.A)(nA:k<=j)(hN:X.N[i]?=some y)(hv:kI X.env.scope y)(hd:aQ y)(eO:dZ y)(ha:PE X b (tE (P.kt X) fb))(hg:Gl X x)(iK:aQ x)(hs:noStar b=true) :
  PE X (.Call (.Name x p) [.Name y py,b] [] pos) (tE (P.kt X) (kg f i fb)):=by
 obtain⟨ff,fd,ps,fE,dV,F,hm,hk,hb,Zu,sj⟩:=D.ex;refine aB (uH F (hr.mono nA) hg hm hk hb Zu j4 (az (bG hN hv hd eO) (az ha aO (ai hs)) (ai rfl)) iK (ai rfl) (cK (by rw[c_,hs];rfl))) λσ H Q zz=>?_
 obtain⟨g,s,t,s',x,h,k⟩:=zz;have Zv:dV=[]:=sj [] λ_=>none;subst Zv;obtain⟨K2,h0,h⟩:=aa h;obtain⟨⟨t2,s1⟩,h1,h⟩:=aa h;obtain⟨ts,h2,h⟩:=aa h;obtain⟨l,RU,w1,w2,w3,w4⟩:=x.lY (dC (ah h0));refine⟨_,w1,g,s,t2,s1,x,h1,λw g1 H1 p1 x1 r1=>?_⟩;obtain⟨l',vs,u1,u2,u3,u4⟩:=x1.lY (dC (ah h2));rw[w1]at u1;cases u1;dsimp only at h;cases e:f [.lst ts,t2] []with
 |bad=>rw[e]at h;cases h
 |exc c fs s2=>rw[e]at h;cases h
 |ok q=>
  rw[e]at h;dsimp only at h;split at h
  case isFalse=>cases h
  rename_i hc;obtain⟨n1,n2,n3⟩:=hc;cases h;refine⟨⟨H1,λ_=>none,[]⟩,[.lst ts,t2],[],q.1,q.2,⟨aA.refl _,λb p z=>(by cases z),rfl,λk ob z=>(by simp at z)⟩,?_,e,λv g0 H' pp y rv=>?_⟩
  ·refine⟨.ref l,[w],rfl,⟨l,vs,rfl,u3,(aq.no n1 u4).same x1.sub⟩,w,[],rfl,(Rep.no n2 r1).same x1.sub,rfl⟩
  ·have ext:∀b u,H1 b=some u->H' b=some u:=λb u z=>y.sub b u (pp.fr b u z)
   exact k v g1 H' (p1.trans ⟨aA.refl _,cA,λb u z n o=>⟨ext b u z,n,o⟩,pp.there⟩) (x1.ext ext) (Bj n3 rv)
end
end D
namespace D
open PySem L2 PyProof.Rows
variable{C:Addr}{X:Cx}{o:Expr}{fo:FE}{f:Fn}{c j k:Nat}{P:Pg}{aY aW pos:Pos}{m:Str}
section
variable{B:KT}{P:Program}{w:World}{K:aS}{mg:Str->D1}{base:Heap}
theorem Bk{x qual:Str}{st:Stmt}{f:Addr}{fd:FuncData}{N ps:Bi}{k:Nat}{F:FS}(Fn:rh K x qual st f fd)(Sc:eV N ps (au st))
  (body:∀(gC:Value)(A:Around)(outer:List Env)(s:Shared)(H:Hp)(E:XK),aX k (A.deeper (zk qual (au st) s.heap.objs.size f gC))->HS (kr (tZ P w C) P w K mg base N qual (au st) f gC A outer s H E) C E ->
   fm (kr (tZ P w C) P w K mg base N qual (au st) f gC A outer s H E) (bF st) (tX B (λH'=>E (.ref C) none H') F)) :
  bH P w K mg base (tZ P w C) (k+1) f fd ps (xO B C (aR ps.length N.length F)):=by
 have exc:∀{ts:Fs}{m:FR}{c:Nat}{fs:Fs}{s':S},aR ps.length N.length F ts m=.exc c fs s'->ts.length=ps.length/\F ⟨ts.map (λt=>some (.val t))++cj (N.length-ts.length) none,m⟩=.exc c fs s':=λ{ts m c fs s'} h=>by
  unfold aR at h;split at h
  ·rename_i hl
   refine⟨hl,?_⟩;rcases jz h with h|⟨⟨o,s1⟩,h1,h⟩
   ·exact h
   ·cases o<;>cases h
  ·cases h
 obtain⟨oc,od,dV,kV,doc,pm,an,gC,ct,yh,rfl,lk,eO⟩:=Fn.ex;refine G9 lk eO Sc (λvs H Q E h=>?_) λA outer s H vs Q E hr h=>?_
 ·obtain⟨g,ts,m,x,r,h⟩:=h
  rw[<- r.len];rcases h with⟨t,m',h,_⟩|⟨c,fs,s',h,_⟩
  ·exact(kR h).1
  ·exact(exc h).1
 ·obtain⟨g,ts,m,x,r,h⟩:=h
  refine⟨_,body gC A outer s H E hr ⟨λ_ _ h=>h,rfl,rfl,rfl,rfl⟩,g,⟨ts.map (λt=>some (.val t))++cj (N.length-ts.length) none,m⟩,⟨x,oq r⟩,?_⟩;rcases h with⟨t,m',h,q⟩|⟨c,fs,s',h,q⟩
  ·obtain⟨_,o,s',h1,rfl,ho⟩:=kR h
   refine .inl ⟨o,s',h1,?_⟩;rcases ho with rfl|⟨rfl,rfl⟩
   ·exact λv g' H' p y rv=>q v g' H' p y rv
   ·exact λσ' g' H' p y=>q _ g' H' p y.st rfl
  ·exact .inr ⟨c,fs,s',(exc h).2,q⟩
end
structure R7(P:Pg)(Pr:Program)(w:World)(K:aS)(mg:Str->D1)(base:Heap)(C:Addr)(k:Nat)(c:Nat)(m:Str)(f:Fn):Prop where
 ex:∃(Ca fa:Addr)(fd:FuncData)(ps:Bi)(ns:Bi),f9 (fM P K Pr w) c Ca ns/\mO K Ca/\Meth K Ca m fa/\bH Pr w K mg base (tZ Pr w C) k fa fd ps (xO (fM P K Pr w) C f)/\Binds K fd ps []/\m∉ns
def oH(c:Nat)(m:FR):T->Option Unit
 |.own k=>(m[k]?).bind λob=>if ob.c=c then some ()else none
 |_=>none
theorem vL{c:Nat}{m:FR}{t:T}{u:Unit}(h:oH c m t=some u):∃k ob,t=.own k/\m[k]?=some ob/\ob.c=c:=by
 cases t<;>first|(cases h;done)|skip
 obtain⟨ob,h1,h2⟩:=ba.mp (show(m[_]?).bind _=some u from h);split at h2
 ·rename_i e;exact⟨_,ob,rfl,h1,e⟩
 ·cases h2
def MZ(c:Nat)(g:Fn)(o:FE)(F:FS):FS:=λs=>(oG (o s)).bind λp=>(oG (aT (oH c p.2.m p.1))).bind λ_=>match g [p.1] p.2.m with
 |.ok q=>F {p.2 with m:=q.2}
 |.exc c fs s'=>.exc c fs {p.2 with m:=s'.m}
 |.bad=>.bad
section
variable{F:FS}{rest:DD}{E:XK}
theorem U1(Z:HS X C E)(D:R7 P X.prog X.w X.K X.mg X.base C k c m f)(hr:aX j X.A)(nA:k<=j)(ho:PE X o (tE (P.kt X) fo))(mc:om X o m aY [] aW)(QM:fm X rest (tX (P.kt X) (λH=>E (.ref C) none H) F)) :
  fm X (.Expr (.Call (.Attribute o m aY) [] [] aW) pos::rest) (tX (P.kt X) (λH=>E (.ref C) none H) (MZ c f fo F)):=by
 obtain⟨pl,mc⟩:=mc;obtain⟨Ca,fa,fd,ps,ns,hC,cl,M,FF,hb,hn⟩:=D.ex;refine jR (fG (kL (qA (pl:=pl) ho cl M FF (hr.mono nA) hb .nil (Qz Z) mc) rfl) QM) λDn σ H z=>?_;obtain⟨g,s,x,z⟩:=z;have core:∀{tx:T}{s1:S}{u:Unit},oG (fo s)=.ok (tx,s1)->oG (aT (oH c s1.m tx))=.ok u->(∀(v:V)(g1:G)(H1:Hp),b8 g H g1 H1->SR (P.kt X) g1 H1 σ s1->Rep (P.kt X) g1.al g1.HF tx v->xO (P.kt X) C f [v] H1 (λ_ H2=>tX (P.kt X) (λH=>E (.ref C) none H) F Dn σ H2) E) ->
   qz Ca m (xO (P.kt X) C f) [] E (tE (P.kt X) fo) zH σ H (λ_ H2=>tX (P.kt X) (λH=>E (.ref C) none H) F Dn σ H2):=λ{tx s1 u} h1 h2 q=>by
  refine⟨g,s,tx,s1,x,mj h1,λv g1 H1 p1 x1 r1=>?_⟩;obtain⟨kk,ob,rfl,e1,e2⟩:=vL (ah (mj h2));obtain⟨a,dx,vs,rfl,hi⟩:=lX x1 hC r1 (.inl ⟨kk,ob,rfl,e1,e2⟩);exact⟨a,dx,_,rfl,hi,fL hn,q _ g1 H1 p1 x1 r1⟩
 rcases z with⟨oo,s',h,kk⟩|⟨c',fs,s',h,kk⟩
 ·obtain⟨⟨tx,s1⟩,h1,h⟩:=aa h
  obtain⟨u,h2,h⟩:=aa h;dsimp only at h2 h;refine core h1 h2 λv g1 H1 p1 x1 r1=>?_;cases e:f [tx] s1.m with
  |bad=>rw[e]at h;cases h
  |exc _ _ _=>rw[e]at h;cases h
  |ok q=>
   rw[e]at h;refine⟨g1.aj,[tx],s1.m,x1.st.aj,.one r1,.inl ⟨q.1,q.2,e,λv2 g2 H2 p2 y2 _=>?_⟩⟩;obtain⟨p3,x3⟩:=x1.back p2 y2;exact⟨_,_,x3,.inl ⟨oo,s',h,kk.mv (p1.trans p3)⟩⟩
 ·rcases jz h with h|⟨⟨tx,s1⟩,h1,h⟩
  ·exact(kW h).elim
  rcases jz h with h|⟨u,h2,h⟩
  ·exact(kW h).elim
  dsimp only at h2 h;refine core h1 h2 λv g1 H1 p1 x1 r1=>?_;cases e:f [tx] s1.m with
  |bad=>rw[e]at h;cases h
  |exc c2 fs2 s2=>
   rw[e]at h;cases h;refine⟨g1.aj,[tx],s1.m,x1.st.aj,.one r1,.inr ⟨_,_,_,e,λg2 H2 p2 y2=>?_⟩⟩;obtain⟨p3,x3⟩:=x1.back p2 y2;exact kk _ H2 (p1.trans p3) x3.st
  |ok q=>
   rw[e]at h;refine⟨g1.aj,[tx],s1.m,x1.st.aj,.one r1,.inl ⟨q.1,q.2,e,λv2 g2 H2 p2 y2 _=>?_⟩⟩;obtain⟨p3,x3⟩:=x1.back p2 y2;exact⟨_,_,x3,.inr ⟨c',fs,s',h,λg' H' p'=>kk g' H' ((p1.trans p3).trans p')⟩⟩
end
section
variable{CB:Addr}{y n:Str}{fl:FL}{e:Expr}{es:Bz}{p gB np xC:Pos}{st C8:Stmt}
def qe(P:Pg)(X:Cx)(C:Addr)(st:Stmt)(f:FS):Prop:=∀(ae:b7)(s:Shared)(σ:L2.St)(H:Hp)(Q:Flow->Shared->Prop)(Ex:Value->Shared->Prop)(g:G)(ss:S),Inv X ae σ H s->SR (P.kt X) g H σ ss ->
 ((∃s',f ss=.ok (.nx,s')/\∀sh g' H',Inv X ae σ H' sh->b8 g H g' H'->SR (P.kt X) g' H' σ s'->Q .next sh) \/
  (∃c fs s',f ss=.exc c fs s'/\∀a t Ha sa H1 g1 Bh sh,Inv X ae σ Ha sa->sh.os=sa.os->AllBare sh.gens->Lies X.prog X.w X.stack Ha sa H1 Bh sh.heap->Heap.FlyingW Bh X.stack a (.ref C) (.ref t) sh.heap->b8 g H g1 H1->SR (P.kt X) g1 H1 σ s'->Ex (.ref a) sh)) ->
 wpAny (model X.prog X.w) X.A (exec st X.env) Q Ex s
def yn(c:Nat)(g:Fn)(o:FE)(fl:FL):FS:=λs=>(oG (o s)).bind λp=>(oG (aT (oH c p.2.m p.1))).bind λ_=>(oG (fl p.2)).bind λr=>match g (p.1::r.1) r.2.m with
 |.ok q=>.ok (.nx,{r.2 with m:=q.2})
 |.exc c fs s'=>.exc c fs {r.2 with m:=s'.m}
 |.bad=>.bad
theorem HW{fa:Addr}{fd:FuncData}{ps:Bi}{ae:b7}{σ:L2.St}{H:Hp}{s:Shared}{Q:Value->Shared->Prop}{Ex:Value->Shared->Prop}{g:G}{ss:S}{us:B2}{vs:List V}{ts:Fs}
  (FF:bH X.prog X.w X.K X.mg X.base (tZ X.prog X.w C) k fa fd ps (xO (P.kt X) C f)) (hr:aX k X.A) (hb:Binds X.K fd ps []) (I:Inv X ae σ H s) (x:SR (P.kt X) g H σ ss) (rv:Vals vs us) (r:aq (P.kt X) g.al g.HF ts vs)
  (res:(∃t m',f ts ss.m=.ok (t,m')/\∀v sh g' H',Inv X ae σ H' sh->b8 g H g' H'->SR (P.kt X) g' H' σ {ss with m:=m'}->Q v sh) \/
   (∃c fs s',f ts ss.m=.exc c fs s'/\∀a t H1 g1 Bh sh,sh.os=s.os->AllBare sh.gens->Lies X.prog X.w X.stack H s H1 Bh sh.heap->Heap.FlyingW Bh X.stack a (.ref C) (.ref t) sh.heap->b8 g H g1 H1->SR (P.kt X) g1 H1 σ {ss with m:=s'.m}->Ex (.ref a) sh)) :
  wpAny (model X.prog X.w) X.A (call (.ref fa) us) Q Ex s:=by
 have run:∀(Q':VK)(E':XK),xO (P.kt X) C f vs H Q' E'->codeAny (model X.prog X.w) X.A (.call (.ref fa) ⟨us,[]⟩) (CR (tZ X.prog X.w C) X.stack X.prog X.w H s Q' E') s:=λQ' E' sp=>by
  have hl:us.length=ps.length:=by rw[<- rv.length];exact FF.len _ _ _ _ sp
  have xu:=hb s us I.gK (by rw[fh];exact hl)
  rw[fh]at xu;exact FF.run X.A X.stack s H ⟨us,[]⟩ us vs Q' E' hr I.Jj xu rv sp
 rcases res with⟨t,m',h2,q⟩|⟨c,fs,s',h2,q⟩
 ·refine wpAny_call (codeAny_mono (run (λ_ H2=>∃g2,b8 g.aj H g2 H2/\cO (P.kt X) g2 H2 m') (λ_ _ _=>False) ⟨g.aj,ts,ss.m,x.st.aj,r,.inl ⟨t,m',h2,λv g' H' p2 y2 _=>⟨g',p2,y2⟩⟩⟩) λr s' hq=>?_)
  cases r with
  |error e=>
   obtain⟨_,_,_,_,_,_,_,_,_,z⟩:=hq;exact z.elim
  |ok fo=>
   cases fo with
   |ret u=>
    obtain⟨v,H2,I2,_,g2,p2,y2⟩:=I.after hq;obtain⟨p3,x3⟩:=x.back p2 y2;exact q u s' _ H2 I2 p3 x3
   |next=>exact False.elim hq
   |brk=>exact False.elim hq
   |cont=>exact False.elim hq
 ·refine wpAny_call (codeAny_mono (run (λ_ _=>False) (λ_ _ H2=>∃g2,b8 g.aj H g2 H2/\cO (P.kt X) g2 H2 s'.m) ⟨g.aj,ts,ss.m,x.st.aj,r,.inr ⟨c,fs,s',h2,λg' H' p2 y2=>⟨g',p2,y2⟩⟩⟩) λr s2 hq=>?_)
  cases r with
  |error e=>
   obtain⟨a,t,H2,Bh,rfl,ho,fR,L,Fl,g2,p2,y2⟩:=hq;obtain⟨p3,x3⟩:=x.back p2 y2;exact q a t H2 _ Bh s2 ho fR L Fl p3 x3
  |ok fo=>
   cases fo with
   |ret u=>
    obtain⟨v,H2,I2,_,z⟩:=I.after hq;exact z.elim
   |next=>exact False.elim hq
   |brk=>exact False.elim hq
   |cont=>exact False.elim hq
theorem Bl{s:S}{R:Res (Out×S)}(h:yn c f fo fl s=R)(hR:R≠.bad):∃tx s1 ts s2,fo s=.ok (tx,s1)/\(∃kk ob,tx=.own kk/\s1.m[kk]?=some ob/\ob.c=c)/\fl s1=.ok (ts,s2)/\((∃t m',f (tx::ts) s2.m=.ok (t,m')/\R=.ok (.nx,{s2 with m:=m'}))\/∃c fs s',f (tx::ts) s2.m=.exc c fs s'/\R=.exc c fs {s2 with m:=s'.m}):=by
 unfold yn at h;cases e1:fo s with
 |bad=>rw[e1]at h;exact absurd h.symm hR
 |exc _ _ _=>rw[e1]at h;exact absurd h.symm hR
 |ok p=>
  rw[e1]at h;obtain⟨tx,s1⟩:=p
  replace h:((oG (aT (oH c s1.m tx))).bind λ_=>_)=R:=h
  cases e2:oH c s1.m tx with
  |none=>rw[e2]at h;exact absurd h.symm hR
  |some u=>
   rw[e2]at h
   replace h:((oG (fl s1)).bind λr=>_)=R:=h
   cases e3:fl s1 with
   |bad=>rw[e3]at h;exact absurd h.symm hR
   |exc _ _ _=>rw[e3]at h;exact absurd h.symm hR
   |ok r=>
    rw[e3]at h;obtain⟨ts,s2⟩:=r;refine⟨tx,s1,ts,s2,rfl,vL e2,e3,?_⟩
    replace h:(match f (tx::ts) s2.m with|.ok q=>Res.ok (Out.nx,{s2 with m:=q.2})|.exc c fs s'=>.exc c fs {s2 with m:=s'.m}|.bad=>.bad)=R:=h
    cases e4:f (tx::ts) s2.m with
    |bad=>rw[e4]at h;exact absurd h.symm hR
    |ok q=>rw[e4]at h;exact .inl ⟨q.1,q.2,rfl,h.symm⟩
    |exc a b d=>rw[e4]at h;exact .inr ⟨a,b,d,rfl,h.symm⟩
end
section
variable{CB:Addr}{jr i:Nat}{y n:Str}{fl:FL}{e W6:Expr}{es:Bz}{p gB np xC:Pos}{ft:FT}{st ym C8:Stmt}{F F1 F2:FS}
theorem Lp(A0:X.xe=λ_ _=>False)(D:R7 P X.prog X.w X.K X.mg X.base C k c m f)(hr:aX j X.A)(nA:k<=j)(ho:PE X o (tE (P.kt X) fo))(ha:PA X (e::es) (tA (P.kt X) fl))(hs:(e::es).all noStar=true)(mc:om X o m aY (e::es) aW) :
  qe P X C (.Expr (.Call (.Attribute o m aY) (e::es) [] aW) pos) (yn c f fo fl):=by
 intro ae s σ H Q Ex g ss I x res;obtain⟨pl,mc⟩:=mc;obtain⟨Ca,fa,fd,ps,ns,hC,cl,M,FF,hb,hn⟩:=D.ex;rw[c_,bL]at hs;obtain⟨R,hR⟩:∃R,yn c f fo fl ss=R:=⟨_,rfl⟩;have gR:R≠.bad:=by
  rcases res with⟨s',h,_⟩|⟨_,_,s',h,_⟩<;>(rw[<- hR,h];exact λz=>by cases z)
 obtain⟨tx,s1,ts,s2,h1,xh,h3,h4⟩:=Bl hR gR;have el:∀{Q':Prop}{a b},X.xe a b->Q':=λz=>by rw[A0]at z;exact z.elim
 refine wpAny_Expr_any (CG (pl:=pl) (wpAny_mono (ho ae s σ H (λv H1=>∃g1,b8 g H g1 H1/\SR (P.kt X) g1 H1 σ s1/\Rep (P.kt X) g1.al g1.HF tx v) I ⟨g,ss,tx,s1,x,h1,λv g1 H1 p1 x1 r1=>⟨g1,p1,x1,r1⟩⟩) (λu sh ⟨v,H1,I1,rv,g1,p1,x1,r1⟩=>?_) λ_ _ z=>el z) mc) I.quiet rfl;obtain⟨a,dx,RU,rfl,hi⟩:=lX x1 hC r1 (.inl xh)
 obtain rfl:u=Value.ref a:=rv
 refine fZ I1 hi cl M (fL hn) ?_;refine CD (first:=[.ref a]) (h₀:=X.base) I.ok.mod.kin M.kp (wpAny_mono (ha aW ae sh σ H1 (λvs H2=>∃g2,b8 g1 H1 g2 H2/\SR (P.kt X) g2 H2 σ s2/\aq (P.kt X) g2.al g2.HF ts vs) I1 ⟨g1,s1,ts,s2,x1,h3,λvs g2 H2 p2 x2 r2=>⟨g2,p2,x2,r2⟩⟩) (λus s3 ⟨vs,H2,I2,rv2,g2,p2,x2,r2⟩=>⟨I2.gK,?_⟩) λ_ _ z=>el z) (ai hs.1) (cK hs.2)
 refine HW (us:=.ref a::us) (vs:=.ref a::vs) (ts:=tx::ts) FF (hr.mono nA) hb I2 x2 (.cons rfl rv2) ⟨_,vs,rfl,r1.mv p2.pre p2.fr,r2⟩ ?_;rcases h4 with⟨t,m',h4,rfl⟩|⟨c',fs,s',h4,rfl⟩
 ·rcases res with⟨s',h,q⟩|⟨_,_,s',h,_⟩
  ·rw[hR]at h
   cases h;exact .inl ⟨t,m',h4,λv sh g' H' I' p' x'=>q sh g' H' I' ((p1.trans p2).trans p') x'⟩
  ·rw[hR]at h;cases h
 ·rcases res with⟨wU,h,_⟩|⟨_,_,wU,h,q⟩
  ·rw[hR]at h;cases h
  ·rw[hR]at h
   cases h;exact .inr ⟨_,_,_,h4,λa t U3 P0 Bh U4 ho fR L Fl p' x'=>q a t H2 s3 U3 P0 Bh U4 I2 ho fR L Fl ((p1.trans p2).trans p') x'⟩
theorem EE(A0:X.xe=λ_ _=>False)(D:R7 P X.prog X.w X.K X.mg X.base C k c m f)(hr:aX j X.A)(nA:k<=j)(ho:PE X o (tE (P.kt X) fo))(mc:om X o m aY [] aW) :
  qe P X C (.Expr (.Call (.Attribute o m aY) [] [] aW) pos) (yn c f fo aU):=by
 intro ae s σ H Q Ex g ss I x res;obtain⟨pl,mc⟩:=mc;obtain⟨Ca,fa,fd,ps,ns,hC,cl,M,FF,hb,hn⟩:=D.ex;obtain⟨R,hR⟩:∃R,yn c f fo aU ss=R:=⟨_,rfl⟩;have gR:R≠.bad:=by
  rcases res with⟨s',h,_⟩|⟨_,_,s',h,_⟩<;>(rw[<- hR,h];exact λz=>by cases z)
 obtain⟨tx,s1,ts,s2,h1,xh,h3,h4⟩:=Bl hR gR;cases h3;have el:∀{Q':Prop}{a b},X.xe a b->Q':=λz=>by rw[A0]at z;exact z.elim
 refine wpAny_Expr_any (CG (pl:=pl) (wpAny_mono (ho ae s σ H (λv H1=>∃g1,b8 g H g1 H1/\SR (P.kt X) g1 H1 σ s1/\Rep (P.kt X) g1.al g1.HF tx v) I ⟨g,ss,tx,s1,x,h1,λv g1 H1 p1 x1 r1=>⟨g1,p1,x1,r1⟩⟩) (λu sh ⟨v,H1,I1,rv,g1,p1,x1,r1⟩=>?_) λ_ _ z=>el z) mc) I.quiet rfl;obtain⟨a,dx,RU,rfl,hi⟩:=lX x1 hC r1 (.inl xh)
 obtain rfl:u=Value.ref a:=rv
 refine fZ I1 hi cl M (fL hn) ?_;refine CF (first:=[.ref a]) I1.gK M.kp ?_
 refine HW (us:=[.ref a]) (vs:=[.ref a]) (ts:=[tx]) FF (hr.mono nA) hb I1 x1 (.cons rfl .nil) (.one r1) ?_;rcases h4 with⟨t,m',h4,rfl⟩|⟨c',fs,s',h4,rfl⟩
 ·rcases res with⟨s',h,q⟩|⟨_,_,s',h,_⟩
  ·rw[hR]at h
   cases h;exact .inl ⟨t,m',h4,λv sh g' H' I' p' x'=>q sh g' H' I' (p1.trans p') x'⟩
  ·rw[hR]at h;cases h
 ·rcases res with⟨wU,h,_⟩|⟨_,_,wU,h,q⟩
  ·rw[hR]at h;cases h
  ·rw[hR]at h
   cases h;exact .inr ⟨_,_,_,h4,λa t U3 P0 Bh U4 ho fR L Fl p' x'=>q a t H1 sh U3 P0 Bh U4 I1 ho fR L Fl (p1.trans p') x'⟩
def Lq(ft:FT)(F1 F2:FS):FS:=λs=>(oG (ft s)).bind λp=>if p.1 then F1 p.2 else F2 p.2
theorem EF(A0:X.xe=λ_ _=>False)(hc:PT X W6 (tT (P.kt X) ft))(h1:qe P X C ym F1)(h2:qe P X C C8 F2):qe P X C (.If W6 [ym] [C8] pos) (Lq ft F1 F2):=by
 intro ae s σ H Q Ex g ss I x res;cases e:ft ss with
 |bad=>rcases res with⟨s',h,_⟩|⟨_,_,s',h,_⟩<;>(unfold Lq at h;rw[e]at h;cases h)
 |exc _ _ _=>rcases res with⟨s',h,_⟩|⟨_,_,s',h,_⟩<;>(unfold Lq at h;rw[e]at h;cases h)
 |ok q=>
  obtain⟨b,s1⟩:=q;have hu:Lq ft F1 F2 ss=if b then F1 s1 else F2 s1:=by unfold Lq;rw[e];rfl
  rw[hu]at res;refine wpAny_If (wpAny_mono (hc ae s σ H (λd H1=>d=b/\∃g1,b8 g H g1 H1/\SR (P.kt X) g1 H1 σ s1) I ⟨g,ss,b,s1,x,e,λg1 H1 p1 x1=>⟨rfl,g1,p1,x1⟩⟩) (λd sh ⟨H1,I1,hd,g1,p1,x1⟩=>?_) λ_ _ z=>by rw[A0]at z;exact z.elim)
  subst hd;have fin:∀{Fx:FS}{stx:Stmt},qe P X C stx Fx->((∃s',Fx s1=.ok (.nx,s')/\∀sh g' H',Inv X ae σ H' sh->b8 g H g' H'->SR (P.kt X) g' H' σ s'->Q .next sh) \/
    (∃c fs s',Fx s1=.exc c fs s'/\∀a t Ha sa H1 g1 Bh sh,Inv X ae σ Ha sa->sh.os=sa.os->AllBare sh.gens->Lies X.prog X.w X.stack Ha sa H1 Bh sh.heap->Heap.FlyingW Bh X.stack a (.ref C) (.ref t) sh.heap->b8 g H g1 H1->SR (P.kt X) g1 H1 σ s'->Ex (.ref a) sh))->wpAny (model X.prog X.w) X.A (execs [stx] X.env) Q Ex sh:=λhx r=>by
   refine wpAny_execs_cons (hx ae sh σ H1 _ Ex g1 s1 I1 x1 ?_);rcases r with⟨s',h,q⟩|⟨c',fs,s',h,q⟩
   ·exact .inl ⟨s',h,λsh g' H' I' p' x'=>wpAny_execs_nil (q sh g' H' I' (p1.trans p') x')⟩
   ·exact .inr ⟨c',fs,s',h,λa t Ha sa H1 g1 Bh sh Ia ho fR L Fl p' x'=>q a t Ha sa H1 g1 Bh sh Ia ho fR L Fl (p1.trans p') x'⟩
  cases d with
  |true=>exact fin h1 res
  |false=>exact fin h2 res
def jA(F A:FS):FS:=λs=>match F s with
 |.ok (.nx,s')=>.ok (.nx,s')
 |.exc _ _ s'=>A s'
 |_=>.bad
theorem rJ{A:FS}{o:Out}{s s':S}(h:jA F A s=.ok (o,s')):(F s=.ok (.nx,s')/\o=.nx)\/∃c fs s2,F s=.exc c fs s2/\A s2=.ok (o,s'):=by
 unfold jA at h;split at h
 ·rename_i s1 e
  cases h;exact .inl ⟨e,rfl⟩
 ·rename_i c fs s2 e
  exact .inr ⟨c,fs,s2,e,h⟩
 ·cases h
theorem EG{e_:DD}{FA:FS}(A0:X.xe=λ_ _=>False)(ht:qe P X C ym F)(hm:X.mg y=some (.ref CB))(U5:uA X.K (.ref C) (.ref CB)=some true)(U6:Gl X y)(Cw:aQ y)
  (QN:∀a oe,fm (i8 X a oe) (st::e_) (tS (P.kt X) FA)) (uG:X.stack=X.env::X.outer) (Hc:X.env.frame=some X.env.locals) :
  PS X (.Try [ym] [.ExceptHandler (some (.Name y np)) none (st::e_) xC] [] [] gB) (tS (P.kt X) (jA F FA)):=by
 rintro ae s σ H Dn I ⟨g,ss,o,s',xr,h,kk⟩
 rw[A0];refine wpAny_Try_except (wpAny_execs_cons (ht ae s σ H _ _ g ss I xr ?_));rcases rJ h with⟨h0,rfl⟩|⟨c',fs,s2,h2,h3⟩
 ·exact .inl ⟨s',h0,λsh g' H' I' p' x'=>wpAny_execs_nil (wpAny_execs_nil ⟨σ,H',I',kk σ g' H' p' x'⟩)⟩
 ·refine .inr ⟨c',fs,s2,h2,λa t Ha sa H1 g1 Bh sh Ia ho fR L Fl p1 x1=>?_⟩
  refine Be (nm:=none) Ia uG Hc ho fR L Fl hm U5 (λh5 L5 F5=>La Ia ho fR L5 F5 λoe s6 _ I6=>?_) U6 Cw;exact wpAny_mono (QN a oe ae s6 σ H1 Dn I6 ⟨g1,_,o,s',x1,h3,kk.mv p1⟩) (λf s7 q=>QC I.ok q) λ_ _ z=>z
theorem Bm{e_:DD}{bs:Ee}(A0:X.xe=λ_ _=>False)(ht:qe P X C ym F)
  (hm:X.mg y=some (.ref CB)) (U5:uA X.K (.ref C) (.ref CB)=some true) (U6:Gl X y) (Cw:aQ y)
  (hN:X.N.Nodup) (hi:X.N[i]?=some n) (hj:j<X.N.length) (MY:j≠i) (hk:X.env.scope.names.lookup n=some .local)
  (QN:∀a oe,oe.cls=.ref C->fm (i8 X a oe) (st::e_) (US i j a bs)) (uG:X.stack=X.env::X.outer) (Hc:X.env.frame=some X.env.locals) :
  PS X (.Try [ym] [.ExceptHandler (some (.Name y np)) (some n) (st::e_) xC] [] [] gB) (tS (P.kt X) (jA F (vI i j bs))):=by
 rintro ae s σ H Dn I ⟨g,ss,o,s',xr,h,kk⟩
 rw[A0];refine wpAny_Try_except (wpAny_execs_cons (ht ae s σ H _ _ g ss I xr ?_));rcases rJ h with⟨h0,rfl⟩|⟨c',fs,s2,h2,h3⟩
 ·exact .inl ⟨s',h0,λsh g' H' I' p' x'=>wpAny_execs_nil (wpAny_execs_nil ⟨σ,H',I',kk σ g' H' p' x'⟩)⟩
 ·refine .inr ⟨c',fs,s2,h2,λa t Ha sa H1 g1 Bh sh Ia ho fR L Fl p1 x1=>?_⟩
  have hρ:s2.r[i]?=some none/\o=.nx/\s'=i7 s2 j (.val (.lst (bs.map .bl))):=by
   unfold vI at h3;split at h3
   ·rename_i q
    cases h3;exact⟨q,rfl,rfl⟩
   ·cases h3
  obtain⟨hρi,rfl,rfl⟩:=hρ;refine Be (nm:=some n) Ia uG Hc ho fR L Fl hm U5 (λh5 L5 F5=>Et Ia ho fR hN hi hk L5 F5 λoe s6 Zw I6=>?_) U6 Cw;have MS:j<σ.length:=by rw[I.len];exact hj
  refine wpAny_mono (QN a oe Zw ae s6 (σ.set i (some (.ref a))) H1 {nx:=λσ8 H8=>∀s9,Inv X ae (σ8.set i none) H8 s9->SP X ae Dn .next s9,rt:=λ_ _=>False} I6 ⟨c9 (by rw[I.len];exact(eT.mp hi).1),by rw[dH];exact MS,MY,λl H2 gr nl hl s9 I9=>?_⟩) (λf s8 q=>?_) λ_ _ z=>z
  ·refine⟨_,H2,I9,?_⟩
   have g2:=gr g1.HF x1.sub;have x2:=x1.grow g2;have no:g1.o l=none:=by
    cases q:g1.o l with
    |none=>rfl
    |some p=>obtain⟨_,u,z⟩:=x1.st.live l p q;rw[nl]at z;cases z
   have hf:g1.HF l=none:=x1.sub.free nl;have x3:=x2.tL (l:=l) hf no hl;have p3:=(p1.trans (x1.dW g2)).tL (l:=l) (u:=.lst (bs.map V.bl)) (p1.there l nl) hf;have x4:=(x3.set (i:=j) (t:=.lst (bs.map .bl)) (v:=.ref l) ⟨l,_,rfl,af,vJ bs⟩).slot (i:=i) (by show(s2.r.set j _)[i]?=_;rw[gF MY];exact hρi) none
   have e1:((σ.set i (some (.ref a))).set j (some (.ref l))).set i none=(σ.set j (some (.ref l))).set i none:=by
    have c:(σ.set i (some (V.ref a))).set j (some (V.ref l))=(σ.set j (some (V.ref l))).set i (some (V.ref a)):=List.set_comm _ _ (Ne.symm MY);rw[c,zh]
   rw[e1];exact kk _ _ H2 p3 x4
  ·cases f with
   |next=>
    obtain⟨σ8,H8,I8,q⟩:=q;exact⟨σ8,H8,I8,q⟩
   |brk=>obtain⟨_,_,_,q⟩:=q;exact q.elim
   |cont=>obtain⟨_,_,_,q⟩:=q;exact q.elim
   |ret u=>obtain⟨_,_,_,_,_,q⟩:=q;exact q.elim
end
end D
namespace D
open PySem
structure Lc where
 N:Bi
 sc:Scope
 mu:Bi
inductive Ck where
 |fz (c n:Nat)|z0 (c:Nat)|cp (c:Nat)|nw (c i:Nat)
structure Gm where
 P:Pg
 cs:List (Str×T)
 fs:List (Str×Fs×Nat)
 cl:List (Str×Ck)
 ms:List (Str×List (Nat×Nat))
 bl:Bi
 bf:Bi:=[]
 lu:Bi:=[]
 lv:Bi:=[]
 ub:Bi:=[]
 ld:Bi:=[]
 xc:Str := ""
 xi:List (Str×Bool):=[]
 xm:Bi:=[]
 xt:List (Str×Nat×Nat):=[]
def Gm.bc(M:Gm):Nat:=M.P.cn.length+M.P.tab.length
theorem Gm.ib(M:Gm):M.P.cn[M.bc]?=none:=zg (sE _ _)
theorem Gm.Lr(M:Gm):M.P.fn[M.bc]?=none:=zg (by unfold Pg.fn;rw[dB];exact Nat.le_add_left _ _)
def iX(N:Bi)(x:Str):Option Nat:=N.idxOf? x
def jB(x:Str):Bool:=x == ("__debug__" : Str) ||x == ("__classdict__" : Str)
def eS(L:Lc)(x:Str):Bool:=match L.sc.names.lookup x with
 |some .local=>!jB x
 |some .cell=>!jB x
 |_=>false
def uc(L:Lc)(x:Str):Bool:=decide (L.sc.names.lookup x=some .globalImplicit)&&!jB x
def EH:Expr->Option (Expr×Int×Option Expr)
 |.FormattedValue a i o _=>some (a,i,o)
 |_=>none
structure Rc where
 E:Lc->Expr->FE
 T:Lc->Expr->FT
 I:Lc->Expr->Expr->FL
 O:Lc->Expr->FL
def dh:List FE->FL
 |[]=>aU
 |a::r=>cJ a (dh r)
def Ls:List FE->FE
 |[]=>aK
 |[a]=>a
 |a::r=>Ww a (Ls r)
def Bo:List FE->FE
 |[]=>aK
 |[a]=>a
 |a::r=>qO a (Bo r)
def Lu:List FT->FT
 |[]=>nu
 |[a]=>a
 |a::r=>sf a (Lu r)
def Bp:List FT->FT
 |[]=>nu
 |[a]=>a
 |a::r=>JJ a (Bp r)
def Bq(sc outer:Scope):Scope:={sc with names:=sc.names.map λ(n,k)=>if(k == NameKind.free&&outer.kind == .function&&outer.names.lookup n == some .cell)then(n,NameKind.cell)else(n,k)}
def locals(sc:Scope):Bi:=sc.names.filterMap λp=>if p.2=.local then some p.1 else none
def frees(sc:Scope):Bi:=sc.names.filterMap λp=>if p.2=.free then some p.1 else none
def idxs(N:Bi):Bi->Option B1
 |[]=>some []
 |x::xs=>(iX N x).bind λi=>(idxs N xs).map (i::·)
def Lv(L:Lc)(sc:Scope):Bool:=decide (sc.kind=.function)&&sc.names.all (λp=>decide (p.2≠.cell)&&(decide (p.2=.local)->decide (sc.names.lookup p.1=some .local))&&(decide (p.2=.free)->(decide (sc.names.lookup p.1=some .free)&&decide (L.sc.names.lookup p.1=some .cell))))&&decide (L.sc.kind=.function)
def M0(N:Bi)(ok:Str->Bool):Expr->Option (FG×B1)
 |.Name x _=>if ok x then(iX N x).map λi=>(setG i,[i])else none
 |.Tuple es _ _=>(namesOf es).bind λxs=>if xs.all ok then(idxs N xs).map λis=>(gq is,is)else none
 |_=>none
def isSet:Expr->Bool
 |.Set _ _ _=>true
 |_=>false
def HX(r:Rc)(L:Lc):Bz->FT
 |[]=>tu
 |[c]=>r.T L c
 |_=>nu
def Br(L:Lc)(sc:Scope):Lc:=⟨locals sc++frees sc,Bq sc L.sc,[]⟩
def ml(r:Rc)(L:Lc)(elt:Expr)(q:Comprehension)(sc:Scope):FL:=if q.is_async=0/\(Lv L sc&&decide ((locals sc++frees sc).Nodup)&&!isSet q.iter&&decide (q.ifs.length<=1))=true then(match idxs L.N (frees sc),M0 (locals sc) (λx=>decide (sc.names.lookup x=some .local)) q.target with
  |some js,some (g,_)=>eY (r.I L q.target q.iter) (locals sc).length js g (HX r (Br L sc) q.ifs) (r.E (Br L sc) elt)
  |_,_=>ee)else ee
def oJ(r:Rc)(L:Lc):Expr->FL
 |.ListComp elt gs sc _=>(match gs with
  |[g]=>ml r L elt g sc
  |_=>ee)
 |_=>ee
def Bs(r:Rc)(L:Lc):Option Expr->FO
 |none=>MI
 |some e=>Hm (r.E L e)
def rK(M:Gm)(L:Lc):Bi->Option B1
 |[]=>some []
 |y::ys=>if uc L y&&((iX M.P.cn y).bind λd=>M.P.fn[d]?).isSome then(iX M.P.cn y).bind λd=>(rK M L ys).map (d::·)else none
def blt(M:Gm)(L:Lc)(x:Str):Bool:=M.bl.contains x&&uc L x
def W7(M:Gm)(r:Rc)(L:Lc)(a:Expr):Expr->FE
 |.Name y _=>(match qX.lookup y with
  |some ty=>if M.bl.contains y&&uc L y then kN (MR ty) (r.E L a)else aK
  |none=>(match rK M L [y]with
   |some ds=>kN (RZ M.P.sub ds) (r.E L a)
   |none=>aK))
 |.Tuple es _ _=>if es.length<=100 then(match(namesOf es).bind (rK M L)with
  |some ds=>kN (RZ M.P.sub ds) (r.E L a)
  |none=>aK)else aK
 |_=>aK
def aD(l:List (Nat×Nat))(aj:Nat->Fn)(c:Nat):Option Fn:=(l.lookup c).map aj
def QO(L:Lc):Expr->Option Nat
 |.Name y _=>if L.mu.contains y&&eS L y then iX L.N y else none
 |_=>none
def iA(M:Gm)(r:Rc)(L:Lc)(o:Expr):Option FE:=(gb o).bind λq=>if M.bf.contains q.2.1&&aP q.1 then(iX M.P.an q.2.1).map λj=>aI M.P.tab j (r.E L q.1)else none
def rL(M:Gm)(r:Rc)(L:Lc)(a:Expr)(op:CmpOp)(b:Expr):FE:=match j8 op,iA M r L b with
 |some neg,some f=>Ei M.bc neg (r.E L a) f
 |_,_=>(match j8 op,QO L b with
  |some neg,some i=>MV op neg i (r.E L a)
  |_,_=>dD (bx op) (r.E L a) (r.E L b))
def oK(M:Gm)(L:Lc)(f:Str):Bz->Option Expr
 |[e]=>(fB e).bind λq=>(match q.2.1,q.2.2 with
  |[a],[]=>if f=("len" : Str)/\q.1=("set" : Str)/\blt M L ("set" : Str)=true/\noStar a=true then some a else none
  |_,_=>none)
 |_=>none
def ud(M:Gm)(L:Lc)(f:Str):Bz->Option Expr
 |[e]=>(fB e).bind λq=>(match q.2.1,q.2.2 with
  |[a],[]=>if f=("list" : Str)/\q.1=("range" : Str)/\blt M L ("range" : Str)=true/\noStar a=true then some a else none
  |_,_=>none)
 |_=>none
def Bt(M:Gm)(L:Lc)(ds:Fs)(args:Bz):Option (Nat×Expr):=match ds,args with
 |[],[e,b]=>(asName e).bind λy=>if M.ld.contains y&&eS L y then(iX L.N y).map λi=>(i,b)else none
 |_,_=>none
def Lw(M:Gm)(r:Rc)(L:Lc)(f:Str)(args:Bz):Option FE:=match args with
 |[a]=>(iA M r L a).bind λg=>if f=("len" : Str)then some (j_ M.bc g)else if f=("dict" : Str)then some (EA M.bc g)else if f=("list" : Str)then some (EB M.bc g)else none
 |_=>none
def QP:List (Str×(Fs->FK)):=("min",Ll)::tR
def ue(M:Gm)(aj:Nat->Fn)(r:Rc)(L:Lc)(f:Str)(args:Bz):FE:=
 if args.all noStar then(match M.fs.lookup f with
  |some (ds,i)=>if uc L f then(match Bt M L ds args with
   |some (j,b)=>kg (aj i) j (r.E L b)
   |none=>bj (aj i) ds (dh (args.map (r.E L))))else aK
  |none=>(match M.cl.lookup f with
   |some (.fz c n)=>if uc L f&&!args.isEmpty then DJ c n (dh (args.map (r.E L)))else aK
   |some (.z0 c)=>if uc L f&&args.isEmpty then DJ c 0 aU else aK
   |some (.cp c)=>(match args with
    |[a]=>if uc L f then kN (JL c) (r.E L a)else aK
    |_=>aK)
   |some (.nw c i)=>if uc L f&&!args.isEmpty then ny c (aj i) (dh (args.map (r.E L)))else aK
   |none=>if blt M L f then(match Lw M r L f args with
    |some g=>g
    |none=>match f == ("isinstance" : Str),args with
     |true,[a,q]=>W7 M r L a q
     |_,_=>(match f == ("len" : Str),args with
      |true,[.Name y p]=>(match iX L.N y with
       |some i=>if L.mu.contains y&&eS L y then(if M.lv.contains y then K3 i else Hn i)else eg kC (dh [r.E L (.Name y p)])
       |none=>eg kC (dh [r.E L (.Name y p)]))
      |_,_=>(match oK M L f args with
       |some a=>kN A1 (r.E L a)
       |none=>(match ud M L f args with
        |some a=>jj (o1 El (r.E L a))
        |none=>(match QP.lookup f,args with
         |some g,_::_=>eg g (dh (args.map (r.E L)))
         |_,_=>aK)))))else aK))else aK
def Bu:Const->FE
 |.int i=>cF (.int i)
 |.bool b=>cF (.bl b)
 |.none=>cF .non
 |.str s=>if s.length<=1000000 then cF (.str s.cps.toList)else aK
 |_=>aK
def Bv(M:Gm)(L:Lc)(x:Str):FE:=match iX L.N x with
 |some i=>if eS L x then vF i else aK
 |none=>(match M.cs.lookup x with
  |some t=>if uc L x then cF t else aK
  |none=>aK)
def Zx(a:FE):UnaryOp->FE
 |.USub=>kN xx a
 |.Not=>JK a
 |_=>aK
def Zy(l:List FE):BoolOp->FE
 |.And=>Bo l
 |.Or=>Ls l
def U7(M:Gm)(r:Rc)(L:Lc)(a:Expr):List CmpOp->Bz->FE
 |[op],[b]=>if behindInMarks op b then aK else rL M r L a op b
 |_,_=>aK
def U8:Expr->Bool
 |.Attribute _ _ _=>true
 |.Dict _ _ _=>true
 |_=>false
def Lx(ks:List (Option Expr))(vs:Bz):FE:=match ks,vs with
 |[],[]=>cF (.c8 [] [])
 |_,_=>(match Ep ks vs with
  |some l=>if l.length<=15/\(l.map (·.1)).Nodup/\l.isEmpty=false then cF (Qw l)else aK
  |none=>aK)
def R8(M:Gm)(r:Rc)(L:Lc)(o i:Expr):FE:=match iA M r L o with
 |some f=>Qe M.bc f (r.E L i)
 |none=>if U8 o then dD OG (r.E L o) (r.E L i)else match(asName o).bind λy=>(iX L.N y).map λk=>(y,k)with
 |some (y,k)=>if L.mu.contains y&&eS L y then OM k (r.E L i)else dD lU (r.E L o) (r.E L i)
 |none=>dD lU (r.E L o) (r.E L i)
def Ly(M:Gm)(r:Rc)(L:Lc)(o:Expr):Expr->FE
 |.Slice lo hi st _=>(match st with
  |none=>(match iA M r L o with
   |some f=>xP M.bc f (Bs r L lo) (Bs r L hi)
   |none=>MJ (r.E L o) (Bs r L lo) (Bs r L hi))
  |some _=>aK)
 |i=>R8 M r L o i
def U9(M:Gm)(r:Rc)(L:Lc)(o:Expr)(f:Str):FE:=if aP o then(match iX M.P.an f with
  |some j=>if M.bf.contains f then xK M.bc M.P.tab j (r.E L o)else aI M.P.tab j (r.E L o)
  |none=>aK)else aK
def W8(r:Rc)(L:Lc):Bz->FE
 |[e,q,f]=>(match ia e,EH q,ia f with
  |some x,some (a,cv,none),some y=>if cv=-1/\x.length<=1000/\y.length<=1000 then kN (HJ x.cps.toList y.cps.toList) (r.E L a)else aK
  |_,_,_=>aK)
 |_=>aK
def Lz(M:Gm)(r:Rc)(L:Lc)(o:Expr)(m:Str):Bz->Option FE
 |[b,d]=>if m=("get" : Str)then(iA M r L o).map λf=>KO M.bc f (r.E L b) (r.E L d)else none
 |_=>none
def LA(M:Gm)(r:Rc)(L:Lc)(o:Expr)(m:Str)(args:Bz):Option FE:=match args with
 |[b]=>(match dU b with
  |some (.int 0)=>if m=("pop" : Str)then(iA M r L o).map λf=>kc M.bc f else none
  |_=>none)
 |_=>none
def LB(M:Gm)(aj:Nat->Fn)(r:Rc)(L:Lc)(o:Expr)(m:Str)(ap:Pos)(args:Bz)(cp:Pos):FE:=if aP o&&args.all noStar&&decide (args.length<29)&&ap.endLine == cp.line then(match Lz M r L o m args with
   |some f=>f
   |none=>match LA M r L o m args with
   |some f=>f
   |none=>match M.ms.lookup m with
   |some l=>aH (aD l aj) (r.E L o) (dh (args.map (r.E L)))
   |none=>(match tQ.lookup m,args with
    |some g,_::_=>J4 g (r.E L o) (dh (args.map (r.E L)))
    |_,_=>aK))else aK
def U_(M:Gm)(aj:Nat->Fn)(r:Rc)(L:Lc)(args:Bz)(cp:Pos):Expr->FE
 |.Name f _=>ue M aj r L f args
 |.Attribute o m ap=>LB M aj r L o m ap args cp
 |_=>aK
def LC(M:Gm)(r:Rc)(L:Lc)(f:Expr)(args:Bz)(ks:List Keyword):FE:=match asName f,args,ks with
 |some y,[a],[w]=>(match dU w.value with
  |some (.int i)=>if y=("max" : Str)/\blt M L ("max" : Str)=true/\noStar a=true/\w.arg=some ("default" : Str)then Bg i (r.E L a)else aK
  |_=>aK)
 |_,_,_=>aK
def HZ(M:Gm)(aj:Nat->Fn)(r:Rc)(L:Lc):Expr->FE
 |.Constant c _ _=>Bu c
 |.Name x _=>Bv M L x
 |.BinOp a op b _=>dD (gE op) (r.E L a) (r.E L b)
 |.UnaryOp op a _=>Zx (r.E L a) op
 |.BoolOp op es _=>Zy (es.map (r.E L)) op
 |.Compare a ops bs _=>U7 M r L a ops bs
 |.IfExp c a b _=>RX (r.T L c) (r.E L a) (r.E L b)
 |.Tuple es _ _=>if es.all noStar then eg iO (dh (es.map (r.E L)))else aK
 |.List es _=>if es.all noStar then eg lN (dh (es.map (r.E L)))else aK
 |.Subscript o i _=>Ly M r L o i
 |.Attribute o f _=>U9 M r L o f
 |.JoinedStr vs _=>W8 r L vs
 |.Dict ks vs _=>Lx ks vs
 |.ListComp elt gs sc p=>jj (oJ r L (.ListComp elt gs sc p))
 |.Call f args ks cp=>(match ks with
  |[]=>U_ M aj r L args cp f
  |k::ks=>LC M r L f args (k::ks))
 |_=>aK
def Zz(l:List FT):BoolOp->FT
 |.And=>Bp l
 |.Or=>Lu l
def Va(M:Gm)(r:Rc)(L:Lc)(a:Expr):List CmpOp->Bz->FT
 |[op],[b]=>if behindInMarks op b then nu else dF (rL M r L a op b)
 |_,_=>nu
def stepT(M:Gm)(r:Rc)(L:Lc)(e:Expr):FT:=match e with
 |.BoolOp op es _=>Zz (es.map (r.T L)) op
 |.UnaryOp op a _=>(match op with
  |.Not=>g_ (r.T L a)
  |_=>tB (r.E L e))
 |.Compare a ops bs _=>Va M r L a ops bs
 |.IfExp _ _ _ _=>nu
 |_=>tB (r.E L e)
def vM(e:Expr):Option Bz:=(fB e).bind λq=>if q.1=("range" : Str)/\q.2.2.isEmpty=true then some q.2.1 else none
noncomputable def rM(e:Expr):Option (Expr×Int):=(fB e).bind λq=>if q.1=("enumerate" : Str)then(match q.2.1 with
 |[a]=>(match q.2.2 with
  |[]=>some (a,0)
  |[w]=>(match dU w.value with
   |some (.int n)=>if w.arg=some ("start" : Str)/\n=1 then some (a,n)else none
   |_=>none)
  |_=>none)
 |_=>none)else none
def LD:Expr->Bool
 |.Tuple _ _ _=>true
 |_=>false
def EI:Expr->Bool
 |.Name _ _=>true
 |_=>false
def Bw(e:Expr):Option Expr:=(fB e).bind λq=>(match q.2.1,q.2.2 with
 |[a],[]=>if q.1=("reversed" : Str)/\noStar a=true then some a else none
 |_,_=>none)
def stepI(M:Gm)(r:Rc)(L:Lc)(tg e:Expr):FL:=match vM e with
 |some args=>if blt M L ("range" : Str)&&args.all noStar then(match args with
   |[a]=>DK tF (dh [r.E L a])
   |[a,b]=>DK tF (dh [r.E L a,r.E L b])
   |[a,b,c]=>DK KY (dh [r.E L a,r.E L b,r.E L c])
   |_=>ee)else ee
 |none=>(match rM e with
  |some (a,n)=>if blt M L ("enumerate" : Str)&&LD tg&&noStar a then iE n (r.E L a)else ee
  |none=>match Bw e with
  |some a=>if blt M L ("reversed" : Str)then o1 Ql (r.E L a)else ee
  |none=>if EI tg then tD (r.E L e)else D5 (r.E L e))
def LF(M:Gm)(r:Rc)(L:Lc)(f:Str)(args:Bz):FL:=if blt M L f then match ud M L f args with
 |some a=>o1 El (r.E L a)
 |none=>(match args with
  |[a]=>if f=("list" : Str)/\noStar a=true then o1 W0 (r.E L a)else ee
  |_=>ee)else ee
def H0(M:Gm)(r:Rc)(L:Lc):Expr->FL
 |.IfExp c a b _=>WZ (r.T L c) (r.O L a) (r.O L b)
 |.BinOp a op b _=>(match op with
  |.Mult=>o2 Qj (r.E L a) (r.E L b)
  |.Add=>o2 Qk (r.E L a) (r.E L b)
  |_=>ee)
 |.Call f args ks _=>(match ks with
  |[]=>(match asName f with
   |some y=>LF M r L y args
   |none=>ee)
  |_::_=>ee)
 |.List es _=>if es.all noStar then lR (dh (es.map (r.E L)))else ee
 |.ListComp elt gs sc p=>oJ r L (.ListComp elt gs sc p)
 |_=>ee
def comp(M:Gm)(aj:Nat->Fn):Nat->Rc
 |0=>⟨λ_ _=>aK,λ_ _=>nu,λ_ _ _=>ee,λ_ _=>ee⟩
 |n+1=>⟨HZ M aj (comp M aj n),stepT M (comp M aj n),stepI M (comp M aj n),H0 M (comp M aj n)⟩
def Bx(L:Lc)(t:Str)(tp:Pos):Expr->Bool
 |.ListComp _ _ sc p=>(if L.sc.kind.isAnnotationScope then ScopeKind.function else L.sc.kind) == .function&&L.sc.names.lookup t == some .local&&tp.line == p.line&&!(sc.names.any λ(n,k)=>n == t&&(k == .local ||k == .cell))
 |_=>false
def qg:Expr->Bool
 |.ListComp _ _ _ _=>true
 |.SetComp _ _ _ _=>true
 |.DictComp _ _ _ _ _=>true
 |_=>false
noncomputable def vN(mu:Bi)(e:Expr):Option (Str×Expr):=(jX e).bind λq=>(gb q.1).bind λw=>(asName w.1).bind λy=>(match q.2.1,q.2.2.1 with
 |[a],[]=>if w.2.1=("append" : Str)/\mu.contains y=true/\noStar a=true/\(w.2.2.endLine == q.2.2.2.line)=true then some (y,a)else none
 |_,_=>none)
def vO:Expr->Bool
 |.Dict [] [] _=>true
 |_=>false
def By(M:Gm)(aj:Nat->Fn)(n:Nat)(L:Lc)(x:Str)(e:Expr):FS:=match iX L.N x with
 |some i=>if eS L x then(if L.mu.contains x then(if vO e then vt i else if M.ub.contains x&&!qg e then rH M.bc i ((comp M aj n).E L e)else pS i ((comp M aj n).O L e))else aZ i ((comp M aj n).E L e))else dc
 |none=>dc
def H_:Expr->Bool
 |.Tuple vs _ _=>vs.all (foldedForSure 8)
 |_=>true
abbrev many:Nat:=1000000
def ZA(M:Gm)(L:Lc)(es:Bz):Option FG:=(namesOf es).bind λxs=>if xs.all (eS L)&&((xs.head?.map M.lu.contains).getD false)then(idxs L.N xs).map HQ else none
def tupS(M:Gm)(aj:Nat->Fn)(n:Nat)(L:Lc)(es:Bz)(e:Expr):FS:=if qg e || !H_ e || !es.all noStar then dc else(match ZA M L es with
  |some g=>qQ g ((comp M aj n).E L e)
  |none=>(match M0 L.N (eS L) (.Tuple es 0 ⟨0,0,0,0⟩)with
  |some (g,_)=>qQ g ((comp M aj n).E L e)
  |none=>dc))
def LG(M:Gm)(aj:Nat->Fn)(n:Nat)(L:Lc)(f:Str)(e:Expr):FE:=if M.bf.contains f then(if vO e then nE M.bc else iF M.bc ((comp M aj n).O L e))else(comp M aj n).E L e
def LH(M:Gm)(aj:Nat->Fn)(n:Nat)(L:Lc)(o:Expr)(f:Str)(e:Expr):FS:=match iX M.P.an f with
  |some j=>aE M.P.tab j ((comp M aj n).E L o) (LG M aj n L f e)
  |none=>dc
def LJ(M:Gm)(aj:Nat->Fn)(n:Nat)(L:Lc)(o b e:Expr):FS:=if qg e then dc else match iA M (comp M aj n) L o with
 |some f=>Qd M.bc f ((comp M aj n).E L b) ((comp M aj n).E L e)
 |none=>match(asName o).bind λy=>if eS L y then iX L.N y else none with
  |some i=>if isSlice b then dc else Qm i ((comp M aj n).E L b) ((comp M aj n).E L e)
  |none=>dc
def ZC(M:Gm)(aj:Nat->Fn)(n:Nat)(L:Lc)(e:Expr):Expr->FS
 |.Name x _=>By M aj n L x e
 |.Tuple es _ _=>tupS M aj n L es e
 |.Attribute o f _=>LH M aj n L o f e
 |.Subscript o b _=>LJ M aj n L o b e
 |_=>dc
def LK(M:Gm)(aj:Nat->Fn)(n:Nat)(L:Lc)(t:Expr)(op:Operator)(e:Expr):FS:=match(gb t).bind λq=>(iX M.P.an q.2.1).map λj=>(q.1,j)with
  |some (o,j)=>if op=.Add then mi M.P.tab j gu ((comp M aj n).E L o) ((comp M aj n).E L e)else dc
  |none=>match(asName t).bind λx=>(iX L.N x).map λi=>(x,i)with
  |some (x,i)=>if op=.Add/\eS L x=true then JM gu i ((comp M aj n).E L e)else dc
  |none=>dc
def QQ(M:Gm)(r:Rc)(L:Lc)(e:Expr):Option (FE×Expr):=(jX e).bind λq=>(gb q.1).bind λw=>(iA M r L w.1).bind λf=>(match q.2.1,q.2.2.1 with
 |[a],[]=>if w.2.1=("append" : Str)/\noStar a=true/\(w.2.2.endLine == q.2.2.2.line)=true then some (f,a)else none
 |_,_=>none)
def Vb(M:Gm)(aj:Nat->Fn)(n:Nat)(L:Lc)(e:Expr):FS:=match QQ M (comp M aj n) L e with
  |some (f,a)=>eA M.bc f ((comp M aj n).E L a)
  |none=>match vN L.mu e with
  |some (y,a)=>(match iX L.N y with
   |some i=>if eS L y then iQ i ((comp M aj n).E L a)else dc
   |none=>dc)
  |none=>if qg e then dc else bq ((comp M aj n).E L e)
def retS(M:Gm)(aj:Nat->Fn)(n:Nat)(L:Lc):Option Expr->FS
 |some e=>if L.mu.contains ("return" : Str)then bw (iF M.bc ((comp M aj n).O L e))else bw ((comp M aj n).E L e)
 |none=>bw (cF .non)
def QR(M:Gm)(r:Rc)(L:Lc)(e:Expr):Option FE:=(jX e).bind λq=>(gb q.1).bind λw=>(iA M r L w.1).bind λf=>(match q.2.1,q.2.2.1 with
 |[],[]=>if w.2.1=("values" : Str)/\(w.2.2.endLine == q.2.2.2.line)=true then some f else none
 |_,_=>none)
def LL(M:Gm)(aj:Nat->Fn)(n:Nat)(L:Lc)(b:FS)(tg it:Expr):FS:=match QR M (comp M aj n) L it with
 |some f=>vK M.bc f
 |none=>if isSet it then dc else(match M0 L.N (eS L) tg with
  |some (g,_)=>iy ((comp M aj n).I L tg it) g b
  |none=>dc)
def LO:Stmt->Option Expr
 |.Expr e _=>some e
 |_=>none
def rN:Stmt->Option (Str×Expr)
 |.Assign ts e _=>(match ts with
  |[t]=>(asName t).map λx=>(x,e)
  |_=>none)
 |_=>none
def vP:Expr->Option Bz
 |.List es _=>some es
 |_=>none
def BA:Expr->Option (Expr×Expr)
 |.BinOp a op b _=>if op=.Add then some (a,b)else none
 |_=>none
def rO(M:Gm)(L:Lc)(nm:Str):Bz->Option Ee
 |[]=>some []
 |e::es=>(fB e).bind λq=>(match q.2.1,q.2.2 with
  |[a,b],[]=>(asName a).bind λn=>(asName b).bind λy=>if q.1=("isinstance" : Str)/\n=nm/\uc L y=true then(M.xi.lookup y).bind λt=>(rO M L nm es).map (t::·)else none
  |_,_=>none)
def W9(M:Gm)(L:Lc)(nm:Str):DD->Option (Str×Ee)
 |[s1,s2,s3]=>(rN s1).bind λq1=>(rN s2).bind λq2=>(rN s3).bind λq3=>(BA q2.2).bind λw2=>(BA q3.2).bind λw3=>(asName w2.1).bind λn2=>(asName w3.1).bind λn3=>
  if q2.1=q1.1/\q3.1=q1.1/\n2=q1.1/\n3=q1.1 then(vP q1.2).bind λl1=>(vP w2.2).bind λl2=>(vP w3.2).bind λl3=>(rO M L nm l1).bind λb1=>(rO M L nm l2).bind λb2=>(rO M L nm l3).bind λb3=>if b1.length+b2.length+b3.length<=1000 then some (q1.1,b1++b2++b3)else none else none
 |_=>none
def ZD(M:Gm)(L:Lc):Option Str->DD->Option FS
 |none,[s]=>(rN s).bind λq=>(match dU q.2 with
  |some (.bool b)=>(iX L.N q.1).bind λj=>if eS L q.1 then some (aZ j (cF (.bl b)))else none
  |_=>none)
 |some nm,su=>(W9 M L nm su).bind λq=>(iX L.N nm).bind λi=>(iX L.N q.1).bind λj=>if eS L q.1=true/\eS L nm=true/\L.sc.names.lookup nm=some .local/\j≠i/\blt M L ("isinstance" : Str)=true then some (vI i j q.2)else none
 |_,_=>none
def Vc(M:Gm)(e:Expr):Option (Nat×Nat×Expr×Bz):=(jX e).bind λq=>(gb q.1).bind λw=>(M.xt.lookup w.2.1).bind λci=>if q.2.2.1.isEmpty=true/\aP w.1=true/\q.2.1.all noStar=true/\q.2.1.length<29/\(w.2.2.endLine == q.2.2.2.line)=true then some (ci.1,ci.2,w.1,q.2.1)else none
def QT:Stmt->Option (Expr×Stmt×Stmt)
 |.If c a b _=>(match a,b with
  |[s],[t]=>some (c,s,t)
  |_,_=>none)
 |_=>none
def uf(M:Gm)(aj:Nat->Fn)(n:Nat)(L:Lc):Nat->Stmt->Option FS
 |0,_=>none
 |d+1,st=>(match(LO st).bind (Vc M)with
  |some (c,i,o,args)=>some (yn c (aj i) ((comp M aj n).E L o) (dh (args.map ((comp M aj n).E L))))
  |none=>(QT st).bind λq=>(uf M aj n L d q.2.1).bind λF=>(uf M aj n L d q.2.2).map λG=>Lq ((comp M aj n).T L q.1) F G)
def EJ(M:Gm)(aj:Nat->Fn)(n:Nat)(L:Lc):DD->List ExceptHandler->Option FS
 |[s],[.ExceptHandler ty nm su _]=>(uf M aj n L 3 s).bind λF=>(ty.bind asName).bind λy=>if uc L y=true/\y∈M.xm then(ZD M L nm su).map λA=>jA F A else none
 |_,_=>none
def Vd(M:Gm)(aj:Nat->Fn)(n:Nat)(rS:Lc->DD->FS)(L:Lc):Stmt->FS
 |.Assign ts e _=>(match ts with
  |[t]=>ZC M aj n L e t
  |_=>dc)
 |.AugAssign t op e _=>LK M aj n L t op e
 |.Expr e _=>Vb M aj n L e
 |.Return o _=>retS M aj n L o
 |.If c a b _=>fW ((comp M aj n).T L c) (rS L a) (rS L b)
 |.For tg it body oe _=>(match oe with
  |[]=>LL M aj n L (rS L body) tg it
  |_::_=>dc)
 |.While c body oe _=>(match oe with
  |[]=>jQ many ((comp M aj n).T L c) (rS L body)
  |_::_=>dc)
 |.Try body hs oe fb _=>(match hs,oe,fb with
  |_::_,[],[]=>(match EJ M aj n L body hs with
   |some F=>F
   |none=>rS L body)
  |_,_,_=>dc)
 |.Pass _=>bZ
 |.Break _=>OO
 |.Continue _=>OP
 |_=>dc
def iY(M:Gm)(aj:Nat->Fn)(n:Nat):Nat->Lc->DD->FS
 |0,_,_=>dc
 |_+1,_,[]=>bZ
 |k+1,L,[st]=>Vd M aj n (iY M aj n k) L st
 |k+1,L,st::rest=>ao (Vd M aj n (iY M aj n k) L st) (iY M aj n k L rest)
def LP:Stmt->Option Expr
 |.Raise e c _=>(match e,c with
  |some e,none=>some e
  |_,_=>none)
 |_=>none
def vQ(M:Gm)(L:Lc):Stmt->Option Expr
 |.If c a b _=>(match a,b with
  |[st],[]=>(LP st).bind λe=>(fB e).bind λq=>(match q.2.1,q.2.2 with
   |[t],[]=>(ia t).bind λ_=>if q.1=M.xc/\uc L q.1=true then some c else none
   |_,_=>none)
  |_,_=>none)
 |_=>none
def rP(M:Gm)(aj:Nat->Fn)(n:Nat)(L:Lc):DD->FS
 |[]=>Eu bZ
 |st::rest=>(match vQ M L st with
  |some c=>xF ((comp M aj n).T L c) (rP M aj n L rest)
  |none=>(match(LO st).bind (Vc M)with
   |some (c,i,o,[])=>MZ c (aj i) ((comp M aj n).E L o) (rP M aj n L rest)
   |_=>Eu (iY M aj n 200 L (st::rest))))
end D
namespace D
open PySem L2
structure xQ(M:Gm)(K:aS)(mg:Str->D1)(C:Addr):Prop where
 at_:mg M.xc=some (.ref C)
 db:(M.xc == ("__debug__" : Str))=false
 ec:nF K C
 ei:yE K C [.type "ValueError",.type "Exception",.type "BaseException",.type "object"] "ValueError.__new__" = true
 xi:∀y b,M.xi.lookup y=some b->W5 K mg C y b
 xm:∀y,y∈M.xm->aQ y/\∃CB,mg y=some (.ref CB)/\uA K (.ref C) (.ref CB)=some true
structure ug(M:Gm)(Pr:Program)(w:World)(K:aS)(mg:Str->D1)(base:Heap)(aj:Nat->Fn)(k:Nat):Prop where
 pg:kD K mg M.P
 cst:∀x t,M.cs.lookup x=some t->vq K mg x t
 fns:∀x ds i,M.fs.lookup x=some (ds,i)->R0 M.P Pr w K mg base k x ds (aj i)
 fz:∀x c n,M.cl.lookup x=some (.fz c n)->WH M.P Pr w K mg base k c n x
 z0:∀x c,M.cl.lookup x=some (.z0 c)->PJ M.P Pr w K mg c x
 cp:∀x c,M.cl.lookup x=some (.cp c)->WT M.P Pr w K mg base k c x
 nw:∀x c i,M.cl.lookup x=some (.nw c i)->WO M.P Pr w K mg base k c x (aj i)
 mts:∀m l c i,M.ms.lookup m=some l->l.lookup c=some i->R1 M.P Pr w K mg base k c m (aj i)
 bl:∀x,x∈M.bl->mg x=none
 xt:∀m c i,M.xt.lookup m=some (c,i)->∃C,xQ M K mg C/\R7 M.P Pr w K mg base C k c m (aj i)
structure CxOk(M:Gm)(aj:Nat->Fn)(k:Nat)(L:Lc)(X:Cx):Prop where
 gm:ug M X.prog X.w X.K X.mg X.base aj k
 N:X.N=L.N
 sc:X.env.scope=L.sc
 calm:X.calm=true
 room:∃j,k+1<=j/\aX j X.A
variable{X:Cx}{a b c e o:Expr}{M:Gm}{L:Lc}{es:Bz}{i k:Nat}{aj:Nat->Fn}{aY aW p pos bM:Pos}{K:aS}{r:Rc}{x y:Str}{mg:Str->D1}
theorem eF{N:Bi}{x:Str}{i:Nat}(h:iX N x=some i):N[i]?=some x:=by
 unfold iX at h;rw[GG,GH]at h;obtain⟨hj,h1,_⟩:=h;rw[eM hj,eq_of_beq h1]
theorem LQ(h:jB x=false):aQ x/\dZ x:=by
 unfold jB at h;exact Bool.or_eq_false_iff.mp h
theorem dw(C:CxOk M aj k L X)(h:eS L x=true):Loc X.env.scope x/\kI X.env.scope x/\aQ x/\dZ x:=by
 rw[C.sc];unfold eS at h;split at h
 ·rename_i e
  obtain⟨h1,h2⟩:=LQ (by simpa using h)
  exact⟨.inl e,.inl e,h1,h2⟩
 ·rename_i e
  obtain⟨h1,h2⟩:=LQ (by simpa using h)
  exact⟨.inr e,.inr (.inl e),h1,h2⟩
 ·cases h
theorem gx(C:CxOk M aj k L X)(h:uc L x=true):Gl X x/\aQ x:=by
 unfold uc at h;rw[bL]at h;obtain⟨h1,h2⟩:=h;refine⟨?_,(LQ (by simpa using h2)).1⟩
 show X.env.scope.names.lookup x=_;rw[C.sc];exact of_decide_eq_true h1
def sy(M:Gm)(X:Cx)(r:Rc)(L:Lc):Prop:=∀e,PE X e (tE (M.P.kt X) (r.E L e))
def Ve(M:Gm)(X:Cx)(r:Rc)(L:Lc):Prop:=∀e,PT X e (tT (M.P.kt X) (r.T L e))
def ZE(M:Gm)(X:Cx)(r:Rc)(L:Lc):Prop:=∀tg e,PI X tg e (tI (M.P.kt X) (r.I L tg e))
def ZF(M:Gm)(X:Cx)(r:Rc)(L:Lc):Prop:=∀e,PE X e (tO (M.P.kt X) (r.O L e))
def uh(M:Gm)(aj:Nat->Fn)(k:Nat)(r:Rc):Prop:=∀L X,CxOk M aj k L X->sy M X r L/\Ve M X r L/\ZE M X r L/\ZF M X r L
theorem gf(hE:sy M X r L):∀es:Bz,es.all noStar=true->PA X es (tA (M.P.kt X) (dh (es.map (r.E L))))
 |[],_=>tH
 |e::es,h=>by
  rw[c_,bL]at h;exact pU (hE e) (gf hE es h.2) (ai h.1)
theorem rQ(hE:sy M X r L):∀es:Bz,PE X (.BoolOp .And es pos) (tE (M.P.kt X) (Bo (es.map (r.E L))))
 |[]=>aG
 |[a]=>Aj (hE a)
 |a::b::es=>JQ (hE a) (rQ hE (b::es))
theorem vR(hE:sy M X r L):∀es:Bz,PE X (.BoolOp .Or es pos) (tE (M.P.kt X) (Ls (es.map (r.E L))))
 |[]=>aG
 |[a]=>Aj (hE a)
 |a::b::es=>OY (hE a) (vR hE (b::es))
theorem QU:PW X e (tT (M.P.kt X) nu):=λ_ _ _ _ _ _ _ ⟨_,_,_,_,_,h,_⟩=>by cases h
theorem rR(hT:Ve M X r L):∀es:Bz,PW X (.BoolOp .And es pos) (tT (M.P.kt X) (Bp (es.map (r.T L))))
 |[]=>QU
 |[a]=>JP (hT a)
 |a::b::es=>OW (hT a) (rR hT (b::es))
theorem vS(hT:Ve M X r L):∀es:Bz,PW X (.BoolOp .Or es pos) (tT (M.P.kt X) (Lu (es.map (r.T L))))
 |[]=>QU
 |[a]=>OV (hT a)
 |a::b::es=>T_ (hT a) (vS hT (b::es))
theorem bU{α:Type}{l:List (Str×α)}{x:Str}{a:α}(h:l.lookup x=some a):(x,a)∈l:=by
 induction l with
 |nil=>simp at h
 |cons p l ih=>
  obtain⟨q,b⟩:=p;rw[iH]at h;split at h
  ·rename_i e
   cases h;rw[eq_of_beq e];exact dj ..
  ·exact dm _ (ih h)
theorem um(C:CxOk M aj k L X):∀{ys:Bi}{ds:B1},rK M L ys=some ds->ys.length=ds.length/\∀(i d:Nat)(y:Str),ds[i]?=some d->ys[i]?=some y->M.P.cn[d]?=some y/\(M.P.fn[d]?).isSome=true/\Gl X y/\aQ y
 |[],ds,h=>by
  cases h;exact⟨rfl,λi d y h=>by simp at h⟩
 |y::ys,ds,h=>by
  unfold rK at h;split at h
  ·rename_i q
   rw[bL]at q;obtain⟨d,h1,h2⟩:=ba.mp h;obtain⟨ds',h3,rfl⟩:=eL.mp h2;obtain⟨h4,h5⟩:=um C h3;obtain⟨g1,g2⟩:=gx C q.1;refine⟨by simp[h4],λi d' y' e1 e2=>?_⟩
   cases i with
   |zero=>
    simp at e1 e2;subst e1 e2;refine⟨eF h1,?_,g1,g2⟩;have q2:=q.2;rw[h1]at q2;exact q2
   |succ i=>exact h5 i d' y' (by simpa using e1) (by simpa using e2)
  ·cases h
theorem c5(C:CxOk M aj k L X)(h:blt M L x=true):Gl X x/\X.mg x=none/\aQ x:=by
 unfold blt at h;rw[bL]at h;obtain⟨g1,g2⟩:=gx C h.2;exact⟨g1,C.gm.bl x (uC.mp h.1),g2⟩
theorem QV(C:CxOk M aj k L X)(hE:sy M X r L){q:Expr}(hb:blt M L ("isinstance" : Str)=true)(hs:noStar a=true):PE X (.Call (.Name "isinstance" p) [a,q] [] pos) (tE (M.P.kt X) (W7 M r L a q)):=by
 obtain⟨hg,hm,_⟩:=c5 C hb;cases q with
 |Name y py=>
  show PE X _ (tE (M.P.kt X) (match qX.lookup y with|some ty=>_|none=>_))
  split
  ·rename_i ty NT
   split
   ·rename_i q
    rw[bL]at q;obtain⟨g1,g2⟩:=gx C q.2;exact J_ rfl (bU NT) hm (C.gm.bl _ (uC.mp q.1)) (hE a) hg g1 hs
   ·exact aG
  ·split
   ·rename_i ds sj
    obtain⟨h1,h2⟩:=um C sj
    match ds,h1,h2 with
    |[d],_,h2=>
     obtain⟨f1,f2,f3,f4⟩:=h2 0 d y rfl rfl;exact PF C.gm.pg f1 hm (hE a) hg f3 hs f4 f2
   ·exact aG
 |Tuple es x1 tp=>
  show PE X _ (tE (M.P.kt X) (if es.length<=100 then _ else aK))
  split
  ·rename_i hl
   split
   ·rename_i ds sj
    obtain⟨ys,h0,sj⟩:=ba.mp sj;obtain⟨h1,h2⟩:=um C sj;exact P6 C.gm.pg h0 h1 h2 hl hm (hE a) hg hs
   ·exact aG
  ·exact aG
 |_=>exact aG
theorem uo{f:Str}{args:Bz}(h:oK M L f args=some a):f=("len" : Str)/\blt M L ("set" : Str)=true/\noStar a=true/\∃p1 f6,args=[.Call (.Name "set" p1) [a] [] f6]:=by
 match args,h with
 |[e],h=>
  obtain⟨⟨g,as,ks⟩,h1,hh⟩:=ba.mp h;obtain⟨p1,f6,rfl⟩:=b9 h1
  match as,ks,hh with
  |[a'],[],hq=>
   dsimp only at hq;split at hq
   ·rename_i q
    obtain⟨rfl,rfl,q3,q4⟩:=q;cases hq;exact⟨rfl,q3,q4,_,_,rfl⟩
   ·cases hq
theorem rT{f:Str}{args:Bz}(h:ud M L f args=some a):f=("list" : Str)/\blt M L ("range" : Str)=true/\noStar a=true/\∃p1 f6,args=[.Call (.Name "range" p1) [a] [] f6]:=by
 match args,h with
 |[e],h=>
  obtain⟨⟨g,as,ks⟩,h1,hh⟩:=ba.mp h;obtain⟨p1,f6,rfl⟩:=b9 h1
  match as,ks,hh with
  |[a'],[],hq=>
   dsimp only at hq;split at hq
   ·rename_i q
    obtain⟨rfl,rfl,q3,q4⟩:=q;cases hq;exact⟨rfl,q3,q4,_,_,rfl⟩
   ·cases hq
theorem BB(C:CxOk M aj k L X){i:Nat}(h:QO L b=some i):∃y py,b=.Name y py/\X.N[i]?=some y/\kI X.env.scope y/\aQ y/\dZ y:=by
 cases b<;>first|(cases h;done)|skip
 replace h:(if _ then _ else none)=some i:=h
 split at h
 ·rename_i q
  rw[bL]at q;obtain⟨l1,l2,l3,l4⟩:=dw C q.2;exact⟨_,_,rfl,by rw[C.N];exact eF h,l2,l3,l4⟩
 ·cases h
theorem fD(C:CxOk M aj k L X)(hE:sy M X r L){f:FE}(h:iA M r L o=some f):PE X o (tE (M.P.kt X) f)/\aP o=true/\∀op,behindInMarks op o=false:=by
 obtain⟨q,h1,h⟩:=ba.mp h;rw[gc h1];split at h
 ·rename_i z
  rw[bL]at z;obtain⟨j,h2,rfl⟩:=eL.mp h;exact⟨Hy C.gm.pg (eF h2) (hE _) z.2,rfl,λop=>by cases op<;>rfl⟩
 ·cases h
theorem EK(C:CxOk M aj k L X)(hE:sy M X r L){op:CmpOp}(h:behindInMarks op b=false):PE X (.Compare a [op] [b] pos) (tE (M.P.kt X) (rL M r L a op b)):=by
 obtain⟨j,hj,hr⟩:=C.room;unfold rL;split
 ·rename_i neg f h1 h2
  exact KR M.ib hr h1 (hE a) (fD C hE h2).1 h
 split
 ·rename_i neg i h1 h2
  obtain⟨y,py,rfl,q1,q2,q3,q4⟩:=BB C h2;exact Qa rfl hr h1 (hE a) q1 q2 q3 q4
 ·exact KG rfl hr (hE a) (hE b) h
theorem BC(C:CxOk M aj k L X)(hE:sy M X r L){op:CmpOp}(h:behindInMarks op b=false):PT X (.Compare a [op] [b] pos) (tT (M.P.kt X) (dF (rL M r L a op b))):=by
 obtain⟨j,hj,hr⟩:=C.room;unfold rL;split
 ·rename_i neg f h1 h2
  exact KS M.ib hr h1 (hE a) (fD C hE h2).1 h
 split
 ·rename_i neg i h1 h2
  obtain⟨y,py,rfl,q1,q2,q3,q4⟩:=BB C h2;exact KJ rfl hr h1 (hE a) q1 q2 q3 q4
 ·exact Eh rfl hr (hE a) (hE b) h
theorem BD{ds:Fs}{args:Bz}{z:Nat×Expr}(h:Bt M L ds args=some z):ds=[]/\∃y py,args=[.Name y py,z.2]/\eS L y=true/\iX L.N y=some z.1:=by
 unfold Bt at h;split at h
 ·rename_i e b
  obtain⟨y,h1,h⟩:=ba.mp h;split at h
  ·rename_i q
   rw[bL]at q;obtain⟨i,h2,rfl⟩:=eL.mp h;obtain⟨py,rfl⟩:=a_ h1;exact⟨rfl,y,py,rfl,q.2,h2⟩
  ·cases h
 ·cases h
theorem EL(C:CxOk M aj k L X)(hE:sy M X r L){f:Str}{args:Bz}{g:FE}(g1:Gl X f)(g2:X.mg f=none)(hs:args.all noStar=true)(h:Lw M r L f args=some g):PE X (.Call (.Name f p) args [] pos) (tE (M.P.kt X) g):=by
 unfold Lw at h;split at h
 ·rename_i a
  obtain⟨fo,h1,h⟩:=ba.mp h;obtain⟨b1,_,_⟩:=fD C hE h1;have hs:noStar a=true:=by simpa using hs
  split at h
  ·rename_i e;cases h;subst e;exact Lj M.ib b1 hs g1 g2
  split at h
  ·rename_i e;cases h;subst e;exact QG M.ib b1 hs g1 g2
  split at h
  ·rename_i e;cases h;subst e;exact QH M.ib b1 hs g1 g2
  ·cases h
 ·cases h
theorem EM(hc:X.calm=true):∀p∈QP,Up X p.1 p.2:=by
 intro p h;rcases cH.mp h with rfl|h
 ·exact⟨⟨_,QF,.inl ⟨_,PyProof.Rows.boot_min,wM hc⟩⟩,by decide,by decide⟩
 ·exact AM hc p h
theorem BE(C:CxOk M aj k L X)(hE:sy M X r L)(f:Str)(args:Bz):PE X (.Call (.Name f p) args [] pos) (tE (M.P.kt X) (ue M aj r L f args)):=by
 obtain⟨j,hj,hr⟩:=C.room;unfold ue;split
 case isFalse=>exact aG
 rename_i hs;have hA:=gf hE args hs;split
 ·rename_i ds i hf
  split
  case isFalse=>exact aG
  rename_i q;obtain⟨g1,g2⟩:=gx C q;split
  ·rename_i j' b hl
   obtain⟨rfl,y,py,rfl,h1,h2⟩:=BD hl;obtain⟨l1,l2,l3,l4⟩:=dw C h1;have lj:noStar b=true:=by
    rw[c_,c_,bL,bL]at hs;exact hs.2.1
   exact Lo (C.gm.fns f [] i hf) hr (by omega) (by rw[C.N];exact eF h2) l2 l3 l4 (hE b) g1 g2 lj
  cases args with
  |nil=>exact D3 (C.gm.fns f ds i hf) hr (by omega) g1 g2
  |cons a args=>exact s_call (C.gm.fns f ds i hf) hr (by omega) hA g1 g2 hs
 ·split
  ·rename_i c n hc
   split
   case isFalse=>exact aG
   rename_i q;rw[bL]at q;obtain⟨g1,g2⟩:=gx C q.1;cases args with
   |nil=>cases q.2
   |cons a args=>exact PH (C.gm.fz f c n hc) hr hj hA g1 g2 hs
  ·rename_i c hc
   split
   case isFalse=>exact aG
   rename_i q;rw[bL]at q;obtain⟨g1,g2⟩:=gx C q.1;cases args with
   |nil=>exact Kd (C.gm.z0 f c hc) g1 g2
   |cons a args=>cases q.2
  ·rename_i c hc
   split
   ·rename_i a
    split
    case isFalse=>exact aG
    rename_i q;obtain⟨g1,g2⟩:=gx C q;exact Kw (C.gm.cp f c hc) hr hj (hE a) g1 g2 (by simpa using hs)
   ·exact aG
  ·rename_i c i hc
   split
   case isFalse=>exact aG
   rename_i q;rw[bL]at q;obtain⟨g1,g2⟩:=gx C q.1;cases args with
   |nil=>cases q.2
   |cons a args=>exact Kv (C.gm.nw f c i hc) hr hj hA g1 g2 hs
  ·split
   case isFalse=>exact aG
   rename_i hb;obtain⟨g1,g2,g3⟩:=c5 C hb;split
   ·rename_i g hg
    exact EL C hE g1 g2 hs hg
   split
   ·rename_i a q e _
    have e:=eq_of_beq e;subst e;rw[c_,bL]at hs;exact QV C hE hb hs.1
   ·split
    ·rename_i y py e _ _
     have e:=eq_of_beq e;subst e;have main:PE X (.Call (.Name "len" p) [.Name y py] [] pos) (tE (M.P.kt X) (eg kC (dh [r.E L (.Name y py)]))):=Hx (AM C.calm ("len",kC) (dj ..)) rfl g1 g2 hA hs;split
     ·rename_i i hi
      split
      ·rename_i q
       rw[bL]at q;obtain⟨l1,l2,l3,l4⟩:=dw C q.2;split
       ·exact K4 rfl (by rw[C.N];exact eF hi) l2 l3 l4 g1 g2
       ·exact Ed rfl (by rw[C.N];exact eF hi) l2 l3 l4 g1 g2
      ·exact main
     ·exact main
    ·split
     ·rename_i a ha
      obtain⟨rfl,h2,h3,p1,f6,rfl⟩:=uo ha;obtain⟨k1,k2,k3⟩:=c5 C h2;exact A5 C.calm g2 k2 (hE a) g1 k1 h3
     split
     ·rename_i a ha
      obtain⟨rfl,h2,h3,p1,f6,rfl⟩:=rT ha;obtain⟨k1,k2,k3⟩:=c5 C h2;exact tM (HP C.calm g2 k2 g1 k1 (hE a) h3)
     ·split
      ·rename_i g a QW hg _ _ _ _ _
       exact Hx (EM C.calm (f,g) (bU hg)) rfl g1 g2 hA hs
      ·exact aG
theorem mw{sc:Scope}(C:CxOk M aj k L X)(hf:∀x∈frees sc,sc.names.lookup x=some .free/\L.sc.names.lookup x=some .cell):∀{xs:Bi}{js:B1},idxs L.N xs=some js->(∀x∈xs,x∈frees sc)->d_ X sc js xs
 |[],js,h,_=>by cases h;exact .nil
 |x::xs,js,h,hx=>by
  obtain⟨i,h1,h2⟩:=ba.mp (show(iX L.N x).bind _=some js from h);obtain⟨js',h3,rfl⟩:=eL.mp h2;obtain⟨f1,f2⟩:=hf x (hx x (dj ..));refine .cons (by rw[C.N];exact eF h1) f1 ?_ (mw C hf h3 λy hy=>hx y (dm _ hy))
  show X.env.scope.names.lookup x=_;rw[C.sc];exact f2
theorem xR{sc:Scope}{x:Str}(h:x∈frees sc):(x,NameKind.free)∈sc.names:=by
 unfold frees at h;obtain⟨q,h1,h2⟩:=CM.mp h;obtain⟨n,kk⟩:=q;split at h2
 ·rename_i e;cases h2;have e:kk=.free:=e;subst e;exact h1
 ·cases h2
theorem BG(C:CxOk M aj k L X)(sc:Scope):relabel sc X.env=Bq sc L.sc:=by
 unfold relabel Bq Env.kindOf;rw[C.sc]
theorem qh{N:Bi}{ok:Str->Bool}(hN:X.N.Nodup)(h:∀x i,ok x=true->iX N x=some i->X.N[i]?=some x/\Loc X.env.scope x/\(X.fn x=true\/X.env.scope.names.lookup x=some .local)):∀{es:Bz}{xs:Bi}{is:B1},namesOf es=some xs->xs.all ok=true->idxs N xs=some is ->
  MC X es (jV is)/\(assignEach es X.env).length=is.length/\(assignEach es X.env).findIdx? (·.1)=none
 |[],xs,is,h1,_,h3=>by
  cases h1;cases h3;exact⟨C6,rfl,rfl⟩
 |e::es,xs,is,h1,h2,h3=>by
  cases e<;>first|(cases h1;done)|skip
  rename_i x px;obtain⟨zs,h4,rfl⟩:=eL.mp (show(namesOf es).map (x::·)=some xs from h1)
  rw[c_,bL]at h2;obtain⟨i,h5,h6⟩:=ba.mp (show(iX N x).bind _=some is from h3);obtain⟨Vf,h7,rfl⟩:=eL.mp h6;obtain⟨g1,g2,g3⟩:=h x i h2.1 h5;obtain⟨r1,r2,r3⟩:=qh hN h h4 h2.2 h7;refine⟨zu (pC hN g1 g2 g3) r1 rfl,?_,?_⟩
  ·show((false,_)::assignEach es X.env).length=_
   rw[cT,r2];rfl
  ·show List.findIdx? (·.1) ((false,_)::assignEach es X.env)=none
   rw[List.findIdx?_cons];simp only[r3];rfl
theorem Ib{B:KT}(hB:B.K=X.K){N:Bi}{ok:Str->Bool}{tg:Expr}{g:FG}{is:B1}(hc:X.calm=true)(hN:X.N.Nodup)(h:∀x i,ok x=true->iX N x=some i->X.N[i]?=some x/\Loc X.env.scope x/\(X.fn x=true\/X.env.scope.names.lookup x=some .local))
  (ht:M0 N ok tg=some (g,is)):∃gt,PG X tg gt/\nB B gt g is:=by
 cases tg<;>first|(cases ht;done)|skip
 ·rename_i x px
  replace ht:(if ok x=true then _ else none)=some (g,is):=ht
  split at ht
  ·rename_i q
   obtain⟨i,h1,h2⟩:=eL.mp ht;cases h2;obtain⟨g1,g2,g3⟩:=h x i q h1;exact⟨_,pC hN g1 g2 g3,ve i⟩
  ·cases ht
 ·rename_i es x1 tp
  replace ht:(namesOf es).bind _=some (g,is):=ht
  obtain⟨xs,h1,h2⟩:=ba.mp ht;split at h2
  ·rename_i q
   obtain⟨Vf,h3,h4⟩:=eL.mp h2;cases h4;obtain⟨r1,r2,r3⟩:=qh hN h h1 q h3;refine⟨_,zw hc r1 r2 r3,?_⟩;rw[<- hB];exact AS _ rfl
  ·cases h2
theorem LR{N:Bi}{ok:Str->Bool}{tg:Expr}{g:FG}{is:B1}(ht:M0 N ok tg=some (g,is)):∀i∈is,i<N.length:=by
 have lt:∀{x i},iX N x=some i->i<N.length:=λh=>(eT.mp (eF h)).1;cases tg<;>first|(cases ht;done)|skip
 ·rename_i x px
  replace ht:(if ok x=true then _ else none)=some (g,is):=ht
  split at ht
  ·obtain⟨i,h1,h2⟩:=eL.mp ht
   cases h2;intro j hj;rw[qq.mp hj];exact lt h1
  ·cases ht
 ·rename_i es x1 tp
  replace ht:(namesOf es).bind _=some (g,is):=ht
  obtain⟨xs,h1,h2⟩:=ba.mp ht;split at h2
  ·obtain⟨Vf,h3,h4⟩:=eL.mp h2
   cases h4
   have:∀(xs:Bi)(is:B1),idxs N xs=some is->∀i∈is,i<N.length:=by
    intro xs
    induction xs with
    |nil=>intro is h;cases h;intro i hi;cases hi
    |cons x xs ih=>
     intro is h;obtain⟨i,h5,h6⟩:=ba.mp (show(iX N x).bind _=some is from h);obtain⟨ZG,h7,rfl⟩:=eL.mp h6;intro j hj;rcases cH.mp hj with z|z
     ·rw[z];exact lt h5
     ·exact ih ZG h7 j z
   exact this xs _ h3
  ·cases h2
theorem vU{it:Expr}(h:isSet it=false):∀x,foldedSetIterable it X.env x=pure x:=λx=>by
 unfold foldedSetIterable;cases it<;>first|rfl|(cases h)
structure LS(M:Gm)(X:Cx)(r:Rc)(L:Lc)(elt tg iter:Expr)(ifs:Bz)(sc:Scope)(js:B1)(g:FG)(is:B1):Prop where
 sco:eW X sc
 fr:d_ X sc js (frees sc)
 nd:(locals sc++frees sc).Nodup
 it:PI X tg iter (tI (M.P.kt X) (r.I L tg iter))
 ex:∃gt,(∀cl C fp s H,PG (X.block (locals sc++frees sc) sc cl C fp s H) tg gt)/\nB (M.P.kt X) gt g is
 ts:∀cl C fp s H,Cs (X.block (locals sc++frees sc) sc cl C fp s H) ifs (tT (M.P.kt X) (HX r (Br L sc) ifs))
 el:∀cl C fp s H,PE (X.block (locals sc++frees sc) sc cl C fp s H) elt (tE (M.P.kt X) (r.E (Br L sc) elt))
 lt:∀i∈is,i<(locals sc).length
 st:∀x,foldedSetIterable iter X.env x=pure x
theorem vV(R:uh M aj k r)(C:CxOk M aj k L X){elt tg iter:Expr}{ifs:Bz}{sc:Scope}{js:B1}{g:FG}{is:B1}(h:(Lv L sc&&decide ((locals sc++frees sc).Nodup)&&!isSet iter&&decide (ifs.length<=1))=true)(hj:idxs L.N (frees sc)=some js)
  (ht:M0 (locals sc) (λx=>decide (sc.names.lookup x=some .local)) tg=some (g,is)):LS M X r L elt tg iter ifs sc js g is:=by
 obtain⟨hE,hT,hI,hO⟩:=R L X C;simp only[bL,decide_eq_true_eq,Gs]at h;obtain⟨⟨⟨h1,Vg⟩,h3⟩,h4⟩:=h;unfold Lv at h1;simp only[bL,decide_eq_true_eq,gz]at h1;obtain⟨⟨k1,k2⟩,k3⟩:=h1;have nL:∀x∈frees sc,sc.names.lookup x=some .free/\L.sc.names.lookup x=some .cell:=λx hx=>by
  have:=(k2 _ (xR hx)).2 rfl
  exact this
 have bs:eW X sc:=⟨k1,λq hq=>(k2 q hq).1.1,λq hq e=>(k2 q hq).1.2 e,λq hq e=>by
  show X.env.scope.names.lookup q.1=_;rw[C.sc];exact((k2 q hq).2 e).2⟩
 have RT:∀cl CC fp s H,CxOk M aj k (Br L sc) (X.block (locals sc++frees sc) sc cl CC fp s H):=λcl CC fp s H=>⟨C.gm,rfl,BG C sc,C.calm,C.room⟩;refine⟨bs,mw C nL hj λ_ h=>h,Vg,hI tg iter,?_,λcl CC fp s H=>?_,λcl CC fp s H=>(R _ _ (RT cl CC fp s H)).1 elt,LR ht,vU h3⟩
 ·-- the target's names are the block's own
  have key:∀cl CC fp s H,∀x i,decide (sc.names.lookup x=some .local)=true->iX (locals sc) x=some i->(X.block (locals sc++frees sc) sc cl CC fp s H).N[i]?=some x/\Loc (X.block (locals sc++frees sc) sc cl CC fp s H).env.scope x/\((X.block (locals sc++frees sc) sc cl CC fp s H).fn x=true\/(X.block (locals sc++frees sc) sc cl CC fp s H).env.scope.names.lookup x=some .local):=λcl CC fp s H x i hx hi=>by
   have hl:(relabel sc X.env).names.lookup x=some .local:=lookup_relabel_local (of_decide_eq_true hx);have h1:=eF hi;refine⟨?_,.inl hl,.inr hl⟩;show(locals sc++frees sc)[i]?=some x;rw[gI (eT.mp h1).1];exact h1
  cases tg<;>first|(cases ht;done)|skip
  ·rename_i x px
   replace ht:(if _ then _ else none)=some (g,is):=ht
   split at ht
   ·rename_i q
    obtain⟨i,h5,h6⟩:=eL.mp ht;cases h6;exact⟨_,λcl CC fp s H=>by
     obtain⟨g1,g2,g3⟩:=key cl CC fp s H x i q h5;exact pC Vg g1 g2 g3,ve i⟩
   ·cases ht
  ·rename_i es x1 tp
   replace ht:(namesOf es).bind _=some (g,is):=ht
   obtain⟨xs,h5,h6⟩:=ba.mp ht;split at h6
   ·rename_i q
    obtain⟨Vf,h7,h8⟩:=eL.mp h6;cases h8;refine⟨IS X.K is.length (jV is),λcl CC fp s H=>?_,AS (B:=M.P.kt X) is rfl⟩;obtain⟨r1,r2,r3⟩:=qh (X:=X.block (locals sc++frees sc) sc cl CC fp s H) Vg (key cl CC fp s H) h5 q h7;exact zw (X:=X.block (locals sc++frees sc) sc cl CC fp s H) C.calm r1 r2 r3
   ·cases h6
 ·match ifs,h4 with
  |[],_=>exact PL
  |[c],_=>exact PM ((R _ _ (RT cl CC fp s H)).2.1 c)
theorem jC(R:uh M aj k r)(C:CxOk M aj k L X)(e:Expr):PE X e (tO (M.P.kt X) (oJ r L e)):=by
 cases e<;>first|exact cX|skip
 rename_i elt gs sc p
 match gs with
 |[]=>exact cX
 |_::_::_=>exact cX
 |[⟨tg,iter,ifs,ay⟩]=>
  show PE X _ (tO (M.P.kt X) (ml r L elt ⟨tg,iter,ifs,ay⟩ sc));unfold ml;split
  case isFalse=>exact cX
  rename_i h;obtain⟨rfl,h⟩:=h;split
  ·rename_i js g is hj ht
   have K:=vV R C (elt:=elt) h hj ht;obtain⟨gt,h1,h2⟩:=K.ex;exact Km (locals sc) C.calm K.sco K.fr K.it h1 h2 K.ts K.el K.lt K.st
  ·exact cX
theorem qi(hE:sy M X r L):∀e:Option Expr,PO X e (tP (M.P.kt X) (Bs r L e))
 |none=>Pc
 |some e=>Pd (hE e)
theorem EN(h:isSlice e=false):ig e:=λo i=>by
 unfold subscripted;cases e<;>first|rfl|(cases h)
theorem EO{m:Str}{f:FE}:∀{args:Bz},Lz M r L o m args=some f->m=("get" : Str)/\∃b d fb,args=[b,d]/\iA M r L o=some fb/\f=KO M.bc fb (r.E L b) (r.E L d)
 |[],h=>by cases h
 |[_],h=>by cases h
 |_::_::_::_,h=>by cases h
 |[b,d],h=>by
  dsimp only[Lz]at h;split at h
  ·rename_i e
   obtain⟨fb,h5,rfl⟩:=eL.mp h;exact⟨e,b,d,fb,rfl,h5,rfl⟩
  ·cases h
theorem ER{m:Str}{f:FE}{args:Bz}(h:LA M r L o m args=some f):m=("pop" : Str)/\∃k1 p1 fb,args=[.Constant (.int 0) k1 p1]/\iA M r L o=some fb/\f=kc M.bc fb:=by
 unfold LA at h;split at h
 ·rename_i b
  split at h
  ·rename_i hc
   split at h
   ·rename_i e
    obtain⟨fb,h5,rfl⟩:=eL.mp h;obtain⟨k1,p1,rfl⟩:=fQ hc;exact⟨e,_,_,fb,rfl,h5,rfl⟩
   ·cases h
  ·cases h
 ·cases h
theorem QX(hb:aP o=true)(hs:[a,b].all noStar=true)(hl:(aY.endLine == aW.line)=true):M2 X o "get" aY a b aW:=by
 refine⟨dS hb,nY hs (by simp),hl,?_⟩
 simp only[c_,GL,CI,bL]at hs;rw[ai hs.1,ai hs.2];rfl
theorem vW{l:List (Nat×Nat)}{m:Str}(C:CxOk M aj k L X)(h:M.ms.lookup m=some l):∀c f,aD l aj c=some f->R1 M.P X.prog X.w X.K X.mg X.base k c m f:=λc f hf=>by
 obtain⟨i,h1,rfl⟩:=eL.mp hf;exact C.gm.mts m l c i h h1
theorem BH{kk:Nat}(c:Const):PE X (.Constant c kk pos) (tE (M.P.kt X) (Bu c)):=by
 cases c with
 |int i=>exact ik zo λ_ _=>rfl
 |bool b=>exact ik G5 λ_ _=>rfl
 |none=>exact ik IE λ_ _=>rfl
 |str s=>
  show PE X _ (tE _ (if s.length<=1000000 then cF (.str s.cps.toList)else aK))
  split
  ·rename_i h
   obtain⟨⟨l⟩⟩:=s;exact ik pj λ_ _=>⟨rfl,by rw[<- cU l];exact h⟩
  ·exact aG
 |_=>exact aG
theorem ES(C:CxOk M aj k L X)(x:Str):PE X (.Name x pos) (tE (M.P.kt X) (Bv M L x)):=by
 unfold Bv;split
 ·rename_i i hi
  split
  ·rename_i q
   obtain⟨l1,l2,l3,l4⟩:=dw C q;exact Ah (by rw[C.N];exact eF hi) l2 l3 l4
  ·exact aG
 ·split
  ·rename_i t ht
   split
   ·rename_i q
    obtain⟨g1,g2⟩:=gx C q;exact P8 (C.gm.cst _ _ ht) rfl g1 g2
   ·exact aG
  ·exact aG
theorem QY(C:CxOk M aj k L X)(hE:sy M X r L){i:Expr}(h:ig i):PE X (.Subscript o i pos) (tE (M.P.kt X) (R8 M r L o i)):=by
 unfold R8;split
 ·rename_i f hf
  obtain⟨j,hj,hr⟩:=C.room;exact Qg M.ib hr (fD C hE hf).1 (hE _) h
 split
 ·obtain⟨j,hj,hr⟩:=C.room
  exact Qt rfl hr (hE _) (hE _) h
 split
 ·rename_i y kk hk
  obtain⟨y',h1,h2⟩:=ba.mp hk;obtain⟨k',h2,h3⟩:=eL.mp h2;cases h3;obtain⟨py,rfl⟩:=a_ h1;split
  ·rename_i q
   rw[bL]at q;obtain⟨l1,l2,l3,l4⟩:=dw C q.2;exact KA (by rw[C.N];exact eF h2) l2 l3 l4 (hE _) h
  ·exact JZ rfl (hE _) (hE _) h
 ·exact JZ rfl (hE _) (hE _) h
theorem LU{q}(h:EH e=some q):∃p,e=.FormattedValue q.1 q.2.1 q.2.2 p:=by
 cases e<;>first|(cases h;done)|(cases h;exact⟨_,rfl⟩)
theorem QZ(hE:sy M X r L)(es:Bz):PE X (.JoinedStr es pos) (tE (M.P.kt X) (W8 r L es)):=by
 match es with
 |[]=>exact aG
 |[_]=>exact aG
 |[_,_]=>exact aG
 |_::_::_::_::_=>exact aG
 |[e,q,f]=>
  show PE X _ (tE (M.P.kt X) (match ia e,EH q,ia f with|some x,some (a,cv,none),some y=>_|_,_,_=>aK))
  cases h1:ia e with
  |none=>exact aG
  |some x=>
  cases h2:EH q with
  |none=>exact aG
  |some w=>
  obtain⟨a,cv,o⟩:=w;cases o with
  |some _=>exact aG
  |none=>
  cases h3:ia f with
  |none=>exact aG
  |some y=>
  obtain⟨k1,p1,rfl⟩:=str_inv h1;obtain⟨p2,rfl⟩:=LU h2;obtain⟨k3,p3,rfl⟩:=str_inv h3;show PE X _ (tE (M.P.kt X) (if _ then _ else aK))
  split
  ·rename_i h
   obtain⟨rfl,h1,h2⟩:=h;exact Kz rfl (hE _) h1 h2
  ·exact aG
theorem LV(C:CxOk M aj k L X)(hE:sy M X r L)(o:Expr)(m:Str)(ap:Pos)(args:Bz)(cp:Pos):PE X (.Call (.Attribute o m ap) args [] cp) (tE (M.P.kt X) (LB M aj r L o m ap args cp)):=by
 obtain⟨j,hj,hr⟩:=C.room;unfold LB;split
 case isFalse=>exact aG
 rename_i h;simp only[bL,decide_eq_true_eq]at h;obtain⟨⟨⟨h1,h2⟩,h3⟩,h4⟩:=h;have hA:=gf hE args h2;split
 ·rename_i f hf
  obtain⟨rfl,b,d,fb,rfl,h5,rfl⟩:=EO hf;obtain⟨b1,b2,_⟩:=fD C hE h5;exact Qh M.ib hr b1 (hE b) (hE d) (QX b2 h2 h4)
 split
 ·rename_i f hf
  obtain⟨rfl,k1,p1,fb,rfl,h5,rfl⟩:=ER hf;obtain⟨b1,b2,_⟩:=fD C hE h5;exact Lk M.ib b1 b2 h4
 split
 ·rename_i l hl
  cases args with
  |nil=>exact D4 (vW C hl) hr (by omega) (hE o) (rj h1 h2 (by omega) h4)
  |cons a args=>exact Ka (vW C hl) hr (by omega) (hE o) hA h2 (rj h1 h2 (by omega) h4)
 ·split
  ·rename_i g a QW hg _ _
   exact Pk (J7 (m,g) (bU hg)) rfl (hE o) hA h1 h2 (by rw[cT]at h3;omega) h4
  ·exact aG
theorem LW(ks:List (Option Expr))(vs:Bz):PE X (.Dict ks vs pos) (tE (M.P.kt X) (Lx ks vs)):=by
 unfold Lx;split
 ·exact Qu
 ·split
  ·rename_i l hl
   split
   ·rename_i q
    exact K5 hl (λz=>by rw[z]at q;cases q.2.2) q.1 q.2.1
   ·exact aG
  ·exact aG
theorem LX(C:CxOk M aj k L X)(hE:sy M X r L)(f:Expr)(args:Bz)(ks:List Keyword):PE X (.Call f args ks pos) (tE (M.P.kt X) (LC M r L f args ks)):=by
 unfold LC;split
 ·rename_i y a w hy
  split
  ·rename_i i hc
   split
   ·rename_i q
    obtain⟨q1,q2,q3,q4⟩:=q;obtain⟨p,rfl⟩:=a_ hy;obtain⟨k1,p1,e⟩:=fQ hc;obtain⟨g1,g2,_⟩:=c5 C q2;obtain⟨an,v,kp⟩:=w;cases(show an=some ("default" : Str)from q4);cases(show v=_ from e);subst q1;exact Ln g1 g2 C.calm (hE a) q3
   ·exact aG
  ·exact aG
 ·exact aG
theorem BJ(R:uh M aj k r)(C:CxOk M aj k L X)(e:Expr):PE X e (tE (M.P.kt X) (HZ M aj r L e)):=by
 obtain⟨hE,hT,hI,hO⟩:=R L X C;cases e with
 |Constant c _ _=>exact BH c
 |Name x _=>exact ES C x
 |BinOp a op b _=>exact O7 rfl _ (hE _) (hE _)
 |UnaryOp op a _=>cases op with
  |USub=>exact O8 rfl (hE _)
  |Not=>exact JR (hE _)
  |_=>exact aG
 |BoolOp op es _=>cases op with
  |And=>exact rQ hE _
  |Or=>exact vR hE _
 |Compare a ops bs _=>
  match ops,bs with
  |[op],[b]=>
   show PE X _ (tE (M.P.kt X) (if behindInMarks op b then aK else rL M r L a op b))
   split
   ·exact aG
   ·rename_i h
    exact EK C hE (by simpa using h)
  |[],_=>exact aG
  |_::_::_,_=>exact aG
  |[_],[]=>exact aG
  |[_],_::_::_=>exact aG
 |IfExp c a b _=>exact OZ (hT _) (hE _) (hE _)
 |Tuple es _ _=>
  show PE X _ (tE (M.P.kt X) (if es.all noStar then _ else aK))
  split
  ·rename_i h;exact OT (gf hE _ h)
  ·exact aG
 |List es _=>
  show PE X _ (tE (M.P.kt X) (if es.all noStar then _ else aK))
  split
  ·rename_i h;exact OU (gf hE _ h)
  ·exact aG
 |Subscript o i _=>
  show PE X _ (tE (M.P.kt X) (Ly M r L o i));cases hs:isSlice i with
  |false=>
   rw[show Ly M r L o i=R8 M r L o i by cases i<;>first|rfl|cases hs]
   exact QY C hE (EN hs)
  |true=>
   cases i<;>first|(cases hs;done)|skip
   rename_i lo hi st _;cases st with
   |none=>
    show PE X _ (tE (M.P.kt X) (match iA M r L o with|some f=>_|none=>_))
    cases hb:iA M r L o with
    |none=>exact Uk rfl (hE _) (qi hE _) (qi hE _)
    |some f=>exact QE M.ib (fD C hE hb).1 (qi hE _) (qi hE _)
   |some _=>exact aG
 |Attribute o f _=>
  show PE X _ (tE (M.P.kt X) (if aP o then _ else aK))
  split
  ·rename_i h
   split
   ·rename_i j hj
    split
    ·exact KW C.gm.pg M.ib (eF hj) (hE _) h
    ·exact Hy C.gm.pg (eF hj) (hE _) h
   ·exact aG
  ·exact aG
 |JoinedStr vs _=>exact QZ hE vs
 |Dict ks vs _=>exact LW ks vs
 |ListComp elt gs sc p=>exact tM (jC R C _)
 |Call f args ks cp=>
  cases ks with
  |cons w ws=>exact LX C hE f args (w::ws)
  |nil=>cases f with
   |Name f _=>exact BE C hE _ _
   |Attribute o m ap=>exact LV C hE o m ap args cp
   |_=>exact aG
 |_=>exact aG
theorem BK(R:uh M aj k r)(C:CxOk M aj k L X)(e:Expr):PT X e (tT (M.P.kt X) (stepT M r L e)):=by
 obtain⟨hE,hT,hI,hO⟩:=R L X C;cases e with
 |BoolOp op es _=>cases op with
  |And=>exact(rR hT _).pt
  |Or=>exact(vS hT _).pt
 |UnaryOp op a _=>cases op with
  |Not=>exact OX (hT _)
  |_=>exact Hs (hE _) rfl λgj=>rfl
 |Compare a ops bs _=>
  match ops,bs with
  |[op],[b]=>
   show PT X _ (tT (M.P.kt X) (if behindInMarks op b then nu else dF (rL M r L a op b)))
   split
   ·exact iS
   ·rename_i h
    exact BC C hE (by simpa using h)
  |[],_=>exact iS
  |_::_::_,_=>exact iS
  |[_],[]=>exact iS
  |[_],_::_::_=>exact iS
 |IfExp _ _ _ _=>exact iS
 |_=>exact Hs (hE _) rfl λgj=>rfl
theorem ET{e:Expr}{args:Bz}(h:vM e=some args):∃p pos,e=.Call (.Name "range" p) args [] pos:=by
 obtain⟨⟨f,as,ks⟩,h1,hh⟩:=ba.mp h;clear h;obtain⟨p,pos,rfl⟩:=b9 h1;have h:=hh;clear hh;split at h
 ·rename_i q
  obtain⟨rfl,q⟩:=q;cases h;rw[show ks=[]from yT.mp q];exact⟨_,_,rfl⟩
 ·cases h
theorem BL{e a:Expr}{n:Int}(h:rM e=some (a,n)):∃p pos,(n=0/\e=.Call (.Name "enumerate" p) [a] [] pos)\/(n=1/\∃k1 p1 kp,e=.Call (.Name "enumerate" p) [a] [⟨some (Str.ofString "start"),.Constant (.int 1) k1 p1,kp⟩] pos):=by
 obtain⟨⟨f,as,ks⟩,h1,hh⟩:=ba.mp h;clear h;obtain⟨p,pos,rfl⟩:=b9 h1;have h:=hh;clear hh;split at h
 case isFalse=>cases h
 rename_i q
 replace q:f=("enumerate" : Str):=q
 subst q
 match as,ks,h with
 |[a'],[],h=>cases h;exact⟨_,_,.inl ⟨rfl,rfl⟩⟩
 |[a'],[⟨an,v,kp⟩],h=>
  dsimp only at h;cases hc:dU v with
  |none=>rw[hc]at h;cases h
  |some c=>
   rw[hc]at h;cases c<;>first|(cases h;done)|skip
   obtain⟨k1,p1,rfl⟩:=fQ hc;dsimp only at h;split at h
   ·rename_i q;obtain⟨rfl,rfl⟩:=q;cases h;exact⟨_,_,.inr ⟨rfl,_,_,_,rfl⟩⟩
   ·cases h
theorem EU(h:Bw e=some a):∃p pos,e=.Call (.Name "reversed" p) [a] [] pos/\noStar a=true:=by
 obtain⟨⟨f,as,ks⟩,h1,hh⟩:=ba.mp h;clear h;obtain⟨p,pos,rfl⟩:=b9 h1
 match as,ks,hh with
 |[a'],[],h=>
  dsimp only at h;split at h
  ·rename_i q
   obtain⟨rfl,q⟩:=q;cases h;exact⟨_,_,rfl,q⟩
  ·cases h
theorem EV(C:CxOk M aj k L X)(hE:sy M X r L)(f:Str)(args:Bz):PE X (.Call (.Name f p) args [] pos) (tO (M.P.kt X) (LF M r L f args)):=by
 unfold LF;split
 case isFalse=>exact cX
 rename_i hb;obtain⟨g1,g2,g3⟩:=c5 C hb;split
 ·rename_i a ha
  obtain⟨rfl,h2,h3,p1,f6,rfl⟩:=rT ha;obtain⟨k1,k2,k3⟩:=c5 C h2;exact HP C.calm g2 k2 g1 k1 (hE a) h3
 ·split
  ·split
   ·rename_i q
    obtain⟨rfl,q⟩:=q;exact Qp rfl g2 g1 (hE _) q
   ·exact cX
  ·exact cX
theorem BN(R:uh M aj k r)(C:CxOk M aj k L X)(tg e:Expr):PI X tg e (tI (M.P.kt X) (stepI M r L tg e)):=by
 obtain⟨hE,hT,hI,hO⟩:=R L X C;unfold stepI;split
 ·rename_i args ha
  obtain⟨p,pos,rfl⟩:=ET ha;split
  case isFalse=>exact rf
  rename_i h;rw[bL]at h;obtain⟨g1,g2,_⟩:=c5 C h.1;have hs:=h.2;split
  ·exact AU g1 g2 (hE _) (by simpa using hs)
  ·simp only[c_,bL]at hs
   exact AV g1 g2 (hE _) (hE _) hs.1 hs.2.1
  ·exact K1 g1 g2 (hE _) (hE _) (hE _) hs
  ·exact rf
 ·split
  ·rename_i a n ZH
   split
   case isFalse=>exact rf
   rename_i h;simp only[bL]at h;obtain⟨⟨h1,h2⟩,h3⟩:=h;obtain⟨g1,g2,_⟩:=c5 C h1;cases tg<;>first|(cases h2;done)|skip
   obtain⟨p,pos,h4|h4⟩:=BL ZH
   ·obtain⟨rfl,rfl⟩:=h4
    exact P1 rfl g1 g2 (hE a) h3
   ·obtain⟨rfl,k1,p1,kp,rfl⟩:=h4
    exact P4 rfl g1 g2 (hE a) h3
  split
  ·rename_i a ZI
   obtain⟨p,pos,rfl,h2⟩:=EU ZI;split
   ·rename_i h1
    obtain⟨g1,g2,_⟩:=c5 C h1;exact Qq g1 g2 (hE a) h2
   ·exact rf
  ·split
   ·rename_i h
    cases tg<;>first|(cases h;done)|skip
    exact PK rfl (hE e)
   ·exact HA rfl (hE e)
theorem BO(R:uh M aj k r)(C:CxOk M aj k L X)(e:Expr):PE X e (tO (M.P.kt X) (H0 M r L e)):=by
 obtain⟨hE,hT,hI,hO⟩:=R L X C;cases e with
 |List es _=>
  show PE X _ (tO (M.P.kt X) (if es.all noStar then _ else ee))
  split
  ·rename_i h;exact JO (gf hE _ h)
  ·exact cX
 |ListComp elt gs sc p=>exact jC R C _
 |IfExp c a b _=>exact Qn (hT _) (hO _) (hO _)
 |BinOp a op b _=>cases op<;>first|exact KZ (hE _) (hE _)|exact K0 (hE _) (hE _)|exact cX
 |Call f args ks _=>cases ks with
  |cons _ _=>exact cX
  |nil=>cases f<;>first|exact EV C hE _ _|exact cX
 |_=>exact cX
theorem bP:∀n,uh M aj k (comp M aj n)
 |0=>λL X C=>⟨λ_=>aG,λ_=>iS,λ_ _=>rf,λ_=>cX⟩
 |n+1=>λL X C=>⟨BJ (bP n) C,BK (bP n) C,BN (bP n) C,BO (bP n) C⟩
structure uq(M:Gm)(aj:Nat->Fn)(k:Nat)(L:Lc)(X:Cx):Prop extends CxOk M aj k L X where
 fn:∀x,X.fn x=true
 nd:X.N.Nodup
 xe:X.xe=λ_ _=>False
 stk:X.stack=X.env::X.outer
 frm:X.env.frame=some X.env.locals
theorem ic{t:Option Expr}{l:Nat}(h:qg e=false):swapsWith e t l X.env=pure false:=by
 cases e<;>first|rfl|(cases h)
theorem LY(C:CxOk M aj k L X){tp:Pos}{l:Nat}(h:qg e=true->∃elt gs sc p,e=.ListComp elt gs sc p):swapsWith e (some (.Name x tp)) l X.env=pure (Bx L x tp e):=by
 cases e<;>first|rfl|skip
 ·unfold swapsWith Bx Env.blockKind Env.kindOf
  rw[C.sc];rfl
 ·obtain⟨_,_,_,_,z⟩:=h rfl;cases z
 ·obtain⟨_,_,_,_,z⟩:=h rfl;cases z
theorem passes(C:uq M aj k L X):PassesOwn (model X.prog X.w) X.A X.env X.xe:=by rw[C.xe];exact PassesOwn.never
theorem vX(h:vO e=true):∃dp,e=.Dict [] [] dp:=by
 cases e<;>first|(cases h;done)|skip
 rename_i ks vs dp
 match ks,vs,h with
 |[],[],_=>exact⟨_,rfl⟩
theorem LZ(h:qg e=true):vO e=false:=by
 cases e<;>first|rfl|(cases h)
theorem EW(C:uq M aj k L X)(n:Nat)(e:Expr):PS X (.Assign [.Name x bM] e pos) (tS (M.P.kt X) (By M aj n L x e)):=by
 obtain⟨hE,hT,hI,hO⟩:=bP (M:=M) (aj:=aj) (k:=k) n L X C.toCxOk;unfold By;split
 case h_2=>exact bT
 rename_i i hi;split
 case isFalse=>exact bT
 rename_i q;obtain⟨l1,l2,l3,l4⟩:=dw C.toCxOk q;have hN:X.N[i]?=some x:=by rw[C.N];exact eF hi
 have hf:X.fn x=true\/X.env.scope.names.lookup x=some .local:=.inl (C.fn x);by_cases hlc:qg e=false
 ·split
  ·split
   ·rename_i hd
    obtain⟨dp,rfl⟩:=vX hd;exact KL C.nd hN l1 hf
   ·split
    ·exact QK C.nd hN l1 M.ib (hE e) (ic hlc) hf
    ·exact HD C.nd hN l1 (hO e) (ic hlc) hf
  ·exact AW C.nd hN l1 (hE e) (ic hlc) hf
 ·rw[LZ (by simpa using hlc),if_neg fF,show qg e=true by simpa using hlc,Gu,Gn,if_neg fF]
  cases n with
  |zero=>
   split
   ·exact λ_ _ _ _ _ _ ⟨_,_,_,_,_,h,_⟩=>by cases h
   ·exact λ_ _ _ _ _ _ ⟨_,_,_,_,_,h,_⟩=>by cases h
  |succ n=>
   cases e with
   |ListComp elt gs sc cp=>
    have R:=bP (M:=M) (aj:=aj) (k:=k) n;have main:PS X (.Assign [.Name x bM] (.ListComp elt gs sc cp) pos) (tS (M.P.kt X) (pS i (oJ (comp M aj n) L (.ListComp elt gs sc cp))))/\PS X (.Assign [.Name x bM] (.ListComp elt gs sc cp) pos) (tS (M.P.kt X) (aZ i (jj (oJ (comp M aj n) L (.ListComp elt gs sc cp))))):=by
     have sw:=LY (X:=X) (x:=x) (tp:=bM) (l:=pos.line) (e:=.ListComp elt gs sc cp) C.toCxOk (λ_=>⟨_,_,_,_,rfl⟩);cases hb:Bx L x bM (.ListComp elt gs sc cp)with
     |false=>
      rw[hb]at sw;exact⟨HD C.nd hN l1 (jC R C.toCxOk _) sw hf,AW C.nd hN l1 (tM (jC R C.toCxOk _)) sw hf⟩
     |true=>
      rw[hb]at sw;have bad:PS X (.Assign [.Name x bM] (.ListComp elt gs sc cp) pos) (tS (M.P.kt X) (pS i ee))/\PS X (.Assign [.Name x bM] (.ListComp elt gs sc cp) pos) (tS (M.P.kt X) (aZ i (jj ee))):=
       ⟨λ_ _ _ _ _ _ ⟨_,_,_,_,_,h,_⟩=>(by cases h),λ_ _ _ _ _ _ ⟨_,_,_,_,_,h,_⟩=>(by cases h)⟩
      match gs with
      |[]=>exact bad
      |_::_::_=>exact bad
      |[⟨tg,iter,ifs,ay⟩]=>
       rw[show oJ (comp M aj n) L (.ListComp elt [⟨tg,iter,ifs,ay⟩] sc cp)=ml (comp M aj n) L elt ⟨tg,iter,ifs,ay⟩ sc from rfl];unfold ml;split
       case isFalse=>exact bad
       rename_i h;obtain⟨rfl,h⟩:=h;split
       ·rename_i js g is hj ht
        have K:=vV R C.toCxOk (elt:=elt) h hj ht;obtain⟨gt,h1,h2⟩:=K.ex;exact Kq (locals sc) C.calm C.nd hN l1 K.sco K.fr K.it h1 h2 K.ts K.el K.lt K.st hf sw
       ·exact bad
    split
    ·exact main.1
    ·exact main.2
   |SetComp a b c d=>
    split
    ·exact λ_ _ _ _ _ _ ⟨_,_,_,_,_,h,_⟩=>by cases h
    ·exact λ_ _ _ _ _ _ ⟨_,_,_,_,_,h,_⟩=>by cases h
   |DictComp a b c d f=>
    split
    ·exact λ_ _ _ _ _ _ ⟨_,_,_,_,_,h,_⟩=>by cases h
    ·exact λ_ _ _ _ _ _ ⟨_,_,_,_,_,h,_⟩=>by cases h
   |_=>exact absurd rfl hlc
theorem EY{mu:Bi}{e a:Expr}{y:Str}(h:vN mu e=some (y,a)):noStar a=true/\∃py ap cp,e=.Call (.Attribute (.Name y py) "append" ap) [a] [] cp/\(ap.endLine == cp.line)=true:=by
 obtain⟨⟨f,as,ks,cp⟩,h1,h⟩:=ba.mp h;obtain⟨w,h2,h⟩:=ba.mp h;obtain⟨y',h3,h⟩:=ba.mp h
 match as,ks,h1,h with
 |[a'],[],h1,h=>
  dsimp only at h;split at h
  ·rename_i q
   obtain⟨q1,_,q3,q4⟩:=q;cases h;obtain⟨py,h3⟩:=a_ h3;rw[fP h1,gc h2,h3,q1];exact⟨q3,_,_,_,rfl,q4⟩
  ·cases h
theorem jD{es:Bz}{x1:Nat}{tp:Pos}(h:H_ e=true):swappedStores [.Tuple es x1 tp] e X.env=pure none:=by
 cases e<;>first|rfl|skip
 rename_i vs _ _;unfold swappedStores;dsimp only;rw[show vs.all (foldedForSure 8)=true from h];split
 ·rfl
 split
 ·rfl
 split
 ·rfl
 rfl
theorem Vh(C:uq M aj k L X):∀x i,eS L x=true->iX L.N x=some i->X.N[i]?=some x/\Loc X.env.scope x/\(X.fn x=true\/X.env.scope.names.lookup x=some .local):=λx i h1 h2=>⟨by rw[C.N];exact eF h2,(dw C.toCxOk h1).1,.inl (C.fn x)⟩
theorem EZ(C:uq M aj k L X)(n:Nat)(es:Bz){x1:Nat}{tp:Pos}(e:Expr):PS X (.Assign [.Tuple es x1 tp] e pos) (tS (M.P.kt X) (tupS M aj n L es e)):=by
 obtain⟨hE,hT,hI,hO⟩:=bP (M:=M) (aj:=aj) (k:=k) n L X C.toCxOk;unfold tupS;split
 ·exact bT
 ·rename_i h
  simp only[CH,not_or,Bool.not_eq_true,Bool.not_eq_eq_eq_not,Gu,Bool.not_false]at h;obtain⟨⟨h1,h2⟩,h3⟩:=h;split
  ·rename_i g ht
   obtain⟨xs,h4,h5⟩:=ba.mp ht;split at h5
   case isFalse=>cases h5
   rename_i q;rw[bL]at q;obtain⟨is,h6,rfl⟩:=eL.mp h5;obtain⟨r1,r2,r3⟩:=qh C.nd (Vh C) h4 q.1 h6;exact HE (hE e) (K6 C.calm r1 r2 r3) (K7 (B:=M.P.kt X) _ rfl) (show swapsWith e (some (.Tuple es x1 tp)) pos.line X.env=pure false from ic h1) (jD (by simpa using h2)) rfl
  split
  ·rename_i g is ht
   obtain⟨gt,q1,q2⟩:=Ib (B:=M.P.kt X) (tg:=.Tuple es x1 tp) rfl C.calm C.nd (Vh C) ht;exact HE (hE e) q1 q2 (show swapsWith e (some (.Tuple es x1 tp)) pos.line X.env=pure false from ic h1) (jD (by simpa using h2)) rfl
  ·exact bT
theorem L7(C:uq M aj k L X)(n:Nat)(f:Str)(e:Expr):PE X e (tE (M.P.kt X) (LG M aj n L f e)):=by
 obtain⟨hE,hT,hI,hO⟩:=bP (M:=M) (aj:=aj) (k:=k) n L X C.toCxOk;unfold LG;split
 ·split
  ·rename_i hd
   obtain⟨dp,rfl⟩:=vX hd;exact KP M.ib M.Lr
  ·exact A6 M.ib M.Lr (hO e)
 ·exact hE e
theorem BP{f:Str}{fp:Pos}{l:Nat}:swapsWith e (some (.Attribute o f fp)) l X.env=pure false:=by
 cases e<;>rfl
theorem E1(C:uq M aj k L X)(n:Nat)(o:Expr)(f:Str){fp:Pos}(e:Expr):PS X (.Assign [.Attribute o f fp] e pos) (tS (M.P.kt X) (LH M aj n L o f e)):=by
 obtain⟨hE,hT,hI,hO⟩:=bP (M:=M) (aj:=aj) (k:=k) n L X C.toCxOk;unfold LH;split
 ·rename_i j hj
  exact PX C.gm.pg (eF hj) (hE o) (L7 C n f e) BP
 ·exact bT
theorem E2(C:uq M aj k L X)(n:Nat)(o b:Expr){sp:Pos}(e:Expr):PS X (.Assign [.Subscript o b sp] e pos) (tS (M.P.kt X) (LJ M aj n L o b e)):=by
 obtain⟨hE,hT,hI,hO⟩:=bP (M:=M) (aj:=aj) (k:=k) n L X C.toCxOk;obtain⟨j,hj,hr⟩:=C.room;unfold LJ;split
 ·exact bT
 rename_i h;split
 ·rename_i f hf
  exact Qf M.ib hr (hE e) (fD C.toCxOk hE hf).1 (hE b) (ic (by simpa using h))
 split
 ·rename_i i hi
  obtain⟨y,h1,h2⟩:=ba.mp hi;obtain⟨py,rfl⟩:=a_ h1;split at h2
  ·rename_i q
   obtain⟨l1,l2,l3,l4⟩:=dw C.toCxOk q;split
   ·exact bT
   ·rename_i hs
    exact UI hr (hE b) (hE e) (by rw[C.N];exact eF h2) l2 l3 l4 (ic (by simpa using h)) (by simpa using hs)
  ·cases h2
 ·exact bT
theorem E3(C:uq M aj k L X)(n:Nat)(t:Expr)(op:Operator)(e:Expr):PS X (.AugAssign t op e pos) (tS (M.P.kt X) (LK M aj n L t op e)):=by
 obtain⟨hE,hT,hI,hO⟩:=bP (M:=M) (aj:=aj) (k:=k) n L X C.toCxOk;unfold LK;split
 ·rename_i o j hk
  obtain⟨q,h1,h2⟩:=ba.mp hk;obtain⟨j',h2,h3⟩:=eL.mp h2;cases h3;rw[gc h1];split
  ·rename_i e;subst e
   exact Qi C.gm.pg (eF h2) (hE _) (hE _)
  ·exact bT
 split
 case h_2=>exact bT
 rename_i x i hk;obtain⟨x',h1,h2⟩:=ba.mp hk;obtain⟨i',h2,h3⟩:=eL.mp h2;cases h3;obtain⟨py,rfl⟩:=a_ h1;split
 ·rename_i q
  obtain⟨rfl,q⟩:=q;obtain⟨l1,l2,l3,l4⟩:=dw C.toCxOk q;exact P7 C.nd (by rw[C.N];exact eF h2) l1 (hE _) (.inl (C.fn _))
 ·exact bT
theorem E4{f:FE}(h:QQ M r L e=some (f,a)):∃o ap cp,e=.Call (.Attribute o "append" ap) [a] [] cp/\iA M r L o=some f/\noStar a=true/\(ap.endLine == cp.line)=true:=by
 obtain⟨⟨g,as,ks,cp⟩,h1,h⟩:=ba.mp h;obtain⟨w,h2,h⟩:=ba.mp h;obtain⟨f',h3,h⟩:=ba.mp h
 match as,ks,h1,h with
 |[a'],[],h1,h=>
  dsimp only at h;split at h
  ·rename_i q
   obtain⟨q1,q3,q4⟩:=q;cases h;rw[fP h1,gc h2,q1];exact⟨_,_,_,rfl,h3,q3,q4⟩
  ·cases h
theorem L8(C:uq M aj k L X)(n:Nat)(e:Expr):PS X (.Expr e pos) (tS (M.P.kt X) (Vb M aj n L e)):=by
 obtain⟨hE,hT,hI,hO⟩:=bP (M:=M) (aj:=aj) (k:=k) n L X C.toCxOk;unfold Vb;split
 ·rename_i f a ha
  obtain⟨o,ap,cp,rfl,ho,h1,h2⟩:=E4 ha;obtain⟨b1,b2,_⟩:=fD C.toCxOk hE ho;exact KQ M.ib b1 b2 (hE a) h1 h2
 split
 ·rename_i y a ha
  obtain⟨h1,py,ap,cp,rfl,h2⟩:=EY ha;split
  ·rename_i i hi
   split
   ·rename_i q
    obtain⟨l1,l2,l3,l4⟩:=dw C.toCxOk q;exact PU (hE a) (by rw[C.N];exact eF hi) l2 l3 l4 h1 h2
   ·exact bT
  ·exact bT
 ·split
  ·exact bT
  ·rename_i h
   exact Ks (hE e) (ic (by simpa using h))
theorem val_inv{f:FE}(h:QR M r L e=some f):∃o ap cp,e=.Call (.Attribute o "values" ap) [] [] cp/\iA M r L o=some f/\(ap.endLine == cp.line)=true:=by
 obtain⟨⟨g,as,ks,cp⟩,h1,h⟩:=ba.mp h;obtain⟨w,h2,h⟩:=ba.mp h;obtain⟨f',h3,h⟩:=ba.mp h
 match as,ks,h1,h with
 |[],[],h1,h=>
  dsimp only at h;split at h
  ·rename_i q
   obtain⟨q1,q4⟩:=q;cases h;rw[fP h1,gc h2,q1];exact⟨_,_,_,rfl,h3,q4⟩
  ·cases h
theorem BQ{st:Stmt}(h:LO st=some e):∃p,st=.Expr e p:=by
 cases st<;>first|(cases h;done)|(cases h;exact⟨_,rfl⟩)
theorem kX{st:Stmt}{q}(h:rN st=some q):∃p p',st=.Assign [.Name q.1 p] q.2 p':=by
 cases st<;>first|(cases h;done)|skip
 rename_i ts e p
 match ts,h with
 |[t],h=>
  obtain⟨x,h1,rfl⟩:=eL.mp (show(asName t).map _=some q from h);obtain⟨p,rfl⟩:=a_ h1;exact⟨_,_,rfl⟩
theorem lst_inv(h:vP e=some es):∃p,e=.List es p:=by
 cases e<;>first|(cases h;done)|(cases h;exact⟨_,rfl⟩)
theorem vY{q}(h:BA e=some q):∃p,e=.BinOp q.1 .Add q.2 p:=by
 cases e<;>first|(cases h;done)|skip
 replace h:(if _ then some _ else none)=some q:=h
 split at h
 ·rename_i z;cases h;subst z;exact⟨_,rfl⟩
 ·cases h
theorem jE{Cx:Addr}{nm:Str}{i:Nat}{a:Addr}{oe:Obj}(C:CxOk M aj k L X)(F:xQ M X.K X.mg Cx)(hc:oe.cls=.ref Cx)(hN:X.N[i]?=some nm)(hl:eS L nm=true)(hb:blt M L ("isinstance" : Str)=true):∀{es:Bz}{bs:Ee},rO M L nm es=some bs->PA (i8 X a oe) es (Le i a bs)
 |[],_,h=>by cases h;exact Lg
 |e::es,_,h=>by
  obtain⟨⟨f,as,ks⟩,h1,h2⟩:=ba.mp (show(fB e).bind _=some _ from h);clear h;obtain⟨p,pos,rfl⟩:=b9 h1
  match as,ks,h2 with
  |[u,v],[],h2=>
   obtain⟨n,h3,W_⟩:=ba.mp h2;obtain⟨y,h4,R9⟩:=ba.mp W_;clear h2 W_;split at R9
   case isFalse=>cases R9
   rename_i q;obtain⟨t,h5,Xa⟩:=ba.mp R9;obtain⟨bs,h6,z⟩:=eL.mp Xa;clear R9 Xa;subst z;obtain⟨q1,q2,q3⟩:=q;obtain⟨pn,z⟩:=a_ h3;subst z;obtain⟨py,z⟩:=a_ h4;subst z;subst q2;have q1:f=("isinstance" : Str):=q1;subst q1;obtain⟨l1,l2,l3,l4⟩:=dw C hl;obtain⟨g1,g2,_⟩:=c5 C hb;obtain⟨g3,_⟩:=gx C q3;exact Ez (Li F.ec hc (F.xi y t h5) g2 hN l2 l3 l4 g1 g3) (jE C F hc hN hl hb h6) (ai rfl)
theorem L_{Cx:Addr}{nm x:Str}{i j:Nat}{bs:Ee}{su:DD}(C:uq M aj k L X)(F:xQ M X.K X.mg Cx)(hN:X.N[i]?=some nm)(hl:eS L nm=true)(hb:blt M L ("isinstance" : Str)=true)(hj:X.N[j]?=some x)(hx:eS L x=true)(h:W9 M L nm su=some (x,bs)) :
  ∃st r,su=st::r/\∀a oe,oe.cls=.ref Cx->fm (i8 X a oe) (st::r) (US i j a bs):=by
 match su,h with
 |[s1,s2,s3],h=>
  obtain⟨q1,h1,h⟩:=ba.mp h;obtain⟨q2,h2,h⟩:=ba.mp h;obtain⟨q3,h3,h⟩:=ba.mp h;obtain⟨w2,h4,h⟩:=ba.mp h;obtain⟨w3,h5,h⟩:=ba.mp h;obtain⟨n2,h6,h⟩:=ba.mp h;obtain⟨n3,h7,h⟩:=ba.mp h;split at h
  case isFalse=>cases h
  rename_i q;obtain⟨e1,e2,e3,e4⟩:=q;obtain⟨l1,f1,h⟩:=ba.mp h;obtain⟨l2,f2,h⟩:=ba.mp h;obtain⟨l3,f3,h⟩:=ba.mp h;obtain⟨b1,g1,h⟩:=ba.mp h;obtain⟨b2,g2,h⟩:=ba.mp h;obtain⟨b3,g3,h⟩:=ba.mp h;split at h
  case isFalse=>cases h
  rename_i hz;injection h with h
  injection h with z1 z2
  obtain⟨p1,r1,c1⟩:=kX h1;obtain⟨p2,r2,Ui⟩:=kX h2;obtain⟨p3,r3,ZJ⟩:=kX h3;obtain⟨a2,c2⟩:=vY h4;obtain⟨a3,c3⟩:=vY h5;obtain⟨m2,d2⟩:=a_ h6;obtain⟨m3,d3⟩:=a_ h7;obtain⟨k1,i1⟩:=lst_inv f1;obtain⟨k2,i2⟩:=lst_inv f2;obtain⟨k3,i3⟩:=lst_inv f3;refine⟨_,_,rfl,λa oe hc=>?_⟩;rw[<- z2,c1,Ui,ZJ,e1,e2,c2,c3,d2,d3,e3,e4,i1,i2,i3,z1];obtain⟨y1,y2,y3,y4⟩:=dw C.toCxOk hx;exact Lh C.nd hj y1 (jE C.toCxOk F hc hN hl hb g1) (jE C.toCxOk F hc hN hl hb g2) (jE C.toCxOk F hc hN hl hb g3) hz y2 y3 y4 rfl rfl rfl (.inl (C.fn _))
theorem ur{z:Nat×Nat×Expr×Bz}(h:Vc M e=some z):∃m ap cp,e=.Call (.Attribute z.2.2.1 m ap) z.2.2.2 [] cp/\M.xt.lookup m=some (z.1,z.2.1)/\aP z.2.2.1=true/\z.2.2.2.all noStar=true/\z.2.2.2.length<29/\(ap.endLine == cp.line)=true:=by
 obtain⟨⟨g,as,ks,cp⟩,h1,h⟩:=ba.mp h;obtain⟨w,h2,h⟩:=ba.mp h;obtain⟨ci,h3,h⟩:=ba.mp h;dsimp only at h;split at h
 ·rename_i q
  obtain⟨q1,q2,q3,q4,q5⟩:=q;cases h;have q1:ks=[]:=yT.mp q1;subst q1;exact⟨w.2.1,w.2.2,cp,by rw[fP h1,gc h2],h3,q2,q3,q4,q5⟩
 ·cases h
theorem BR{K:aS}{mg:Str->D1}{A B:Addr}(F:xQ M K mg A)(G:xQ M K mg B):A=B:=by
 have:=F.at_.symm.trans G.at_
 injection this with this
 injection this
theorem Ma{st:Stmt}{q}(h:QT st=some q):∃p,st=.If q.1 [q.2.1] [q.2.2] p:=by
 cases st<;>first|(cases h;done)|skip
 rename_i c a b p
 match a,b,h with
 |[s],[t],h=>cases h;exact⟨_,rfl⟩
theorem qj{Cx:Addr}(C:uq M aj k L X)(FC:xQ M X.K X.mg Cx)(n:Nat):∀(d:Nat)(st:Stmt){F:FS},uf M aj n L d st=some F->qe M.P X Cx st F
 |0,_,_,h=>by cases h
 |d+1,st,F,h=>by
  obtain⟨hE,hT,hI,hO⟩:=bP (M:=M) (aj:=aj) (k:=k) n L X C.toCxOk;obtain⟨jr,hj,hr⟩:=C.room;rw[uf]at h;split at h
  ·rename_i c i o args hx
   cases h;obtain⟨e,h1,h2⟩:=ba.mp hx;obtain⟨ep,rfl⟩:=BQ h1;obtain⟨m,ap,cp,rfl,h3,h4,h5,h6,h7⟩:=ur h2;obtain⟨C2,Vi,D⟩:=C.gm.xt m c i h3;cases BR FC Vi;dsimp only at h4 h5 h6 ⊢;have hA:=gf hE args h5;cases args with
   |nil=>exact EE C.xe D hr (by omega) (hE o) (rj h4 rfl (by decide) h7)
   |cons a args=>exact Lp C.xe D hr (by omega) (hE o) hA h5 (rj h4 h5 (by omega) h7)
  ·obtain⟨q,h1,h⟩:=ba.mp h
   obtain⟨F1,h2,h⟩:=ba.mp h;obtain⟨F2,h3,rfl⟩:=eL.mp h;obtain⟨p,rfl⟩:=Ma h1;exact EF C.xe (hT _) (qj C FC n d _ h2) (qj C FC n d _ h3)
theorem Q0{d n:Nat}:∀{st:Stmt}{F:FS},uf M aj n L d st=some F->∃m ci,M.xt.lookup m=some ci:=by
 induction d with
 |zero=>intro st F h;cases h
 |succ d ih=>
  intro st F h;rw[uf]at h;split at h
  ·rename_i c i o args hx
   obtain⟨e,h1,h2⟩:=ba.mp hx;obtain⟨m,ap,cp,rfl,h3,_⟩:=ur h2;exact⟨m,_,h3⟩
  ·obtain⟨q,h1,h⟩:=ba.mp h
   obtain⟨F1,h2,h⟩:=ba.mp h;exact ih h2
theorem E5(C:uq M aj k L X)(n:Nat){body:DD}{hs:List ExceptHandler}{F:FS}(h:EJ M aj n L body hs=some F):PS X (.Try body hs [] [] pos) (tS (M.P.kt X) F):=by
 match body,hs,h with
 |[s],[.ExceptHandler ty nm su hp],h=>
  obtain⟨F1,h1,h⟩:=ba.mp h;obtain⟨y,h4,h⟩:=ba.mp h;obtain⟨ty',NT,h4⟩:=ba.mp h4;split at h
  case isFalse=>cases h
  rename_i q;obtain⟨q2,q3⟩:=q;obtain⟨A,h5,z⟩:=eL.mp h;subst z;obtain⟨yp,z⟩:=a_ h4;subst z;subst NT;obtain⟨m0,ci,hx⟩:=Q0 h1;obtain⟨Cx,FC,_⟩:=C.gm.xt m0 ci.1 ci.2 hx;have T:=qj C FC n 3 s h1;obtain⟨g3,g4⟩:=gx C.toCxOk q2;obtain⟨_,CB,m1,m2⟩:=FC.xm y q3
  match nm,su,h5 with
  |none,[s],h5=>
   obtain⟨⟨x,v⟩,z1,h6⟩:=ba.mp h5;clear h5;obtain⟨p1,r1,rfl⟩:=kX z1;have h5:=h6;clear h6;dsimp only at h5;cases hc:dU v with
   |none=>rw[hc]at h5;cases h5
   |some c=>
    rw[hc]at h5;cases c<;>first|(cases h5;done)|skip
    obtain⟨k1,p2,rfl⟩:=fQ hc;obtain⟨j,z2,h5⟩:=ba.mp h5;split at h5
    case isFalse=>cases h5
    rename_i ql;cases h5;obtain⟨l1,l2,l3,l4⟩:=dw C.toCxOk ql;have hN:X.N[j]?=some x:=by rw[C.N];exact eF z2
    exact EG C.xe T m1 m2 g3 g4 (λa oe=>HC (AW (X:=i8 X a oe) C.nd hN l1 (ik G5 λ_ _=>rfl) rfl (.inl (C.fn x)))) C.stk C.frm
  |some nm,su,h5=>
   obtain⟨⟨x,bs⟩,z1,h5⟩:=ba.mp h5;obtain⟨i',z2,h5⟩:=ba.mp h5;obtain⟨j,z3,h5⟩:=ba.mp h5;split at h5
   case isFalse=>cases h5
   rename_i z4;obtain⟨z4,z5,z6,z7,z8⟩:=z4;cases h5;have hi:X.N[i']?=some nm:=by rw[C.N];exact eF z2
   have Xb:X.N[j]?=some x:=by rw[C.N];exact eF z3
   obtain⟨st,r,rfl,QN⟩:=L_ C FC hi z5 z8 Xb z4 z1;exact Bm C.xe T m1 m2 g3 g4 C.nd hi (eT.mp Xb).1 z7 (by rw[C.sc];exact z6) QN C.stk C.frm
theorem BS(C:uq M aj k L X)(n:Nat){rS:Lc->DD->FS}(hS:∀Cv,fm X Cv (tS (M.P.kt X) (rS L Cv)))(st:Stmt):PS X st (tS (M.P.kt X) (Vd M aj n rS L st)):=by
 obtain⟨hE,hT,hI,hO⟩:=bP (M:=M) (aj:=aj) (k:=k) n L X C.toCxOk;cases st with
 |Assign ts e pos=>
  match ts with
  |[]=>exact bT
  |_::_::_=>exact bT
  |[t]=>cases t with
   |Name x _=>exact EW C n _
   |Tuple es _ _=>exact EZ C n es e
   |Attribute o f _=>exact E1 C n o f e
   |Subscript o b _=>exact E2 C n o b e
   |_=>exact bT
 |AugAssign t op e pos=>exact E3 C n t op e
 |Expr e pos=>exact L8 C n e
 |Return o pos=>cases o with
  |none=>exact Kr
  |some e=>
   show PS X _ (tS (M.P.kt X) (if L.mu.contains ("return" : Str)then _ else _))
   split
   ·exact HG (A6 M.ib M.Lr (hO _))
   ·exact HG (hE _)
 |If c a b pos=>exact Uv (hT _) (hS _) (hS _)
 |For tg it body oe pos=>cases oe with
  |cons _ _=>exact bT
  |nil=>
   show PS X _ (tS (M.P.kt X) (LL M aj n L (rS L body) tg it));unfold LL;split
   ·rename_i f hv
    obtain⟨o,ap,cp,rfl,h1,h2⟩:=val_inv hv;obtain⟨b1,b2,_⟩:=fD C.toCxOk hE h1;exact Lm (passes C) C.calm M.ib b1 b2 h2
   split
   ·exact bT
   ·rename_i h
    split
    ·rename_i g is ht
     obtain⟨gt,q1,q2⟩:=Ib (B:=M.P.kt X) rfl C.calm C.nd (Vh C) ht;exact PV C.calm (hI tg it) q1 q2 (hS body) (passes C) (vU (by simpa using h))
    ·exact bT
 |While c body oe pos=>cases oe with
  |cons _ _=>exact bT
  |nil=>exact D7 _ (hT _) (hS _) (passes C)
 |Try body hs oe fb pos=>
  match hs,oe,fb with
  |[],_,_=>exact bT
  |_::_,_::_,_=>exact bT
  |_::_,[],_::_=>exact bT
  |h0::hs,[],[]=>
   show PS X _ (tS (M.P.kt X) (match EJ M aj n L body (h0::hs)with|some F=>F|none=>rS L body))
   cases ht:EJ M aj n L body (h0::hs)with
   |some F=>exact E5 C n ht
   |none=>exact P9 C.xe (hS _)
 |Pass _=>exact Ko
 |Break _=>exact D6
 |Continue _=>exact Kp
 |_=>exact bT
theorem fS(n:Nat):∀(m:Nat)(L:Lc)(X:Cx),uq M aj k L X->∀Cv,fm X Cv (tS (M.P.kt X) (iY M aj n m L Cv))
 |0,_,_,_,_=>PR
 |m+1,L,X,C,[]=>HB
 |m+1,L,X,C,[st]=>HC (BS C n (fS n m L X C) st)
 |m+1,L,X,C,st::s2::rest=>Kn (BS C n (fS n m L X C) st) (fS n m L X C (s2::rest))
theorem Mb{st:Stmt}(h:LP st=some e):∃p,st=.Raise (some e) none p:=by
 cases st<;>first|(cases h;done)|skip
 rename_i o c p
 match o,c,h with
 |some e',none,h=>cases h;exact⟨_,rfl⟩
theorem xS{st:Stmt}(h:vQ M L st=some c):uc L M.xc=true/\∃np l kk lp cp rp p,st=.If c [.Raise (some (.Call (.Name M.xc np) [.Constant (.str l) kk lp] [] cp)) none rp] [] p:=by
 cases st<;>first|(cases h;done)|skip
 rename_i c' a b p
 match a,b,h with
 |[st],[],h=>
  obtain⟨e,h0,h⟩:=ba.mp (show(LP st).bind _=some c from h);obtain⟨⟨f,as,ks⟩,h1,h⟩:=ba.mp h;obtain⟨rp,rfl⟩:=Mb h0;obtain⟨np,cp,rfl⟩:=b9 h1
  match as,ks,h with
  |[t],[],h=>
   obtain⟨l,h2,h⟩:=ba.mp h;obtain⟨kk,lp,rfl⟩:=str_inv h2;split at h
   ·rename_i q
    obtain⟨q1,q2⟩:=q;cases h;have q1:f=M.xc:=q1;subst q1;exact⟨q2,_,_,_,_,_,_,_,rfl⟩
   ·cases h
theorem my{Cx:Addr}{E:XK}(n:Nat)(C:CxOk M aj k L X)(CS:uq M aj k L X.zq)(Z:HS X Cx E)(F:xQ M X.K X.mg Cx):∀Cv,fm X Cv (tX (M.P.kt X) (λH=>E (.ref Cx) none H) (rP M aj n L Cv))
 |[]=>QA HB
 |st::rest=>by
  obtain⟨hE,hT,hI,hO⟩:=bP (M:=M) (aj:=aj) (k:=k) n L X C;obtain⟨jr,hj,hr⟩:=C.room;have plain:fm X (st::rest) (tX (M.P.kt X) (λH=>E (.ref Cx) none H) (Eu (iY M aj n 200 L (st::rest)))):=QA (fm.zq (fS n 200 L X.zq CS (st::rest)));rw[rP];split
  ·rename_i c h
   obtain⟨q,np,l,kk,lp,cp,rp,p,rfl⟩:=xS h;obtain⟨g1,g2⟩:=gx C q;exact UR Z PySem.F.excBase_ValueError F.ei F.at_ g1 g2 (hT c) (my n C CS Z F rest)
  ·split
   ·rename_i c i o hx
    obtain⟨e,h1,h2⟩:=ba.mp hx;obtain⟨ep,rfl⟩:=BQ h1;obtain⟨m,ap,cp,rfl,h3,h4,h5,h6,h7⟩:=ur h2;obtain⟨C2,Vi,D⟩:=C.gm.xt m c i h3;cases BR F Vi;exact U1 Z D hr (by omega) (hE o) (rj h4 rfl (by decide) h7) (my n C CS Z F rest)
   ·exact plain
structure Fe where
 cls:Option Str
 x:Str
 qual:Str
 st:Stmt
 N:Bi
 ps:Bi
 mu:Bi
 sl:Bool
 ds:Fs
def noFn:Fn:=λ_ _=>.bad
def Mc(b:Bool)(f:Fn):Fn:=if b then cz f else f
def E6(e:Fe):Bool:=e.mu.contains ("raise" : Str)
def rV(M:Gm)(aj:Nat->Fn)(e:Fe):FS:=match E6 e with
 |false=>iY M aj 60 200 ⟨e.N,au e.st,e.mu⟩ (bF e.st)
 |true=>rP M aj 60 ⟨e.N,au e.st,e.mu⟩ (bF e.st)
def rW(M:Gm)(aj:Nat->Fn)(e:Fe):Fn:=Mc e.sl (aR e.ps.length e.N.length (rV M aj e))
def fT(M:Gm)(Ft:List Fe):Nat->Nat->Fn
 |0,_=>noFn
 |n+1,i=>match Ft[i]? with
  |some e=>rW M (fT M Ft n) e
  |none=>noFn
section
def vZ(K:aS)(x:Str):Option Addr:=match kZ K mainGlobals x with
 |some (some (.ref a))=>some a
 |_=>none
theorem gh{x:Str}{a:Addr}(h:vZ K x=some a):kZ K mainGlobals x=some (some (.ref a)):=by
 unfold vZ at h;split at h
 ·rename_i e;cases h;exact e
 ·cases h
def Vj(K:aS)(C:Addr)(m:Str):Option Addr:=match dO K (.ref C) m with
 |some (some (.ref a))=>some a
 |_=>none
def R_(K:aS)(C:Addr)(ns:Bi):Bool:=yq K C Str.empty&&CA K C&&yy K C&&decide (dO K (.ref C) "__setattr__" = some (some (.builtin "object.__setattr__"))) &&
 decide (dO K (.ref C) "__class__" = some (some (.builtin "object.__class__")))&&decide (wx K C (.type "object")=some true)&&ns.all (λf=>decide (dO K (.ref C) f=some none))&&decide ns.Nodup&&decide (ns.length<=100)
def subB(K:aS)(cn:Bi)(C:Addr)(l:B1):Bool:=(cD cn.length).all λd=>match cn[d]? with
 |none=>true
 |some n=>(match vZ K n with
  |some D=>decide (gG K (.ref C) (.ref D)=some (decide (d∈l)))
  |none=>false)
def Q2(K:aS)(P:Pg):Bool:=(cD P.cn.length).all λc=>match P.cn[c]? with
 |none=>true
 |some n=>(match vZ K n,P.fn[c]?,P.sub[c]? with
  |some C,some ns,some l=>R_ K C ns&&subB K P.cn C l
  |_,_,_=>false)
def gtB(K:aS):Bool:=decide (yu K (.builtin "object.__class__") "__get__" = some (some (.builtin "getset_descriptor.__get__")))&&decide (yv K (.builtin "object.__class__")=some true)
def E7(K:aS)(mg:Str->D1):Prop:=∀x o,kZ K mainGlobals x=some o->mg x=o
theorem Me{h:Heap}(X:K.In h)(G:h.Ns mainGlobals mg):E7 K mg:=λx o e=>by
 cases o with
 |none=>exact PySem.W.mg_none_of X G e
 |some v=>exact PySem.W.mg_of X G e
theorem oN{P:Pg}(h:Q2 K P=true){c:Nat}{n:Str}(hc:P.cn[c]?=some n):∃C ns l,vZ K n=some C/\P.fn[c]?=some ns/\P.sub[c]?=some l/\R_ K C ns=true/\subB K P.cn C l=true:=by
 unfold Q2 at h
 have:=gz.mp h c (CL.mpr (eT.mp hc).1)
 rw[hc]at this;dsimp only at this;split at this
 ·rename_i C ns l h1 h2 h3
  rw[bL]at this;exact⟨C,ns,l,h1,h2,h3,this.1,this.2⟩
 ·cases this
theorem mz(g:E7 K mg){n:Str}{C:Addr}{ns:Bi}(ha:vZ K n=some C)(h:R_ K C ns=true):MQ K mg n ns C:=by
 unfold R_ at h;simp only[bL,decide_eq_true_eq]at h;obtain⟨⟨⟨⟨⟨⟨⟨⟨h1,h2⟩,h3⟩,h4⟩,h5⟩,h6⟩,h7⟩,h8⟩,h9⟩:=h;have a:=gh ha;exact⟨a,g _ _ a,h8,h9,⟨h1,h2,h3,h4⟩,λf hf=>show dO K (.ref C) f=some none from of_decide_eq_true (gz.mp h7 f hf),h5,h6⟩
theorem Q3{P:Pg}(g:E7 K mg)(h:Q2 K P=true)(ht:gtB K=true):kD K mg P:=by
 refine⟨λc n ns h1 h2=>?_,λc d n n' C D l h1 h2 h3 h4 h5=>?_,?_⟩
 ·obtain⟨C,yi,l,ha,hn,_,hb,_⟩:=oN h h1
  rw[h2]at hn;cases hn;exact⟨C,mz g ha hb⟩
 ·obtain⟨C',yi,l',ha,_,hl,_,hs⟩:=oN h h1
  rw[h5]at hl;cases hl;have e:=(g _ _ (gh ha)).symm.trans h3;cases e;unfold subB at hs
  have:=gz.mp hs d (CL.mpr (eT.mp h2).1)
  rw[h2]at this;dsimp only at this;split at this
  ·rename_i D' hd
   have e:=(g _ _ (gh hd)).symm.trans h4;cases e;exact of_decide_eq_true this
  ·cases this
 ·unfold gtB at ht
  rw[bL]at ht;exact⟨of_decide_eq_true ht.1,of_decide_eq_true ht.2⟩
def Mf(K:aS)(e:Fe):Option Addr:=match e.cls with
 |none=>vZ K e.x
 |some c=>(vZ K c).bind λC=>Vj K C e.x
def Ic(K:aS)(e:Fe):Option FuncData:=(Mf K e).bind λf=>match K.lookup f with
 |some ⟨_,_,.func fd,_⟩=>some fd
 |_=>none
def BU(e:Fe)(fd:FuncData):FuncData:=wy e.x e.qual (jg e.st) (bF e.st) (au e.st) fd.defaults fd.kwdefaults fd.doc fd.pyModule fd.annotations fd.code fd.closureTuple
def Xc(e:Fe):Bool:=decide ((au e.st).kind=.function)&&!(au e.st).isCoroutine&&!(au e.st).isGenerator&&decide e.N.Nodup&&decide (e.N.take e.ps.length=e.ps)&&e.ps.all (λx=>decide ((au e.st).names.lookup x=some .local) ||decide ((au e.st).names.lookup x=some .cell))&&(au e.st).names.all (λy=>decide (y.2≠.free))
def v8:T->Value->Bool
 |.int i,.int j _=>decide (i=j)
 |.str l,.str s _=>decide (s.cps.toList=l)&&decide (l.length<=1000000)
 |.bl b,.bool c=>b == c
 |.non,.none=>true
 |_,_=>false
def df:T->V
 |.int i=>.int i
 |.str l=>SV l
 |.bl b=>.bl b
 |_=>.non
theorem v9{t:T}{u:Value}(h:v8 t u=true):RelV (df t) u/\∀(B:KT)al H,Rep B al H t (df t):=by
 unfold v8 at h;split at h
 ·have h:=of_decide_eq_true h
  subst h;exact⟨⟨_,rfl⟩,λ_ _ _=>rfl⟩
 ·rename_i l s tk
  rw[bL]at h;have h1:=of_decide_eq_true h.1;subst h1;exact⟨⟨tk,rfl⟩,λ_ _ _=>⟨rfl,of_decide_eq_true h.2⟩⟩
 ·have h:=eq_of_beq h
  subst h;exact⟨rfl,λ_ _ _=>rfl⟩
 ·exact⟨rfl,λ_ _ _=>rfl⟩
 ·cases h
def iZ:Fs->B2->Bool
 |[],[]=>true
 |t::ts,u::us=>v8 t u&&iZ ts us
 |_,_=>false
theorem mC:∀{ts:Fs}{us:B2},iZ ts us=true->Vals (ts.map df) us/\∀(B:KT)al H,aq B al H ts (ts.map df)
 |[],[],_=>⟨.nil,λ_ _ _=>rfl⟩
 |t::ts,u::us,h=>by
  rw[iZ,bL]at h;obtain⟨a,b⟩:=v9 h.1;obtain⟨c,d⟩:=mC h.2;exact⟨.cons a c,λB al H=>⟨_,_,rfl,b B al H,d B al H⟩⟩
 |[],_::_,h=>by cases h
 |_::_,[],h=>by cases h
def Vk(K:aS)(ds:Fs)(dV:Value):Bool:=match ds with
 |[]=>(match dV with
  |.none=>true
  |_=>false)
 |_::_=>(match dV with
  |.ref a=>(match K.lookup a with
   |some ⟨_,_,.seq av _,_⟩=>iZ ds av.toList
   |_=>false)
  |_=>false)
def Sa(K:aS)(e:Fe):Bool:=match Mf K e,Ic K e with
 |some f,some fd=>mR K (.ref f)&&yr K (.ref f)&&yC K fd.code e.qual&&Xc e&&Vk K e.ds fd.defaults
 |_,_=>false
def Bn(e:Fe):Prop:=match e.ds with
 |[]=>∀(kV doc pm:Value)(an:Option Addr)(gC ct:Value)(us:B2),us.length=e.ps.length->bindArgs (wy e.x e.qual (jg e.st) (bF e.st) (au e.st) .none kV doc pm an gC ct) ⟨us,[]⟩=pure (e.ps.zip us)
 |ds=>∀(kV doc pm:Value)(an:Option Addr)(gC ct:Value)(s:Shared)(a:Addr)(o:Obj)(fE:B2)(n:Nat)(us:B2),s.heap.get? a=some o->o.data=.seq fE.toArray n->fE.length=ds.length->(us++fE).length=e.ps.length ->
  BindsTo s (wy e.x e.qual (jg e.st) (bF e.st) (au e.st) (.ref a) kV doc pm an gC ct) ⟨us,[]⟩ (e.ps.zip (us++fE))
structure nG(K:aS)(e:Fe)(f:Addr)(fd:FuncData):Prop where
 at_:Mf K e=some f
 fn:rh K e.x e.qual e.st f fd
 sc:eV e.N e.ps (au e.st)
 isf:yr K (.ref f)=true
 bs:e.ds=[]->∀us:B2,us.length=e.ps.length->bindArgs fd ⟨us,[]⟩=pure (e.ps.zip us)
 bd:∃(fE:B2)(dV:List V),Binds K fd e.ps fE/\Vals dV fE/\∀(B:KT)al H,aq B al H e.ds dV
theorem nG.bn{e:Fe}{f:Addr}{fd:FuncData}(F:nG K e f fd)(h:e.ds=[]):Binds K fd e.ps []:=.all (F.bs h)
theorem oO:∀{ts:Fs}{us:B2},iZ ts us=true->us.length=ts.length
 |[],[],_=>rfl
 |t::ts,u::us,h=>by
  rw[iZ,bL]at h;simp[oO h.2]
 |[],_::_,h=>by cases h
 |_::_,[],h=>by cases h
theorem Q4{e:Fe}(h:Sa K e=true)(q:Ic K e=(Ic K e).map (BU e))(b:Bn e):∃f fd,nG K e f fd:=by
 unfold Sa at h;split at h
 case h_2=>cases h
 rename_i f fd h1 h2;simp only[bL]at h;obtain⟨⟨⟨⟨h3,h4⟩,h5⟩,h6⟩,h7⟩:=h;rw[h2]at q;injection q with q
 have l:∃oc od yh,K.lookup f=some ⟨oc,od,.func fd,yh⟩:=by
  unfold Ic at h2;rw[h1]at h2;dsimp only[Option.bind]at h2;split at h2
  ·rename_i oc od fd' yh e
   cases h2;exact⟨oc,od,yh,e⟩
  ·cases h2
 obtain⟨oc,od,yh,l⟩:=l;have F:rh K e.x e.qual e.st f fd:=⟨⟨oc,od,fd.defaults,fd.kwdefaults,fd.doc,fd.pyModule,fd.annotations,fd.code,fd.closureTuple,yh,q,l,h5⟩,h3⟩;have bs:e.ds=[]->∀us:B2,us.length=e.ps.length->bindArgs fd ⟨us,[]⟩=pure (e.ps.zip us):=λh us hl=>by
  unfold Bn at b;rw[h]at b h7;unfold Vk at h7;dsimp only at b h7;split at h7
  ·rename_i hd
   rw[q];unfold BU;rw[hd];exact b _ _ _ _ _ _ us hl
  ·cases h7
 have bd:∃(fE:B2)(dV:List V),Binds K fd e.ps fE/\Vals dV fE/\∀(B:KT)al H,aq B al H e.ds dV:=by
  cases sj:e.ds with
  |nil=>exact⟨[],[],.all (bs sj),.nil,λ_ _ _=>rfl⟩
  |cons d ds=>
   unfold Bn at b;rw[sj]at b h7;unfold Vk at h7;dsimp only at b h7;split at h7
   case h_2=>cases h7
   rename_i a hd;split at h7
   case h_2=>cases h7
   rename_i oc' od' av n' G2 ZK;obtain⟨v1,v2⟩:=mC h7;refine⟨av.toList,_,λs us KX hl=>?_,v1,λB al H=>v2 B al H⟩;rw[q];unfold BU;rw[hd];exact b _ _ _ _ _ _ s a _ av.toList n' us (KX _ _ ZK) rfl (oO h7) hl
 refine⟨f,fd,h1,F,?_,h4,bs,bd⟩;unfold Xc at h6;simp only[bL,decide_eq_true_eq]at h6;obtain⟨⟨⟨⟨⟨⟨g1,g2⟩,g3⟩,g4⟩,g5⟩,g6⟩,g7⟩:=h6;refine⟨g1,by simpa using g2,by simpa using g3,g4,g5,λx hx=>?_,λy hy=>of_decide_eq_true (gz.mp g7 y hy)⟩
 have:=gz.mp g6 x hx
 rw[CH]at this;exact this.imp of_decide_eq_true of_decide_eq_true
end
abbrev E8:=List (Str×Nat)
section
variable{Ft:List Fe}{It:E8}
def Vl(e:Fe):Bool:=e.N.all λx=>(decide ((au e.st).names.lookup x=some .local) ||decide ((au e.st).names.lookup x=some .cell))&&!jB x
theorem Ie{e:Fe}(h:Vl e=true):∀(i:Nat)(x:Str),e.N[i]?=some x->kI (au e.st) x/\aQ x/\dZ x:=λi x hx=>by
 have:=gz.mp h x (ir hx)
 rw[bL,CH]at this;refine⟨this.1.elim (λh=>.inl (of_decide_eq_true h)) λh=>.inr (.inl (of_decide_eq_true h)),LQ (by simpa using this.2)⟩
def Xd(K:aS)(C f:Addr):Bool:=yt K C&&decide (dO K (.ref C) "__init__" = some (some (.ref f)))&&mR K (.ref C)
def BV(K:aS)(M:Gm)(Ft:List Fe)(It:E8)(c:Nat)(x:Str)(t:Bi->Fe->Bool):Bool:=match M.P.cn[c]?,M.P.fn[c]?,(It.lookup x).bind λi=>Ft[i]? with
 |some n,some ns,some e=>decide (n=x)&&(match vZ K x,Mf K e with
  |some C,some f=>Xd K C f&&e.ds.isEmpty&&t ns e
  |_,_=>false)
 |_,_,_=>false
def Xe(n:Nat)(ns:Bi)(e:Fe):Bool:=Vl e&&lZ e.N 1 (bF e.st) ns&&decide (e.ps.length=ns.length+1)&&decide (ns.length=n)
noncomputable def Xf(K:aS)(ns:Bi)(e:Fe):Bool:=Vl e&&decide (e.ps.length=2)&&decide (kZ K mainGlobals "list" = some none)&&decide ((au e.st).names.lookup ("list" : Str)=some .globalImplicit)&&(match bF e.st with
 |[ym]=>(match p_ ym with
  |some (s0,n,q)=>decide (ns=[n])&&decide (e.N[0]?=some s0)&&decide (e.N[1]?=some q)
  |none=>false)
 |_=>false)
noncomputable def Sb(K:aS)(M:Gm)(Ft:List Fe)(It:E8)(x:Str):Ck->Bool
 |.fz c n=>BV K M Ft It c x (Xe n)
 |.z0 c=>(match M.P.cn[c]?,vZ K x with
  |some n,some C=>decide (n=x)&&yt K C&&decide (dO K (.ref C) "__init__" = some (some (.builtin "object.__init__")))&&mR K (.ref C)
  |_,_=>false)
 |.cp c=>BV K M Ft It c x (Xf K)
 |.nw c i=>decide (It.lookup x=some i)&&BV K M Ft It c x λ_ _=>true
def Vm:Fs->Fs->Bool
 |[],[]=>true
 |[.int i],[.int j]=>decide (i=j)
 |_,_=>false
theorem E9{a b:Fs}(h:Vm a b=true):a=b:=by
 unfold Vm at h;split at h
 ·rfl
 ·rw[of_decide_eq_true h]
 ·cases h
def Vn(K:aS)(Ft:List Fe)(p:Str×Fs×Nat):Bool:=match Ft[p.2.2]? with
 |some e=>decide (e.cls=none)&&decide (e.x=p.1)&&Vm p.2.1 e.ds
 |none=>false
noncomputable def Q5(K:aS)(M:Gm)(Ft:List Fe)(m:Str)(p:Nat×Nat):Bool:=match M.P.cn[p.1]?,M.P.fn[p.1]?,Ft[p.2]? with
 |some n,some ns,some e=>(match vZ K n,Mf K e with
  |some C,some f=>decide (dO K (.ref C) m=some (some (.ref f)))&&e.ds.isEmpty&&!ns.contains m
  |_,_=>false)
 |_,_,_=>false
def Xg(K:aS)(C:Addr):Bool:=decide (dO K (.ref C) "__getattribute__" = some (some (.builtin "BaseException.__getattribute__")))&&decide (dO K (.ref C) "__getattr__" = some none)&&decide (dO K (.ref C) "__class__" = some (some (.builtin "object.__class__"))) &&
 decide (yu K (.builtin "object.__class__") "__get__" = some (some (.builtin "getset_descriptor.__get__")))&&decide (yv K (.builtin "object.__class__")=some true)&&decide (wx K C (.type "BaseException")=some true)&&decide (wx K C (.type "object")=some true)
def Xh(K:aS)(C:Addr)(p:Str×Bool):Bool:=!jB p.1&&(match kZ K mainGlobals p.1 with
 |some (some (.ref D))=>decide (gG K (.ref C) (.ref D)=some p.2)
 |some none=>decide (p.1=("ValueError" : Str))&&decide (gG K (.ref C) (.type "ValueError")=some p.2)
 |_=>false)
def Xi(K:aS)(C:Addr)(y:Str):Bool:=!jB y&&(match vZ K y with
 |some D=>decide (uA K (.ref C) (.ref D)=some true)
 |none=>false)
def Vo(K:aS)(M:Gm):Bool:=match vZ K M.xc with
 |some C=>!jB M.xc&&Xg K C&&yE K C [.type "ValueError",.type "Exception",.type "BaseException",.type "object"] "ValueError.__new__" && M.xi.all (Xh K C)&&M.xm.all (Xi K C)
 |none=>false
def Q6(K:aS)(M:Gm)(Ft:List Fe):Bool:=match M.xt with
 |[]=>Ft.all λe=>!E6 e
 |_::_=>Vo K M&&M.xt.all λp=>Q5 K M Ft p.1 p.2&&(match Ft[p.2.2]? with
  |some e=>E6 e
  |none=>false)
theorem Ig(g:E7 K mg)(h:Vo K M=true):∃C,xQ M K mg C:=by
 unfold Vo at h;cases ha:vZ K M.xc with
 |none=>rw[ha]at h;cases h
 |some C=>
 rw[ha]at h;simp only[bL]at h;obtain⟨⟨⟨⟨h1,h2⟩,h3⟩,h4⟩,h5⟩:=h;unfold Xg at h2;simp only[bL,decide_eq_true_eq]at h2;obtain⟨⟨⟨⟨⟨⟨a1,a2⟩,a3⟩,a4⟩,a5⟩,a6⟩,a7⟩:=h2;refine⟨C,g _ _ (gh ha),(LQ (by simpa using h1)).1,⟨a1,a2,a3,a4,a5,a6,a7⟩,h3,λy b hy=>?_,λy hy=>?_⟩
 ·have q:=gz.mp h4 _ (bU hy)
  unfold Xh at q;rw[bL]at q;refine⟨(LQ (by simpa using q.1)).1,?_⟩
  have q2:=q.2;dsimp only at q2;split at q2
  ·rename_i D hD
   exact .inl ⟨D,g _ _ hD,of_decide_eq_true q2⟩
  ·rename_i hD
   rw[bL]at q2;have e:=of_decide_eq_true q2.1;subst e;exact .inr ⟨"ValueError",g _ _ hD,PyProof.Rows.Boot.«ValueError»,by decide,of_decide_eq_true q2.2⟩
  ·cases q2
 ·have q:=gz.mp h5 _ hy
  unfold Xi at q;rw[bL]at q;refine⟨(LQ (by simpa using q.1)).1,?_⟩
  have q2:=q.2;split at q2
  ·rename_i D hD
   exact⟨D,g _ _ (gh hD),of_decide_eq_true q2⟩
  ·cases q2
def Mg(K:aS)(M:Gm)(Ft:List Fe)(It:E8):Bool:=Q2 K M.P&&gtB K&&Ft.all (Sa K)&&M.fs.all (Vn K Ft)&&M.cl.all (λp=>Sb K M Ft It p.1 p.2)&&M.ms.all (λp=>p.2.all (Q5 K M Ft p.1))&&M.bl.all (λx=>decide (kZ K mainGlobals x=some none))&&Q6 K M Ft
structure ModOk(K:aS)(M:Gm)(Ft:List Fe)(It:E8):Prop where
 b:Mg K M Ft It=true
 q:Ft.map (Ic K)=Ft.map λe=>(Ic K e).map (BU e)
 bn:∀e∈Ft,Bn e
theorem BW{α β:Type}{f g:α->β}:∀{l:List α},l.map f=l.map g->∀a∈l,f a=g a
 |[],_,a,h=>by simp at h
 |b::l,e,a,h=>by
  rw[dY,dY]at e;injection e with e1 e2
  rcases cH.mp h with rfl|h
  ·exact e1
  ·exact BW e2 a h
theorem ModOk.split(O:ModOk K M Ft It):Q2 K M.P=true/\gtB K=true/\(∀e∈Ft,Sa K e=true)/\(∀p∈M.fs,Vn K Ft p=true)/\(∀p∈M.cl,Sb K M Ft It p.1 p.2=true)/\(∀p∈M.ms,∀q∈p.2,Q5 K M Ft p.1 q=true)/\(∀x∈M.bl,kZ K mainGlobals x=some none)/\Q6 K M Ft=true:=by
 have h:=O.b;unfold Mg at h;simp only[bL]at h;obtain⟨⟨⟨⟨⟨⟨⟨h1,h2⟩,h3⟩,h4⟩,h5⟩,h6⟩,h7⟩,h8⟩:=h;exact⟨h1,h2,gz.mp h3,gz.mp h4,gz.mp h5,λp hp=>gz.mp (gz.mp h6 p hp),λx hx=>of_decide_eq_true (gz.mp h7 x hx),h8⟩
theorem ModOk.fe(O:ModOk K M Ft It){e:Fe}(h:e∈Ft):∃f fd,nG K e f fd:=Q4 (O.split.2.2.1 e h) (BW O.q e h) (O.bn e h)
theorem E_{B:KT}{P:Program}{w:World}{base:Heap}{k:Nat}{f:Addr}{fd:FuncData}{ps:Bi}:bH P w K mg base j3 k f fd ps (mP B noFn):=
 ⟨λvs H Q E ⟨_,_,_,_,_,_,_,h,_⟩=>(by cases h),λ_ _ _ _ _ _ _ _ _ _ _ _ _ ⟨_,_,_,_,_,_,_,h,_⟩=>(by cases h)⟩
theorem uu(g:E7 K mg)(O:ModOk K M Ft It){c:Nat}{x:Str}{t:Bi->Fe->Bool}(h:BV K M Ft It c x t=true):∃C ns e i f fd,M.P.cn[c]?=some x/\M.P.fn[c]?=some ns/\It.lookup x=some i/\Ft[i]?=some e/\nG K e f fd/\Mk K C f/\MQ K mg x ns C/\t ns e=true/\e.ds=[]:=by
 unfold BV at h;split at h
 case h_2=>cases h
 rename_i n ns e h1 h2 h3;obtain⟨i,h4,h5⟩:=ba.mp h3;rw[bL]at h;obtain⟨hn,h⟩:=h;have hn:=of_decide_eq_true hn;subst hn;split at h
 case h_2=>cases h
 rename_i C f h6 h7;rw[bL]at h;obtain⟨f',fd,F⟩:=O.fe (ir h5)
 have:=F.at_.symm.trans h7
 cases this;obtain⟨C',yi,l,g1,g2,_,g3,_⟩:=oN O.split.1 h1;rw[h6]at g1;cases g1;rw[h2]at g2;cases g2;unfold Xd at h;simp only[bL,decide_eq_true_eq]at h;exact⟨C,ns,e,i,_,fd,h1,h2,h4,h5,F,⟨h.1.1.1.1,h.1.1.1.2,F.isf,h.1.1.2⟩,mz g h6 g3,h.2,yT.mp h.1.2⟩
theorem xT{α:Type}{l:List (Nat×α)}{x:Nat}{a:α}(h:l.lookup x=some a):(x,a)∈l:=by
 induction l with
 |nil=>simp at h
 |cons p l ih=>
  obtain⟨q,b⟩:=p;rw[iH]at h;split at h
  ·rename_i e
   cases h;rw[eq_of_beq e];exact dj ..
  ·exact dm _ (ih h)
variable{Pr:Program}{w:World}{base:Heap}
theorem MQ.xU{P:Pg}{c:Nat}{x:Str}{ns:Bi}{C:Addr}(F:MQ K mg x ns C)(h1:P.cn[c]?=some x)(h2:P.fn[c]?=some ns):f9 (fM P K Pr w) c C ns:=⟨x,h1,h2,F.nd,F.at_⟩
theorem rX{e:Fe}{f C:Addr}{fd:FuncData}{aj:Nat->Fn}{k:Nat}(F:nG K e f fd)(G:ug M Pr w K mg base aj k)(FC:xQ M K mg C)(hx:E6 e=true):bH Pr w K mg base (tZ Pr w C) (k+2) f fd e.ps (xO (fM M.P K Pr w) C (rW M aj e)):=by
 have main:bH Pr w K mg base (tZ Pr w C) (k+2) f fd e.ps (xO (fM M.P K Pr w) C (aR e.ps.length e.N.length (rV M aj e))):=by
  refine Bk F.fn F.sc λgC A outer s H E hr Z=>?_;unfold rV;rw[hx];exact my 60 ⟨G,rfl,rfl,rfl,k+1,cC _,hr⟩ ⟨⟨G,rfl,rfl,rfl,k+1,cC _,hr⟩,λ_=>rfl,F.sc.nd,rfl,rfl,rfl⟩ Z FC (bF e.st)
 unfold rW Mc;split
 ·exact Bf main
 ·exact main
theorem Fb{e:Fe}{f:Addr}{fd:FuncData}{aj:Nat->Fn}{k:Nat}(F:nG K e f fd)(G:ug M Pr w K mg base aj k)(hX:E6 e=true->∃C,xQ M K mg C):bH Pr w K mg base j3 (k+2) f fd e.ps (mP (fM M.P K Pr w) (rW M aj e)):=by
 cases hx:E6 e with
 |true=>
  obtain⟨C,FC⟩:=hX hx;exact Lb (rX F G FC hx)
 |false=>
 have main:bH Pr w K mg base j3 (k+2) f fd e.ps (mP (fM M.P K Pr w) (aR e.ps.length e.N.length (rV M aj e))):=by
  refine Ku F.fn F.sc λgC A outer s H E hr=>?_;unfold rV;rw[hx];exact fS 60 200 ⟨e.N,au e.st,e.mu⟩ (kr j3 Pr w K mg base e.N e.qual (au e.st) f gC A outer s H E).zq ⟨⟨G,rfl,rfl,rfl,k+1,cC _,hr⟩,λ_=>rfl,F.sc.nd,rfl,rfl,rfl⟩ (bF e.st)
 unfold rW Mc;split
 ·exact D8 main
 ·exact main
theorem v_{n:Nat}{i:Nat}{e:Fe}{f:Addr}{fd:FuncData}(F:nG K e f fd)(he:Ft[i]?=some e)(hX:E6 e=true->∃C,xQ M K mg C)(h:∀m,n=m+1->ug M Pr w K mg base (fT M Ft m) (2*m+1)):bH Pr w K mg base j3 (2*n+1) f fd e.ps (mP (fM M.P K Pr w) (fT M Ft n i)):=by
 cases n with
 |zero=>exact E_
 |succ m=>
  have:=Fb F (h m rfl) hX
  unfold fT;rw[he];exact this
theorem BX{n:Nat}{i:Nat}{e:Fe}{f C:Addr}{fd:FuncData}(F:nG K e f fd)(he:Ft[i]?=some e)(FC:xQ M K mg C)(hx:E6 e=true)(h:∀m,n=m+1->ug M Pr w K mg base (fT M Ft m) (2*m+1)):bH Pr w K mg base (tZ Pr w C) (2*n+1) f fd e.ps (xO (fM M.P K Pr w) C (fT M Ft n i)):=by
 cases n with
 |zero=>exact⟨λvs H Q E ⟨_,_,_,_,_,z⟩=>(by rcases z with⟨_,_,h,_⟩|⟨_,_,_,h,_⟩<;>cases h),λ_ _ _ _ _ _ _ _ _ _ _ _ _ ⟨_,_,_,_,_,z⟩=>(by rcases z with⟨_,_,h,_⟩|⟨_,_,_,h,_⟩<;>cases h)⟩
 |succ m=>
  have:=rX F (h m rfl) FC hx
  unfold fT;rw[he];exact this
theorem Ih(g:E7 K mg)(h:Q6 K M Ft=true){e:Fe}(he:e∈Ft)(hx:E6 e=true):∃C,xQ M K mg C:=by
 unfold Q6 at h;split at h
 ·have:=gz.mp h e he
  rw[hx]at this;cases this
 ·rw[bL]at h
  exact Ig g h.1
theorem Mh(g:E7 K mg)(O:ModOk K M Ft It)(hc:∀x t,M.cs.lookup x=some t->vq K mg x t):∀n,ug M Pr w K mg base (fT M Ft n) (2*n+1):=by
 intro n
 induction n using Nat.strongRecOn with
 |ind n ih=>
 have call:∀{i:Nat}{e:Fe}{f:Addr}{fd:FuncData},nG K e f fd->Ft[i]?=some e->bH Pr w K mg base j3 (2*n+1) f fd e.ps (mP (fM M.P K Pr w) (fT M Ft n i)):=λF he=>v_ F he (Ih g O.split.2.2.2.2.2.2.2 (ir he)) λm hm=>ih m (by omega)
 obtain⟨o1,o2,o3,o4,o5,o6,o7,o8⟩:=O.split;have pg:=Q3 g o1 o2;refine⟨pg,hc,λx ds i h=>?_,λx c k h=>?_,λx c h=>?_,λx c h=>?_,λx c i h=>?_,λm l c i h1 h2=>?_,λx h=>g x none (o7 x h),λm c i h=>?_⟩
 ·have q:=o4 _ (bU h)
  unfold Vn at q;dsimp only at q;split at q
  case h_2=>cases q
  rename_i e he;rw[bL,bL]at q;obtain⟨⟨q2,q3⟩,q1⟩:=q;have q2:=of_decide_eq_true q2;have q3:=of_decide_eq_true q3;subst q3;obtain⟨f,fd,F⟩:=O.fe (ir he);have ha:=F.at_;unfold Mf at ha;rw[q2]at ha;obtain⟨fE,dV,b1,b2,b3⟩:=F.bd;exact⟨f,fd,e.ps,fE,dV,call F he,g _ _ (gh ha),F.fn.kp,b1,b2,λal H=>E9 q1▸b3 _ al H⟩
 ·obtain⟨C,ns,e,i,f,fd,c1,c2,c3,c4,F,m,cl,q,q9⟩:=uu g O (o5 _ (bU h))
  unfold Xe at q;simp only[bL,decide_eq_true_eq]at q;obtain⟨⟨⟨q1,q2⟩,q3⟩,q4⟩:=q;exact⟨C,f,fd,e.ps,ns,cl.xU c1 c2,q4,cl.gl,m,Eb F.fn F.sc (Ie q1) q2 q3 cl.cl cl.na cl.nd cl.nY,F.bn q9⟩
 ·have q:=o5 _ (bU h)
  unfold Sb at q;dsimp only at q;split at q
  case h_2=>cases q
  rename_i n' C h1 h2;simp only[bL,decide_eq_true_eq]at q;obtain⟨⟨⟨q1,q2⟩,q3⟩,q4⟩:=q;subst q1;obtain⟨C',ns,l,g1,g2,_,g3,_⟩:=oN o1 h1;rw[h2]at g1;cases g1;have cl:=mz g h2 g3;exact⟨C,ns,cl.xU h1 g2,cl.gl,q2,q3,q4⟩
 ·obtain⟨C,ns,e,i,f,fd,c1,c2,c3,c4,F,m,cl,q,q9⟩:=uu g O (o5 _ (bU h))
  unfold Xf at q;simp only[bL,decide_eq_true_eq]at q;obtain⟨⟨⟨⟨q1,q2⟩,q3⟩,q4⟩,q5⟩:=q;split at q5
  case h_2=>cases q5
  rename_i ym hb;split at q5
  case h_2=>cases q5
  rename_i s0 n' q' hi;simp only[bL,decide_eq_true_eq]at q5;obtain⟨⟨r1,r2⟩,r3⟩:=q5;subst r1;exact⟨C,f,fd,e.ps,n',cl.xU c1 c2,cl.gl,m,AZ F.fn F.sc hb hi r2 r3 (Ie q1) (g _ _ q3) q4 q2 cl.cl (cl.na _ (dj ..)),F.bn q9⟩
 ·have q:=o5 _ (bU h)
  unfold Sb at q;dsimp only at q;rw[bL]at q;obtain⟨q0,q⟩:=q;have q0:=of_decide_eq_true q0;obtain⟨C,ns,e,i',f,fd,c1,c2,c3,c4,F,m,cl,_,q9⟩:=uu g O q;rw[q0]at c3;cases c3;exact⟨C,f,fd,e.ps,ns,cl.xU c1 c2,cl.gl,m,call F c4,F.bn q9⟩
 ·have q:=o6 _ (bU h1) (c,i) (xT h2)
  unfold Q5 at q;dsimp only at q;split at q
  case h_2=>cases q
  rename_i n' ns e d1 d2 d3;split at q
  case h_2=>cases q
  rename_i C f d4 d5;rw[bL,bL]at q;obtain⟨⟨q1,q9⟩,q2⟩:=q;obtain⟨C',yi,l',g1,g2,_,g3,_⟩:=oN o1 d1;rw[d4]at g1;cases g1;rw[d2]at g2;cases g2;have cl:=mz g d4 g3;obtain⟨f',fd,F⟩:=O.fe (ir d3)
  have:=F.at_.symm.trans d5
  cases this;exact⟨C,_,fd,e.ps,ns,cl.xU d1 d2,cl.cl,⟨of_decide_eq_true q1,F.isf,F.fn.kp⟩,call F d3,F.bn (yT.mp q9),λz=>by rw[uC.mpr z]at q2;cases q2⟩
 ·unfold Q6 at o8
  split at o8
  ·rename_i hz;rw[hz]at h;cases h
  rw[bL]at o8;obtain⟨XC,FC⟩:=Ig g o8.1;have q:=gz.mp o8.2 _ (bU h);rw[bL]at q;obtain⟨q,hx⟩:=q;unfold Q5 at q;dsimp only at q hx;split at q
  case h_2=>cases q
  rename_i n' ns e d1 d2 d3;rw[d3]at hx;split at q
  case h_2=>cases q
  rename_i C f d4 d5;rw[bL,bL]at q;obtain⟨⟨q1,q9⟩,q2⟩:=q;obtain⟨C',yi,l',g1,g2,_,g3,_⟩:=oN o1 d1;rw[d4]at g1;cases g1;rw[d2]at g2;cases g2;have cl:=mz g d4 g3;obtain⟨f',fd,F⟩:=O.fe (ir d3)
  have:=F.at_.symm.trans d5
  cases this;exact⟨XC,FC,C,_,fd,e.ps,ns,cl.xU d1 d2,cl.cl,⟨of_decide_eq_true q1,F.isf,F.fn.kp⟩,BX F d3 FC hx λm hm=>ih m (by omega),F.bn (yT.mp q9),λz=>by rw[uC.mpr z]at q2;cases q2⟩
end
section
variable{Ft:List Fe}{It:E8}
def Fc(K:aS)(p:Str×T):Bool:=match kZ K mainGlobals p.1 with
 |some (some u)=>(match p.2,u with
  |.tup ts,.ref a=>(match K.lookup a with
   |some ⟨.type c,_,.seq av _,_⟩=>decide (c = "tuple")&&decide (av.size<=sizeLine)&&iZ ts av.toList
   |_=>false)
  |t,u=>v8 t u)
 |_=>false
theorem Mi(g:E7 K mg){x:Str}{t:T}(h:Fc K (x,t)=true):vq K mg x t:=by
 unfold Fc at h;dsimp only at h;split at h
 case h_2=>cases h
 rename_i u hu;have hm:=g _ _ hu;split at h
 ·rename_i ts a
  split at h
  ·rename_i c od av n sl hl
   simp only[bL,decide_eq_true_eq]at h;obtain⟨⟨h1,h2⟩,h3⟩:=h;subst h1;obtain⟨v1,v2⟩:=mC h3;exact⟨_,.ref a,hm,rfl,λB al H hB=>⟨a,ts.map df,rfl,.inr ⟨_,av,n,hB▸hl,rfl,rfl,h2,v1⟩,v2 B al H⟩⟩
  ·cases h
 ·obtain⟨v1,v2⟩:=v9 h
  exact⟨u,df t,hm,v1,λB al H _=>v2 B al H⟩
structure BY(K:aS)(M:Gm)(Ft:List Fe)(It:E8):Prop extends ModOk K M Ft It where
 cs:M.cs.all (Fc K)=true
variable{Pr:Program}{w:World}{base:Heap}
theorem Fd(g:E7 K mg)(O:BY K M Ft It)(n:Nat):ug M Pr w K mg base (fT M Ft n) (2*n+1):=Mh g O.toModOk (λx t h=>Mi g (gz.mp O.cs _ (bU h))) n
theorem Ff{B:KT}{f:Fn}{k:Nat}(ns:Dx)(h:∃m',f [.scr ns] []=.ok (.bl true,m')){H:Hp}{a:Addr}(hO:Jr H)(hS:bW B.K H a (ns.map V.int)):mP B f [.ref a] H (λv _=>v=.bl true) λ_ _ _=>False:=by
 obtain⟨m',h⟩:=h;refine⟨⟨H,λ_=>none,[]⟩,[.scr ns],[],_,m',⟨λ_ _ e=>e,λb p e=>(by cases e),rfl,λk ob e=>(by simp at e)⟩,⟨_,_,rfl,⟨a,rfl,hS⟩,rfl⟩,h,λv g' H' _ _ r=>r⟩
end
theorem Q7{l:PySem.W.OpenLaw}{m n:Nat}{q:Program}{loose:Bi}{XP:(Str->D1)->Heap->Prop}{YP:World->Heap->Prop}{d:DefRec}{K:Params->aS}{M:Gm}{Ft:List Fe}{It:E8}{i:Nat}{e:Fe}
  (hn:l.most=some m) (hm:m<=sizeLine) (ZL:d.params.defaults=[]) (hr:aX (2*n+1) callerA) (hY:∀(w:World)(h:Heap),YP w h->(K w.params).In h)
  (he:Ft[i]?=some e) (hp:e.ps=[("_law_script" : Str)]) (hx:e.x=d.name) (xh:e.cls=none) (sj:e.ds=[]) (O:∀P,BY (K P) M Ft It) (hT:∀ns:Dx,ns.length<=m->(∀i∈ns,i.natAbs.log2<1048577)->∃m',fT M Ft n i [.scr ns] []=.ok (.bl true,m')) :
  PySem.W.WalkO q loose XP YP l.row.toRowW d [] (λf vs=>PySem.call f vs):=by
 intro w s₀ s₁ mg mb G Y fa o pm cd doc dV kV ho hd eO hD ZM hg args vals as Du Vp hrd SX hlo
 obtain rfl:dV=.none:=Gi.none hD ZL
 obtain rfl:kV=.none:=Gi.noKw hD
 obtain⟨a,vs,ns,rfl,rfl,Vq,hints,cM⟩:=Att.w_ hn Du SX;have bits:∀i∈ns,i.natAbs.log2<1048577:=λi hi=>by
  have h1:=PySem.W.layableW_item (PySem.W.layableW_arg Vp _ (qq.mpr rfl)) (.int i) (sH.mpr ⟨i,hi,rfl⟩);have h2:=PyData.bits_of_layable (PyProof.Rows.Da.lay0_int (PySem.W.layable_int h1));unfold Builtin.Int.intBits at h2;split at h2
  ·rename_i z
   rw[show i=0 from of_decide_eq_true z];decide
  ·omega
 refine PySem.W.enter_call (codeAny_mono (?_:codeAny (model l.prog w) callerA (.call (.ref fa) ⟨[.ref a],[]⟩) (λr s'=>r=.ok (.ret (.bool true))/\OldK s₁.heap s'.heap/\s'.os=s₁.os/\PyProof.Rows.AllBare s'.gens) s₁) λr s' hq=>?_)
 ·have KX:=hY w _ Y
  have g:=Me KX G.T.g;obtain⟨f,fd,F⟩:=(O w.params).fe (ir he);have ha:=F.at_;unfold Mf at ha;rw[xh]at ha;have ea:=(g _ _ (gh ha)).symm.trans (hx▸ZM);cases ea;refine zW (k:=2*n+1) (fd:=fd) (x:=("_law_script" : Str)) (CX:=j3) (sp:=mP (fM M.P (K w.params) l.prog w) (fT M Ft n i)) KX G.T.g G.T.b G.T.builtins G.T.nolimit hg Vq hints (il cM hm) hr (λbase KB GB=>?_) (λs u=>?_) (λH hO hS=>Ff (k:=0) ns (hT ns cM bits) hO hS) λ_ _ _ z=>z
  ·have:=v_ (Pr:=l.prog) (w:=w) (base:=base) (mg:=mg) F he (n:=n) (Ih g (O w.params).split.2.2.2.2.2.2.2 (ir he)) λm hm=>Fd g (O w.params) m
   rw[hp]at this;exact this
  ·have:=F.bs sj [u] (by rw[hp];rfl)
   rw[hp]at this;exact .of_eq this
 ·obtain⟨rfl,h2,h3,h4⟩:=hq
  exact⟨.inl ⟨.bool true,.bool true,[],rfl,λ_=>rfl,.bool true,Att.xf l _,λ_=>⟨List.Pairwise.nil,λ_ hm=>(nomatch hm)⟩⟩,h2,h3,h4⟩
end D
namespace D
theorem dz{α β:Type}(a:α)(f:α->Res β):Res.bind (.ok a) f=f a:=rfl
theorem oso{α:Type}(a:α):aT (some a)=.ok a:=rfl
section
variable{a b:FS}{s s':S}{r:Res (Out×S)}{t:T}{c:FT}{np n:Nat}{ts:Fs}{m m':FR}{e:FE}
theorem seq1(h:a s=.ok (.nx,s'))(k:b s'=r):ao a b s=r:=by unfold ao;rw[h];exact k
theorem Fg(h:e s=.ok (t,s')):bw e s=.ok (.rt t,s'):=by unfold bw;rw[h];rfl
theorem rY(h:ts.length=np)(k:b ⟨ts.map (λt=>some (.val t))++cj (n-ts.length) none,m⟩=.ok (.rt t,s'))(hm:s'.m=m'):aR np n b ts m=.ok (t,m'):=by
 unfold aR;rw[if_pos h,k,<- hm];rfl
theorem Fi(h:ts.length=np)(k:b ⟨ts.map (λt=>some (.val t))++cj (n-ts.length) none,m⟩=.ok (.nx,s'))(hm:s'.m=m'):aR np n b ts m=.ok (.non,m'):=by
 unfold aR;rw[if_pos h,k,<- hm];rfl
theorem BZ{g:Fn}{ds:Fs}{fl:FL}(h:fl s=.ok (ts,s'))(k:g (ts++ds) s'.m=.ok (t,m')):bj g ds fl s=.ok (t,⟨s'.r,m'⟩):=by
 unfold bj;rw[h];show(match g (ts++ds) s'.m with|.ok q=>_|.bad=>_|.exc c fs s'=>_)=_;rw[k]
end
theorem B0{g:Nat->Option Fn}{o:FE}{fl:FL}{k:Nat}{ob:Ob}{f:Fn}{ts:Fs}{t:T}{s s1 s2:S}{m':FR}(h:o s=.ok (.own k,s1))(hm:s1.m[k]?=some ob)(hg:g ob.c=some f)(ha:fl s1=.ok (ts,s2))(hc:f (.own k::ts) s2.m=.ok (t,m')) :
  aH g o fl s=.ok (t,⟨s2.r,m'⟩):=by
 unfold aH;rw[h];show Res.bind (aT ((s1.m[k]?).bind λob=>g ob.c)) _=_;rw[hm];show Res.bind (aT (g ob.c)) _=_;rw[hg];refine Eq.trans (dz f _) ?_;exact BZ (ts:=.own k::ts) (s':=s2) (by rw[ha];rfl) (by rw[fh];exact hc)
theorem xV{α:Type}{p:Prop}[Decidable p]{x:α}(h:p):gd p x=some x:=if_pos h
end D
namespace D
open PySem L2 PyProof.Rows
end D
namespace D
abbrev sv(t:T):Option C:=some (.val t)
abbrev cI(i:Int):FE:=cF (.int i)
abbrev cS(l:B1):FE:=cF (.str l)
abbrev oA:FE->FE->FE:=dD (gE .Add)
abbrev oM:FE->FE->FE:=dD (gE .Mod)
abbrev oD:FE->FE->FE:=dD (gE .FloorDiv)
abbrev oE:FE->FE->FE:=dD (bx .Eq)
abbrev oI:FE->FE->FE:=dD lU
abbrev k1(a:FE):FL:=cJ a aU
abbrev k2(a b:FE):FL:=cJ a (k1 b)
abbrev k3(a b c:FE):FL:=cJ a (k2 b c)
def W{α:Type}(x:Res α)(Q:α->Prop):Prop:=∃a,x=.ok a/\Q a
section
variable{α β:Type}{x:Res α}{f:α->Res β}{P:α->Prop}{R:β->Prop}
theorem W.mono{Q:α->Prop}(h:W x Q)(k:∀a,Q a->P a):W x P:=let⟨a,e,q⟩:=h;⟨a,e,k a q⟩
theorem W.bind(h:W x λa=>W (f a) R):W (x.bind f) R:=by
 obtain⟨a,rfl,b,e,q⟩:=h;exact⟨b,e,q⟩
theorem W.of{a:α}(e:x=.ok a)(h:P a):W x P:=⟨a,e,h⟩
end
section
variable{s s1 s':S}{a b:FE}{fl:FL}{g:T->T->FK}{gN:Fs->FK}{Q:T×S->Prop}{t u:T}{ts:Fs}{i:Nat}{c:FT}{A B:FS}{QS:Out×S->Prop}{QB:Bool×S->Prop}{QL:Fs×S->Prop}{G:T×FR->Prop}
def WB(b:FS)(s:S)(G:T×FR->Prop):Prop:=W (b s) λp=>∃t,p.1=.rt t/\G (t,p.2.m)
theorem Vr(h:W (a s) λp=>G (p.1,p.2.m)):WB (bw a) s G:=W.bind (h.mono λp q=>⟨_,rfl,_,rfl,q⟩)
theorem Sd(e:a s=.ok (t,s'))(h:G (t,s'.m)):WB (bw a) s G:=Vr ⟨_,e,h⟩
theorem gi(h:W (A s) λp=>p.1=.nx/\WB B p.2 G):WB (ao A B) s G:=W.bind (h.mono λp zz=>by
 obtain⟨e,k⟩:=zz;obtain⟨o,s'⟩:=p;cases e;exact k)
theorem Q8(h:WB A s G):WB (ao A B) s G:=W.bind (W.mono h λp ⟨t,e,k⟩=>⟨p,by obtain⟨o,s'⟩:=p;cases e;rfl,t,e,k⟩)
theorem Vs(h:W (a s) λp=>QS (.nx,i7 p.2 i (.val p.1))):W (aZ i a s) QS:=W.bind (h.mono λ_ q=>⟨_,rfl,q⟩)
theorem Vt(h:W (a s) λp=>WB B (i7 p.2 i (.val p.1)) G):WB (ao (aZ i a) B) s G:=gi (Vs (h.mono λ_ q=>⟨rfl,q⟩))
theorem Vu(e:a s=.ok (t,s'))(h:WB B (i7 s' i (.val t)) G):WB (ao (aZ i a) B) s G:=Vt ⟨_,e,h⟩
theorem Xj(h:W (c s) λp=>(p.1=true->W (A p.2) QS)/\(p.1=false->W (B p.2) QS)):W (fW c A B s) QS:=W.bind (h.mono λp zz=>by
 obtain⟨k1,k2⟩:=zz;cases e:p.1 with
 |true=>exact k1 e
 |false=>exact k2 e)
theorem xW(e:c s=.ok (true,s'))(h:W (A s') QS):W (fW c A B s) QS:=Xj ⟨_,e,⟨λ_=>h,λz=>by cases z⟩⟩
theorem xX(e:c s=.ok (false,s'))(h:W (B s') QS):W (fW c A B s) QS:=Xj ⟨_,e,⟨λz=>(by cases z),λ_=>h⟩⟩
theorem ZN(e:c s=.ok (true,s'))(h:WB A s' G):WB (ao (fW c A B) a') s G:=Q8 (xW e h)
theorem ZO(e:c s=.ok (false,s'))(h:WB B s' G):WB (ao (fW c A bZ) B) s G:=gi (xX e ⟨_,rfl,rfl,h⟩)
theorem B3{np n:Nat}{m:FR}(h:ts.length=np)(k:WB B ⟨ts.map (λt=>some (.val t))++cj (n-ts.length) none,m⟩ G):W (aR np n B ts m) G:=by
 unfold aR;rw[if_pos h];exact W.bind (W.mono k λp ⟨t,e,k⟩=>⟨_,by rw[e],k⟩)
theorem Ii{f:Fn}{m:FR}(h:bD ts=true)(k:W (f ts []) λp=>noOwn p.1=true/\G (p.1,m)):W (cz f ts m) G:=by
 obtain⟨p,e,h1,h2⟩:=k;refine⟨_,?_,h2⟩;unfold cz;rw[if_pos h,e];exact if_pos h1
theorem iB(h:W (A s) λp=>p.1=.nx/\W (B p.2) QS):W (ao A B s) QS:=W.bind (h.mono λp zz=>by
 obtain⟨e,k⟩:=zz;obtain⟨o,s'⟩:=p;cases e;exact k)
end
end D
namespace K41
open PySem D L2
variable(n:Nat){m:List _root_.D.Ob}
abbrev Q9:B1:=[32,33,34,35,36,38,39,40,41,42,43,44,45,46,47,48,49,50,51,52,53,54,55,56,57,58,59,60,61,62,63,64,65,66,67,68,69,70,71,72,73,74,75,76,77,78,79,80,81,82,83,84,85,86,87,88,89,90,91,92,93,94,95,96,97,98,99,100,101,102,103,104,105,106,107,108,109,110,111,112,113,114,115,116,117,118,119,120,121,122,123,124,125,126]
noncomputable abbrev fx(x:Str)(i:Nat):Str×Fs×Nat:=(x,[],i)
noncomputable def M:Gm:={
 P:={cn:=["Program","TextRow","Truths","Walker","Blade"],an:=("lines" :: "text" :: "number" :: "known" :: "conds" :: "up" :: "behind_marks" :: "teller" :: "truths" :: "passed" :: "met" :: "taken" :: "hand" :: "hand_rows" :: "shelves" :: "sums" :: "noted" :: "log" :: "wanting" :: "walker" :: "seen" :: "came" :: "waiting" :: "rest" :: "finished" :: []),tab:=[[0],[1,2,3],[4,5],[0,6,7,8,9,10,11,12,13,14,15,16,17,18],[19,20,21,22,23,24]],sub:=[[0],[1],[2],[3],[4]]},
 cs:=[],
 fs:=[fx "given_in" 0,fx "numbers_of_marks" 1,fx "ahead" 2,fx "cut" 3,fx "read" 4,fx "lines_of" 5,fx "marks_of" 6,fx "refuse_go_without_mark" 7,fx "_law_whole" 8,fx "_law_sign" 9,fx "_law_piece" 10,fx "_law_cut" 11,fx "_law_rows" 12,fx "_law_refused" 13,fx "_law_named" 14,fx "law" 15],
 cl:=[("Program",.cp 0),("TextRow",.nw 1 17),("Truths",.nw 2 18),("Walker",.nw 3 20),("Blade",.nw 4 32)],
 ms:=(("told_of",[(2,19)])::("want",[(3,21)])::("take",[(3,22)])::("take_with",[(3,23)])::("go_on",[(3,24)])::("hand_over",[(3,25)])::("finish",[(3,26),(4,34)])::("find_none",[(3,27)])::("give",[(3,28)])::("end_turn",[(3,29)])::("give_hand_and_end",[(3,30)])::("rows_on_shelves",[(3,31)])::("feed",[(4,33)])::("refuse_once_finished",[(4,35)])::("come",[(4,36)])::("take_all_but",[(4,37)])::("boxes",[(4,38)])::("faults",[(4,39)])::("kept",[(4,40)])::[]),
 bl:=["isinstance","len","all","str","int","list","range","enumerate","bool","dict","min","max"],bf:=["log","met","up","known","shelves","sums","noted","waiting"],lu:=[],lv:=[],
 ub:=["_law_answer","_law_last"],ld:=["_law_answer","_law_last"],xc := "Finished",xi:=[("Finished",true),("ValueError",true),("NoPattern",false),("NotThat",false),("NotWoven",false),("NoLine",false),("TwoMarks",false),("NoMark",false),("Endless",false)],xm:=["BladeError","Finished"],xt:=[("refuse_once_finished",4,35),("feed",4,33),("finish",4,34)]}
noncomputable def Ft:List Fe:=[
 ⟨none,"given_in","given_in",top 83,["log"],["log"],["return"],false,[]⟩,
 ⟨none,"numbers_of_marks","numbers_of_marks",top 84,["lines","numbers","number","line"],["lines"],["numbers"],true,[]⟩,
 ⟨none,"ahead","ahead",top 86,["program"],["program"],[],true,[]⟩,
 ⟨none,"cut","cut",top 115,["text","rows"],["text"],[],true,[]⟩,
 ⟨none,"read","read",top 118,["text","lines","marks"],["text"],[],true,[]⟩,
 ⟨none,"lines_of","lines_of",top 119,["rows","lines","number","row"],["rows"],["lines"],true,[]⟩,
 ⟨none,"marks_of","marks_of",top 120,["lines","marks","number","line"],["lines"],["marks"],true,[]⟩,
 ⟨none,"refuse_go_without_mark","refuse_go_without_mark",top 121,["lines","marks","number","line"],["lines","marks"],[],true,[]⟩,
 ⟨none,"_law_whole","_law_whole",top 123,["_law_answer"],["_law_answer"],["_law_answer"],true,[]⟩,
 ⟨none,"_law_sign","_law_sign",top 124,["_law_number","_law_some","_law_spot"],["_law_number"],[],true,[]⟩,
 ⟨none,"_law_piece","_law_piece",top 125,["_law_cell","_law_room","_law_many","_law_number","_law_signs","_law_k"],["_law_cell","_law_room"],[],true,[]⟩,
 ⟨none,"_law_cut","_law_cut",top 126,["_law_left","_law_piece_here","_law_rows_here","_law_sign_here"],["_law_left","_law_piece_here"],["_law_rows_here"],true,[]⟩,
 ⟨none,"_law_rows","_law_rows",top 127,["_law_answer","_law_due"],["_law_answer","_law_due"],["_law_answer"],true,[]⟩,
 ⟨none,"_law_refused","_law_refused",top 128,["_law_blade","_law_way","_law_sorts","e"],["_law_blade","_law_way"],[],false,[]⟩,
 ⟨none,"_law_named","_law_named",top 129,["_law_blade","_law_refused_here"],["_law_blade"],[],false,[]⟩,
 ⟨none,"law","law",top 130,["_law_script","_law_blade","_law_room","_law_left","_law_held","_law_cell","_law_last","_law_piece_here","_law_answer","_law_many","_law_kept","_law_due"],["_law_script"],["_law_held","_law_last","_law_answer"],true,[]⟩,
 ⟨some "Program","__init__","Program.__init__",inClass (top 11) 0,["self","lines"],["self","lines"],[],false,[]⟩,
 ⟨some "TextRow","__init__","TextRow.__init__",inClass (top 70) 0,["self","text","number"],["self","text","number"],[],false,[]⟩,
 ⟨some "Truths","__init__","Truths.__init__",inClass (top 71) 0,["self","lines"],["self","lines"],[],false,[]⟩,
 ⟨some "Truths","told_of","Truths.told_of",inClass (top 71) 1,["self","row","behind","truths","place","cond"],["self","row","behind"],["truths"],false,[]⟩,
 ⟨some "Walker","__init__","Walker.__init__",inClass (top 82) 0,["self","program"],["self","program"],[],false,[]⟩,
 ⟨some "Walker","want","Walker.want",inClass (top 82) 1,["self"],["self"],[],false,[]⟩,
 ⟨some "Walker","take","Walker.take",inClass (top 82) 2,["self","row","behind"],["self","row","behind"],[],false,[]⟩,
 ⟨some "Walker","take_with","Walker.take_with",inClass (top 82) 3,["self","text","truths"],["self","text","truths"],[],false,[]⟩,
 ⟨some "Walker","go_on","Walker.go_on",inClass (top 82) 4,["self"],["self"],[],false,[]⟩,
 ⟨some "Walker","hand_over","Walker.hand_over",inClass (top 82) 6,["self","rows"],["self"],[],false,[]⟩,
 ⟨some "Walker","finish","Walker.finish",inClass (top 82) 7,["self","line"],["self"],[],false,[]⟩,
 ⟨some "Walker","find_none","Walker.find_none",inClass (top 82) 8,["self"],["self"],[],false,[]⟩,
 ⟨some "Walker","give","Walker.give",inClass (top 82) 9,["self","row"],["self","row"],[],false,[]⟩,
 ⟨some "Walker","end_turn","Walker.end_turn",inClass (top 82) 10,["self"],["self"],[],false,[]⟩,
 ⟨some "Walker","give_hand_and_end","Walker.give_hand_and_end",inClass (top 82) 11,["self"],["self"],[],false,[]⟩,
 ⟨some "Walker","rows_on_shelves","Walker.rows_on_shelves",inClass (top 82) 18,["self","many","things"],["self"],[],false,[]⟩,
 ⟨some "Blade","__init__","Blade.__init__",inClass (top 88) 0,["self","program"],["self","program"],[],false,[]⟩,
 ⟨some "Blade","feed","Blade.feed",inClass (top 88) 1,["self","piece","parts","part"],["self","piece"],["raise"],false,[]⟩,
 ⟨some "Blade","finish","Blade.finish",inClass (top 88) 2,["self"],["self"],["raise"],false,[]⟩,
 ⟨some "Blade","refuse_once_finished","Blade.refuse_once_finished",inClass (top 88) 3,["self"],["self"],["raise"],false,[]⟩,
 ⟨some "Blade","come","Blade.come",inClass (top 88) 4,["self","text"],["self","text"],[],false,[]⟩,
 ⟨some "Blade","take_all_but","Blade.take_all_but",inClass (top 88) 5,["self","many","row"],["self","many"],[],false,[]⟩,
 ⟨some "Blade","boxes","Blade.boxes",inClass (top 88) 6,["self"],["self"],[],false,[]⟩,
 ⟨some "Blade","faults","Blade.faults",inClass (top 88) 7,["self"],["self"],[],false,[]⟩,
 ⟨some "Blade","kept","Blade.kept",inClass (top 88) 8,["self"],["self"],[],false,[]⟩]
noncomputable def It:E8:=[("Program",16),("TextRow",17),("Truths",18),("Walker",20),("Blade",32)]
noncomputable abbrev cN:=fT M Ft
def t0(aj:Nat->Fn):Fn:=aR 1 1 (bw (iF M.bc (eY (tD (vF 0)) 2 [] (setG 1) (dF (oE (oI (vF 1) (cI 0)) (cS [103,105,118,101]))) (oI (vF 1) (cI 1)))))
theorem w0:cN (n+1) 0=t0 (cN n):=rfl
def t1(aj:Nat->Fn):Fn:=cz (aR 1 4 (ao (vt 1)
 (ao (iy (iE 1 (vF 0)) (gq [2,3])
  (fW (tB aK)
  (Qm 1 aK (vF 2))
  bZ))
 (bw (vF 1)))))
theorem w1:cN (n+1) 1=t1 (cN n):=rfl
def t2(aj:Nat->Fn):Fn:=cz (aR 1 1 (bw (Bg (0) (jj (eY (tD (aI M.P.tab 0 (vF 0))) 2 [] (setG 1) tu aK)))))
theorem w2:cN (n+1) 2=t2 (cN n):=rfl
def t3(aj:Nat->Fn):Fn:=cz (aR 1 2 (ao (aZ 1 (J4 splitM (vF 0) (k1 (cS [10]))))
 (ao (fW (dF (oE (oI (vF 1) (kN xx (cI 1))) (cS [])))
  (bw (eg iO (k2 (MJ (vF 1) MI (Hm (kN xx (cI 1)))) (cF (.bl true)))))
  bZ)
 (bw (eg iO (k2 (vF 1) (cF (.bl false))))))))
theorem w3:cN (n+1) 3=t3 (cN n):=rfl
def t4(aj:Nat->Fn):Fn:=cz (aR 1 3 (ao (aZ 1 (bj (aj 5) [] (k1 (oI (bj (aj 3) [] (k1 (vF 0))) (cI 0)))))
 (ao (aZ 2 (bj (aj 6) [] (k1 (vF 1))))
 (ao (bq (bj (aj 7) [] (k2 (vF 1) (vF 2))))
 (bw (kN (JL 0) (vF 1)))))))
theorem w4:cN (n+1) 4=t4 (cN n):=rfl
def t5(aj:Nat->Fn):Fn:=cz (aR 1 4 (ao (pS 1 (lR aU))
 (ao (iy (iE 1 (vF 0)) (gq [2,3])
  (ao (fW (dF (dD (bx .Gt) (vF 2) aK))
  dc
  bZ)
 (iQ 1 aK)))
 (bw (vF 1)))))
theorem w5:cN (n+1) 5=t5 (cN n):=rfl
def t6(aj:Nat->Fn):Fn:=cz (aR 1 4 (ao (vt 1)
 (ao (iy (iE 1 (vF 0)) (gq [2,3])
  (fW (tB aK)
  (ao (fW (dF (MV .In false 1 aK))
  dc
  bZ)
 (Qm 1 aK (cF (.bl true))))
  bZ))
 (bw (vF 1)))))
theorem w6:cN (n+1) 6=t6 (cN n):=rfl
def t7(aj:Nat->Fn):Fn:=cz (aR 2 4 (iy (iE 1 (vF 0)) (gq [2,3])
  (fW (JJ (tB aK) (dF (dD (bx .NotIn) aK (vF 1))))
  dc
  bZ)))
theorem w7:cN (n+1) 7=t7 (cN n):=rfl
def t8(aj:Nat->Fn):Fn:=cz (aR 1 1 (bw (qO (kN (MR "int") (vF 0)) (JK (kN (MR "bool") (vF 0))))))
theorem w8:cN (n+1) 8=t8 (cN n):=rfl
def t9(aj:Nat->Fn):Fn:=cz (aR 1 3 (ao (aZ 1 (cS Q9))
 (ao (aZ 2 (oM (vF 0) (cI 120)))
 (ao (fW (dF (dD (bx .Lt) (vF 2) (eg kC (k1 (vF 1)))))
  (bw (oI (vF 1) (vF 2)))
  bZ)
 (bw (cS [10]))))))
theorem w9:cN (n+1) 9=t9 (cN n):=rfl
def Xk(aj:Nat->Fn):Fn:=cz (aR 2 6 (ao (aZ 2 (oM (vF 0) (cI 4)))
 (ao (fW (dF (oE (oM (oD (vF 0) (cI 4)) (cI 9)) (cI 1)))
  (aZ 2 (oM (oD (vF 0) (cI 36)) (cI 31)))
  bZ)
 (ao (aZ 3 (oM (oD (vF 0) (cI 36)) (dD (gE .Pow) (cI 10) (cI 60))))
 (ao (aZ 4 (cS []))
 (ao (iy (DK tF (k1 (eg Ll (k2 (vF 2) (vF 1))))) (setG 5)
  (ao (aZ 4 (oA (vF 4) (bj (aj 9) [] (k1 (oA (vF 3) (dD (gE .Mult) (vF 5) (vF 5)))))))
 (aZ 3 (oD (vF 3) (cI 120)))))
 (bw (vF 4))))))))
theorem RO:cN (n+1) 10=Xk (cN n):=rfl
def ZP(aj:Nat->Fn):Fn:=cz (aR 2 4 (ao (pS 2 (lR aU))
 (ao (iy (tD (vF 1)) (setG 3)
  (fW (dF (oE (vF 3) (cS [10])))
  (ao (iQ 2 (vF 0))
 (aZ 0 (cS [])))
  (aZ 0 (oA (vF 0) (vF 3)))))
 (bw (eg iO (k2 (vF 2) (vF 0)))))))
theorem ZQ:cN (n+1) 11=ZP (cN n):=rfl
def ZR(aj:Nat->Fn):Fn:=cz (aR 2 2 (bw (qO (kN (MR "list") (vF 0)) (qO (eg DZ (k1 (jj (eY (tD (vF 0)) 2 [] (setG 1) tu (kN (MR "str") (vF 1)))))) (oE (vF 0) (vF 1))))))
theorem ZS:cN (n+1) 12=ZR (cN n):=rfl
def ZT(aj:Nat->Fn):Fn:=aR 2 4 (ao (aZ 2 (eg lN aU))
 (ao (jA (Lq (tB (vF 1)) (yn 4 (aj 33) (vF 0) (k1 (cS [97,10]))) (yn 4 (aj 34) (vF 0) aU)) (vI 3 2 [true,true,false,false,false,false,false,false,false]))
 (bw (oE (vF 2) (eg lN (cJ (cF (.bl true)) (cJ (cF (.bl true)) (cJ (cF (.bl false)) (cJ (cF (.bl false)) (cJ (cF (.bl false)) (cJ (cF (.bl false)) (k3 (cF (.bl false)) (cF (.bl false)) (cF (.bl false))))))))))))))
theorem ZU:cN (n+1) 13=ZT (cN n):=rfl
def ZV(aj:Nat->Fn):Fn:=aR 1 2 (ao (aZ 1 (cF (.bl false)))
 (ao (jA (yn 4 (aj 33) (vF 0) (k1 (cS []))) (aZ 1 (cF (.bl true))))
 (bw (vF 1))))
theorem ZW:cN (n+1) 14=ZV (cN n):=rfl
def ZX(aj:Nat->Fn):Fn:=cz (aR 1 12 (ao (aZ 1 (ny 4 (aj 32) (k1 (bj (aj 4) [] (k1 (cS []))))))
 (ao (aZ 2 (cI 190))
 (ao (aZ 3 (cS []))
 (ao (pS 4 (lR aU))
 (ao (iy (tD (vF 0)) (setG 5)
  (ao (aZ 7 (bj (aj 10) [] (k2 (vF 5) (vF 2))))
 (ao (aZ 2 (dD (gE .Sub) (vF 2) (eg kC (k1 (vF 7)))))
 (ao (qQ (gq [11,3]) (bj (aj 11) [] (k2 (vF 3) (vF 7))))
 (ao (rH M.bc 8 (aH (aD [(4,33)] aj) (vF 1) (k1 (vF 7))))
 (ao (fW (g_ (tB (kg (aj 12) 8 (vF 11))))
  (bw (cF (.bl false)))
  bZ)
 (ao (aZ 9 (aH (aD [(4,40)] aj) (vF 1) aU))
 (ao (fW (sf (g_ (tB (bj (aj 8) [] (k1 (vF 9))))) (sf (dF (dD (bx .NotEq) (vF 9) (cI 0))) (sf (dF (dD (bx .NotEq) (aH (aD [(4,38)] aj) (vF 1) aU) (cF (.c8 [] [])))) (dF (dD (bx .NotEq) (aH (aD [(4,39)] aj) (vF 1) aU) (eg lN aU))))))
  (bw (cF (.bl false)))
  bZ)
 (ao (fW (dF (oE (oM (vF 5) (cI 5)) (cI 1)))
  (iQ 8 (cS [97,32,114,111,119,32,109,111,114,101]))
  bZ)
 (iQ 4 (eg iO (k2 (vF 8) (eg lW (k1 (vF 8)))))))))))))))
 (ao (rH M.bc 6 (aH (aD [(3,26),(4,34)] aj) (vF 1) aU))
 (ao (fW (g_ (tB (kg (aj 12) 6 (jj (eY (tD (eg lN (k1 (vF 3)))) 2 [] (setG 1) (dF (dD (bx .NotEq) (vF 1) (cS []))) (vF 1))))))
  (bw (cF (.bl false)))
  bZ)
 (ao (fW (sf (g_ (tB (bj (aj 13) [] (k2 (vF 1) (cF (.bl true)))))) (sf (g_ (tB (bj (aj 13) [] (k2 (vF 1) (cF (.bl false)))))) (g_ (tB (bj (aj 14) [] (k1 (vF 1)))))))
  (bw (cF (.bl false)))
  bZ)
 (ao (iy (D5 (vF 4)) (gq [8,10])
  (fW (dF (dD (bx .NotEq) (vF 8) (vF 10)))
  (bw (cF (.bl false)))
  bZ))
 (bw (qO (oE (aH (aD [(4,38)] aj) (vF 1) aU) (cF (.c8 [] []))) (oE (aH (aD [(4,39)] aj) (vF 1) aU) (eg lN aU))))))))))))))
theorem ZY:cN (n+1) 15=ZX (cN n):=rfl
def ZZ(aj:Nat->Fn):Fn:=aR 3 3 (ao (aE M.P.tab 1 (vF 0) (vF 1))
 (ao (aE M.P.tab 2 (vF 0) (vF 2))
 (aE M.P.tab 3 (vF 0) (nE M.bc))))
theorem Z3:cN (n+1) 17=ZZ (cN n):=rfl
def Z4(aj:Nat->Fn):Fn:=aR 2 2 (ao (aE M.P.tab 4 (vF 0) (jj (eY (tD (vF 1)) 2 [] (setG 1) tu aK)))
 (aE M.P.tab 5 (vF 0) (nE M.bc)))
theorem Z5:cN (n+1) 18=Z4 (cN n):=rfl
def Z6(aj:Nat->Fn):Fn:=aR 3 6 (ao (pS 3 (lR aU))
 (ao (iy (iE 0 (aI M.P.tab 4 (vF 0))) (gq [4,5])
  (iQ 3 aK))
 (bw (vF 3))))
theorem Z7:cN (n+1) 19=Z6 (cN n):=rfl
def Z8(aj:Nat->Fn):Fn:=aR 2 2 (ao (aE M.P.tab 0 (vF 0) (eg lW (k1 (aI M.P.tab 0 (vF 1)))))
 (ao (aE M.P.tab 6 (vF 0) (bj (aj 1) [] (k1 (aI M.P.tab 0 (vF 0)))))
 (ao (aE M.P.tab 7 (vF 0) (ny 2 (aj 18) (k1 (aI M.P.tab 0 (vF 0)))))
 (ao (aE M.P.tab 8 (vF 0) (eg lN aU))
 (ao (aE M.P.tab 9 (vF 0) (cI 0))
 (ao (aE M.P.tab 10 (vF 0) (nE M.bc))
 (ao (aE M.P.tab 11 (vF 0) (cI 0))
 (ao (aE M.P.tab 12 (vF 0) (cF .non))
 (ao (aE M.P.tab 13 (vF 0) (cI 0))
 (ao (aE M.P.tab 14 (vF 0) (nE M.bc))
 (ao (aE M.P.tab 15 (vF 0) (nE M.bc))
 (ao (aE M.P.tab 16 (vF 0) (iF M.bc (lR aU)))
 (ao (aE M.P.tab 17 (vF 0) (iF M.bc (lR aU)))
 (ao (aE M.P.tab 18 (vF 0) (cF (.bl false)))
 (bq (aH (aD [(3,21)] aj) (vF 0) aU))))))))))))))))
theorem Z9:cN (n+1) 20=Z8 (cN n):=rfl
def Z_(aj:Nat->Fn):Fn:=aR 1 1 (ao (eA M.bc (aI M.P.tab 17 (vF 0)) (eg iO (k2 (cS [119,97,110,116]) (oA (aI M.P.tab 11 (vF 0)) (cI 1)))))
 (aE M.P.tab 18 (vF 0) (cF (.bl true))))
theorem Xl:cN (n+1) 21=Z_ (cN n):=rfl
def t22(aj:Nat->Fn):Fn:=aR 3 3 (bq (aH (aD [(3,23)] aj) (vF 0) (k2 (aI M.P.tab 1 (vF 1)) (aH (aD [(2,19)] aj) (aI M.P.tab 7 (vF 0)) (k2 (vF 1) (vF 2))))))
theorem w22:cN (n+1) 22=t22 (cN n):=rfl
def t23(aj:Nat->Fn):Fn:=aR 3 3 (ao (mi M.P.tab 11 gu (vF 0) (cI 1))
 (ao (eA M.bc (aI M.P.tab 17 (vF 0)) (eg iO (k2 (cS [116,97,107,101]) (aI M.P.tab 11 (vF 0)))))
 (ao (aE M.P.tab 12 (vF 0) (RX (dF (dD (bx .Is) (aI M.P.tab 12 (vF 0)) (cF .non))) (vF 1) (oA (oA (aI M.P.tab 12 (vF 0)) (cS [32])) (vF 1))))
 (ao (mi M.P.tab 13 gu (vF 0) (cI 1))
 (ao (aE M.P.tab 8 (vF 0) (vF 2))
 (ao (aE M.P.tab 10 (vF 0) (nE M.bc))
 (ao (aE M.P.tab 18 (vF 0) (cF (.bl false)))
 (jQ many (g_ (tB (aI M.P.tab 18 (vF 0))))
  (bq (aH (aD [(3,24)] aj) (vF 0) aU))))))))))
theorem w23:cN (n+1) 23=t23 (cN n):=rfl
def t24(aj:Nat->Fn):Fn:=aR 1 1 (fW (dF (oE (aI M.P.tab 9 (vF 0)) (eg kC (k1 (aI M.P.tab 0 (vF 0))))))
  (bq (aH (aD [(3,30)] aj) (vF 0) aU))
  (ao (mi M.P.tab 9 gu (vF 0) (cI 1))
 (bq aK)))
theorem w24:cN (n+1) 24=t24 (cN n):=rfl
def t25(aj:Nat->Fn):Fn:=aR 1 2 (ao (aZ 1 (bj (aj 0) [] (k1 (xK M.bc M.P.tab 17 (vF 0)))))
 (ao (aE M.P.tab 17 (vF 0) (iF M.bc (lR aU)))
 (bw (vF 1))))
theorem w25:cN (n+1) 25=t25 (cN n):=rfl
def t26(aj:Nat->Fn):Fn:=aR 1 2 (ao (bq (aH (aD [(3,27)] aj) (vF 0) aU))
 (ao (fW (dF (dD (bx .IsNot) (aI M.P.tab 12 (vF 0)) (cF .non)))
  (ao (bq (aH (aD [(3,30)] aj) (vF 0) aU))
 (bq (aH (aD [(3,27)] aj) (vF 0) aU)))
  bZ)
 (ao (eA M.bc (aI M.P.tab 17 (vF 0)) (eg iO (k1 (cS [101,110,100]))))
 (iy (tD (aI M.P.tab 0 (vF 0))) (setG 1)
  (fW (tB aK)
  (bq aK)
  bZ)))))
theorem w26:cN (n+1) 26=t26 (cN n):=rfl
def t27(aj:Nat->Fn):Fn:=aR 1 1 (eA M.bc (aI M.P.tab 17 (vF 0)) (eg iO (k2 (cS [110,111,110,101]) (oA (aI M.P.tab 11 (vF 0)) (cI 1)))))
theorem w27:cN (n+1) 27=t27 (cN n):=rfl
def t28(aj:Nat->Fn):Fn:=aR 2 2 (eA M.bc (aI M.P.tab 17 (vF 0)) (eg iO (k2 (cS [103,105,118,101]) (vF 1))))
theorem w28:cN (n+1) 28=t28 (cN n):=rfl
def t29(aj:Nat->Fn):Fn:=aR 1 1 (ao (eA M.bc (aI M.P.tab 17 (vF 0)) (eg iO (k1 (cS [111,118,101,114]))))
 (ao (aE M.P.tab 12 (vF 0) (cF .non))
 (ao (aE M.P.tab 13 (vF 0) (cI 0))
 (ao (aE M.P.tab 9 (vF 0) (cI 0))
 (bq (aH (aD [(3,21)] aj) (vF 0) aU))))))
theorem w29:cN (n+1) 29=t29 (cN n):=rfl
def t30(aj:Nat->Fn):Fn:=aR 1 1 (ao (bq (aH (aD [(3,28)] aj) (vF 0) (k1 (aI M.P.tab 12 (vF 0)))))
 (bq (aH (aD [(3,29)] aj) (vF 0) aU)))
theorem w30:cN (n+1) 30=t30 (cN n):=rfl
def t31(aj:Nat->Fn):Fn:=aR 1 3 (ao (aZ 1 (cI 0))
 (ao (vK M.bc (aI M.P.tab 14 (vF 0)))
 (bw (vF 1))))
theorem w31:cN (n+1) 31=t31 (cN n):=rfl
def t32(aj:Nat->Fn):Fn:=aR 2 2 (ao (aE M.P.tab 19 (vF 0) (ny 3 (aj 20) (k1 (vF 1))))
 (ao (aE M.P.tab 20 (vF 0) (bj (aj 2) [] (k1 (vF 1))))
 (ao (aE M.P.tab 21 (vF 0) (cI 0))
 (ao (aE M.P.tab 22 (vF 0) (iF M.bc (lR aU)))
 (ao (aE M.P.tab 23 (vF 0) (cS []))
 (aE M.P.tab 24 (vF 0) (cF (.bl false))))))))
theorem w32:cN (n+1) 32=t32 (cN n):=rfl
def t33(aj:Nat->Fn):Fn:=aR 2 4 (MZ 4 (aj 35) (vF 0)
 (Eu (ao (aZ 2 (J4 splitM (oA (aI M.P.tab 23 (vF 0)) (vF 1)) (k1 (cS [10]))))
 (ao (aE M.P.tab 23 (vF 0) (oI (vF 2) (kN xx (cI 1))))
 (ao (iy (tD (MJ (vF 2) MI (Hm (kN xx (cI 1))))) (setG 3)
  (bq (aH (aD [(4,36)] aj) (vF 0) (k1 (vF 3)))))
 (ao (bq (aH (aD [(4,37)] aj) (vF 0) (k1 (aI M.P.tab 20 (vF 0)))))
 (bw (aH (aD [(3,25)] aj) (aI M.P.tab 19 (vF 0)) aU))))))))
theorem Xm:cN (n+1) 33=t33 (cN n):=rfl
def t34(aj:Nat->Fn):Fn:=aR 1 1 (MZ 4 (aj 35) (vF 0)
 (Eu (ao (aE M.P.tab 24 (vF 0) (cF (.bl true)))
 (ao (fW (dF (dD (bx .NotEq) (aI M.P.tab 23 (vF 0)) (cS [])))
  (bq (aH (aD [(4,36)] aj) (vF 0) (k1 (aI M.P.tab 23 (vF 0)))))
  bZ)
 (ao (bq (aH (aD [(4,37)] aj) (vF 0) (k1 (cI 0))))
 (ao (bq (aH (aD [(3,26),(4,34)] aj) (aI M.P.tab 19 (vF 0)) aU))
 (bw (aH (aD [(3,25)] aj) (aI M.P.tab 19 (vF 0)) aU))))))))
theorem Xn:cN (n+1) 34=t34 (cN n):=rfl
def t35(aj:Nat->Fn):Fn:=aR 1 1 (xF (tB (aI M.P.tab 24 (vF 0)))
 (Eu bZ))
theorem Xo:cN (n+1) 35=t35 (cN n):=rfl
def t36(aj:Nat->Fn):Fn:=aR 2 2 (ao (mi M.P.tab 21 gu (vF 0) (cI 1))
 (eA M.bc (aI M.P.tab 22 (vF 0)) (ny 1 (aj 17) (k2 (vF 1) (aI M.P.tab 21 (vF 0))))))
theorem w36:cN (n+1) 36=t36 (cN n):=rfl
def t37(aj:Nat->Fn):Fn:=aR 2 3 (jQ many (dF (dD (bx .Gt) (j_ M.bc (aI M.P.tab 22 (vF 0))) (vF 1)))
  (ao (aZ 2 (kc M.bc (aI M.P.tab 22 (vF 0))))
 (bq (aH (aD [(3,22)] aj) (aI M.P.tab 19 (vF 0)) (k2 (vF 2) (xP M.bc (aI M.P.tab 22 (vF 0)) MI (Hm (aI M.P.tab 20 (vF 0)))))))))
theorem w37:cN (n+1) 37=t37 (cN n):=rfl
def t38(aj:Nat->Fn):Fn:=aR 1 1 (bw (EA M.bc (aI M.P.tab 15 (aI M.P.tab 19 (vF 0)))))
theorem w38:cN (n+1) 38=t38 (cN n):=rfl
def t39(aj:Nat->Fn):Fn:=aR 1 1 (bw (EB M.bc (aI M.P.tab 16 (aI M.P.tab 19 (vF 0)))))
theorem w39:cN (n+1) 39=t39 (cN n):=rfl
def t40(aj:Nat->Fn):Fn:=aR 1 1 (bw (oA (oA (j_ M.bc (aI M.P.tab 22 (vF 0))) (aI M.P.tab 13 (aI M.P.tab 19 (vF 0)))) (aH (aD [(3,31)] aj) (aI M.P.tab 19 (vF 0)) aU)))
theorem w40:cN (n+1) 40=t40 (cN n):=rfl
end K41
namespace K41
open D
variable(n:Nat){m:List _root_.D.Ob}
section
variable{a:FE}{fl:FL}{s s' s1 s2:S}{t:T}{ts:Fs}
theorem uv{α:Type}{l:List α}{j:Nat}(h:j<l.length):atT l (j:Int)=l[j]?:=by
 unfold atT;rw[if_pos (by omega),if_pos (by omega)];rfl
theorem bK(h:a s=.ok (t,s1))(h2:fl s1=.ok (ts,s2)):cJ a fl s=.ok (t::ts,s2):=by
 unfold cJ;rw[h];show Res.bind (fl s1) _=_;rw[h2];rfl
theorem xY{i:Nat}(h:a s=.ok (t,s')):aZ i a s=.ok (.nx,i7 s' i (.val t)):=by unfold aZ;rw[h];rfl
end
theorem Vv(a b:B1):bx .Eq (.str a) (.str b)=some (.bl (decide (a=b))):=rfl
theorem Vw(a b:Int):bx .Gt (.int a) (.int b)=some (.bl (decide (b<a))):=rfl
theorem Q_(a b:Int):bx .Lt (.int a) (.int b)=some (.bl (decide (a<b))):=rfl
theorem mD{g:FG}{e:FE}{b:Fh}{m:FR}{f:T->T}:∀{ts:Fs},(∀t∈ts,∃b1 b2,g t b=some b1/\e ⟨b1,m⟩=.ok (f t,⟨b2,m⟩))->dJ g tu e b ts m=.ok (ts.map f,m)
 |[],_=>rfl
 |t::ts,h=>by
  obtain⟨b1,b2,h1,h2⟩:=h t (dj ..);unfold dJ;rw[h1];show Res.bind (e ⟨b1,m⟩) _=_;rw[h2];show Res.bind (dJ g tu e b ts m) _=_;rw[mD λt ht=>h t (dm _ ht)];rfl
theorem Ij{src:FL}{n:Nat}{js:B1}{g:FG}{c:FT}{e:FE}{s s1:S}{ts us:Fs}{m':FR}(h:src s=.ok (ts,s1))(z:ts.length<=1000000)(q:dJ g c e (iP n js (jP js s1.r)) ts s1.m=.ok (us,m')):eY src n js g c e s=.ok (us,⟨jP js s1.r,m'⟩):=by
 unfold eY;rw[h];show(if ts.length<=1000000 then _ else _)=_
 rw[if_pos z,q];rfl
theorem Ra{fl:FL}{s s':S}{ts:Fs}(h:fl s=.ok (ts,s')):jj fl s=.ok (.lst ts,s'):=by unfold jj;rw[h];rfl
theorem kG{g:Fs->FK}{fl:FL}{s s':S}{ts:Fs}{t:T}(h:fl s=.ok (ts,s'))(q:g ts=some t):eg g fl s=.ok (t,s'):=by unfold eg;rw[h];show Res.bind (aT (g ts)) _=_;rw[q];rfl
theorem bu{g:T->T->FK}{a b:FE}{s s1 s2:S}{t u v:T}(h:a s=.ok (t,s1))(h2:b s1=.ok (u,s2))(k:g t u=some v):dD g a b s=.ok (v,s2):=by
 unfold dD;rw[h];refine Eq.trans (dz _ _) ?_;dsimp only;rw[h2];refine Eq.trans (dz _ _) ?_;dsimp only;rw[k];rfl
theorem Fj{g:FG}{b:FS}{t:T}{ts:Fs}{s s1:S}{r:Fh}{q:Res (Out×S)}(h:g t s.r=some r)(hb:b ⟨r,s.m⟩=.ok (.nx,s1))(k:dg g b ts s1=q):dg g b (t::ts) s=q:=by
 unfold dg;rw[h];refine Eq.trans (dz _ _) ?_;rw[hb];exact k
theorem Vx{src:FL}{g:FG}{b:FS}{s s1:S}{ts:Fs}{q:Res (Out×S)}(h:src s=.ok (ts,s1))(k:dg g b ts s1=q):iy src g b s=q:=by unfold iy;rw[h];exact k
theorem Mj{i:Nat}{a:FE}{s s1:S}{K2 ts:Fs}{t:T}(h0:s.r[i]?=some (some (.ol K2)))(h:a s=.ok (t,s1))(h2:s1.r[i]?=some (some (.ol ts)))(z:ts.length<1000000):iQ i a s=.ok (.nx,i7 s1 i (.ol (ts++[t]))):=by
 unfold iQ;rw[h0];refine Eq.trans (dz K2 _) ?_;rw[h];refine Eq.trans (dz _ _) ?_;dsimp only;rw[h2];refine Eq.trans (dz ts _) ?_;rw[xV z];rfl
theorem W.eq{α:Type}{x:Res α}{v:α}(h:W x λa=>a=v):x=.ok v:=by
 obtain⟨a,e,rfl⟩:=h;exact e
theorem oQ{src:FL}{g:FG}{b:FS}{s:S}{QS:Out×S->Prop}(h:W (src s) λp=>W (dg g b p.1 p.2) QS):W (iy src g b s) QS:=W.bind h
theorem ie{np n:Nat}{B:FS}{ts:Fs}{G:T×FR->Prop}(h:ts.length=np)(k:W (B ⟨ts.map (λt=>sv t)++cj (n-ts.length) none,m⟩) λp=>p.1=.nx/\G (.non,p.2.m)):W (aR np n B ts m) G:=by
 unfold aR;rw[if_pos h];exact W.bind (k.mono λp ⟨e,k⟩=>⟨_,by rw[e],k⟩)
theorem xZ{c:FT}{s s':S}(h:c s=.ok (true,s')):g_ c s=.ok (false,s'):=by unfold g_;rw[h];rfl
theorem orN{c d:FT}{s s1:S}{q:Res (Bool×S)}(h:c s=.ok (false,s1))(h2:d s1=q):sf c d s=q:=by unfold sf;rw[h];exact h2
theorem Fo{c:Nat}{g:Fn}{fl:FL}{s s':S}{ts:Fs}{m':FR}(h:fl s=.ok (ts,s'))(k:g (.own s'.m.length::ts) (s'.m++[⟨c,[]⟩])=.ok (.non,m')):ny c g fl s=.ok (.own s'.m.length,⟨s'.r,m'⟩):=by
 unfold ny;rw[h];refine Eq.trans (dz _ _) ?_;dsimp only;rw[k]
section
variable{s:S}{a:FE}{t:T}{i:Nat}{A B E:FS}{c:FT}{G:T×FR->Prop}{QS:Out×S->Prop}
theorem bS(e:a s=.ok (t,s))(h:WB B (i7 s i (.val t)) G):WB (ao (aZ i a) B) s G:=Vu e h
theorem bN(e:c s=.ok (false,s))(h:WB B s G):WB (ao (fW c A bZ) B) s G:=ZO e h
theorem bY(e:c s=.ok (true,s))(h:WB A s G):WB (ao (fW c A B) E) s G:=ZN e h
theorem bI(e:c s=.ok (true,s))(e2:a s=.ok (t,s))(h:WB B (i7 s i (.val t)) G):WB (ao (fW c (aZ i a) bZ) B) s G:=gi (xW e (W.of (xY e2) ⟨rfl,h⟩))
theorem bR(e:a s=.ok (t,s))(h:G (t,s.m)):WB (bw a) s G:=Sd e h
theorem sEq{np n:Nat}{b:FS}{ts:Fs}(h:bD ts=true)(hl:ts.length=np)(ht:noOwn t=true)(k:WB b ⟨ts.map (λt=>sv t)++cj (n-ts.length) none,[]⟩ λp=>p.1=t):cz (aR np n b) ts m=.ok (t,m):=W.eq (Ii h ((B3 hl k).mono λp hp=>⟨by rw[hp];exact ht,by rw[hp]⟩))
theorem cE{g:Fn}{fl:FL}{ts:Fs}(h:fl s=.ok (ts,s))(k:g ts s.m=.ok (t,s.m)):bj g [] fl s=.ok (t,s):=BZ h (by rw[fh];exact k)
theorem mE{g:Nat->Option Fn}{o:FE}{fl:FL}{k:Nat}{ob:Ob}{f:Fn}{ts:Fs}{m':FR}(h:o s=.ok (.own k,s))(hm:s.m[k]?=some ob)(hg:g ob.c=some f)(ha:fl s=.ok (ts,s))(hc:f (.own k::ts) s.m=.ok (t,m')):aH g o fl s=.ok (t,⟨s.r,m'⟩):=B0 h hm hg ha hc
theorem dE{m':FR}(h:a s=.ok (t,⟨s.r,m'⟩))(k:QS (.nx,⟨s.r,m'⟩)):W (bq a s) QS:=⟨_,by unfold bq;rw[h];rfl,k⟩
theorem wS(e:a s=.ok (t,s))(h:W (B (i7 s i (.val t))) QS):W (ao (aZ i a) B s) QS:=iB (W.of (xY e) ⟨rfl,h⟩)
theorem oR{gg:FG}{ts:Fs}{r:Fh}(h:gg t s.r=some r)(k:W (B ⟨r,s.m⟩) λp=>p.1=.nx/\W (dg gg B ts p.2) QS):W (dg gg B (t::ts) s) QS:=by
 obtain⟨⟨o,s1⟩,e,rfl,p,e2,q⟩:=k;exact⟨p,Fj h e e2,q⟩
theorem Ik{b:Bool}(h:a s=.ok (.bl b,s)):D.tB a s=.ok (b,s):=by unfold D.tB;rw[h];rfl
theorem sA{b:Bool}(h:a s=.ok (.bl b,s)):D.dF a s=.ok (b,s):=by unfold D.dF;rw[h];rfl
theorem Vy{g:Fs->Fm}{fl:FL}{s s1:S}{ts us:Fs}(h:fl s=.ok (ts,s1))(k:g ts=some us):DK g fl s=.ok (us,s1):=by
 unfold DK;rw[h];refine Eq.trans (dz _ _) ?_;dsimp only;rw[k];rfl
theorem slE{lo hi:FO}{u:T}{x y:D2}(ha:a s=.ok (t,s))(hl:lo s=.ok (x,s))(hh:hi s=.ok (y,s))(h:RW x y t=some u):MJ a lo hi s=.ok (u,s):=by
 unfold MJ;rw[ha];refine Eq.trans (dz _ _) ?_;dsimp only;rw[hl];refine Eq.trans (dz _ _) ?_;dsimp only;rw[hh];refine Eq.trans (dz _ _) ?_;dsimp only;rw[h];rfl
theorem Se{ts:Fs}(h:a s=.ok (t,s))(k:RY t=some ts):tD a s=.ok (ts,s):=by
 unfold tD;rw[h];refine Eq.trans (dz _ _) ?_;dsimp only;rw[k];rfl
theorem Xp{src:FL}{n:Nat}{js:B1}{g:FG}{e:FE}{ts us:Fs}(h:src s=.ok (ts,s))(z:ts.length<=1000000)(hf:jP js s.r=s.r)(q:dJ g c e (iP n js s.r) ts s.m=.ok (us,s.m)):jj (eY src n js g c e) s=.ok (.lst us,s):=by
 have:=Ra (Ij (n:=n) (js:=js) (g:=g) (c:=c) (e:=e) (us:=us) (m':=s.m) h z (by rw[hf];exact q))
 rw[hf]at this;exact this
theorem pE(h:a s=.ok (t,s)){b:FE}{u v:T}{g:T->T->FK}(h2:b s=.ok (u,s))(k:g t u=some v):dD g a b s=.ok (v,s):=bu h h2 k
theorem bm1{f:B1->Fs->FK}{o:FE}{fl:FL}{s s1 s2:S}{l:B1}{ts:Fs}{t:T}(h:o s=.ok (.str l,s1))(h2:fl s1=.ok (ts,s2))(h3:f l ts=some t):J4 f o fl s=.ok (t,s2):=by
 unfold J4;rw[h];refine Eq.trans (dz _ _) ?_;refine Eq.trans (dz _ _) ?_;dsimp only;rw[h2];refine Eq.trans (dz _ _) ?_;dsimp only;rw[h3];rfl
end
section
variable{a:FE}{s s1:S}{k kb nb f j:Nat}{ob:Ob}{t:T}{m:FR}{ks:List Ky}{ts:Fs}
theorem B4(h:a s=.ok (.own k,s1))(hm:s1.m[k]?=some ob)(hj:gD M.P.tab ob.c f=some j)(hf:ob.fs[j]?=sv t):aI M.P.tab f a s=.ok (t,s1):=by
 unfold aI;rw[h];refine Eq.trans (dz _ _) ?_;show Res.bind (aT ((s1.m[k]?).bind _)) _=_;rw[hm];show Res.bind (aT ((gD M.P.tab ob.c f).bind _)) _=_;rw[hj];show Res.bind (aT (ob.fs[j]?)) _=_;rw[hf];rfl
theorem Il(h:m[kb]?=some ⟨nb,[.od ks ts]⟩):nC nb m (.own kb)=some (kb,ks,ts):=by
 have e:rn nb m (.own kb)=some (kb,.od ks ts):=by
  show(m[kb]?).bind _=_;rw[h];exact if_pos rfl
 unfold nC;rw[e];rfl
theorem jF(h:m[kb]?=some ⟨nb,[.ol ts]⟩):kF nb m (.own kb)=some (kb,ts):=by
 have e:rn nb m (.own kb)=some (kb,.ol ts):=by
  show(m[kb]?).bind _=_;rw[h];exact if_pos rfl
 unfold kF;rw[e];rfl
end
structure WV where
 lines:Fs
 bm:T
 tl:Nat
 tr:T
 ps:Int
 mt:Nat
 tk:Int
 hand:T
 hr:Int
 sh:Nat
 su:Nat
 no:Nat
 lg:Nat
 wt:Bool
def WV.ob(v:WV):Ob:=⟨3,[.val (.lst v.lines),.val v.bm,.val (.own v.tl),.val v.tr,.val (.int v.ps),.val (.own v.mt),.val (.int v.tk),.val v.hand,.val (.int v.hr),.val (.own v.sh),.val (.own v.su),.val (.own v.no),.val (.own v.lg),.val (.bl v.wt)]⟩
structure WS(m:FR)(w:Nat)(v:WV)(log:Fs):Prop where
 o:m[w]?=some v.ob
 l:m[v.lg]?=some ⟨M.bc,[.ol log]⟩
 ne:v.lg≠w
 nY:log.length<900000
structure Fr(X:Nat->Prop)(m m':FR):Prop where
 le:m.length<=m'.length
 at_:∀k,k<m.length->¬ X k->m'[k]?=m[k]?
theorem Fr.trans{X:Nat->Prop}{m m1 m2:FR}(a:Fr X m m1)(b:Fr X m1 m2):Fr X m m2:=⟨il a.le b.le,λk h x=>(b.at_ k (gy h a.le) x).trans (a.at_ k h x)⟩
theorem Fr.set{X:Nat->Prop}{k:Nat}{ob:Ob}(h:X k):Fr X m (m.set k ob):=⟨by rw[dH];exact cC _,λj _ x=>gF λ(z:k=j)=>x (z▸h)⟩
def WX(w:Nat)(v:WV)(k:Nat):Prop:=k=w\/k=v.lg
section
variable{m:FR}{w f j:Nat}{v v':WV}{log:Fs}{r:Fh}{a:FE}{t:T}{s:S}
theorem WS.app(S':WS m w v log)(h:(log++[t]).length<900000):WS (m.set v.lg ⟨M.bc,[.ol (log++[t])]⟩) w v (log++[t]):=
 ⟨by rw[gF S'.ne];exact S'.o,c9 (eT.mp S'.l).1,S'.ne,h⟩
theorem WS.fld(S':WS m w v log)(h:v'.lg=v.lg):WS (m.set w v'.ob) w v' log:=
 ⟨c9 (eT.mp S'.o).1,by rw[h,gF (Ne.symm S'.ne)];exact S'.l,by rw[h];exact S'.ne,S'.nY⟩
theorem w_fld(S':WS m w v log)(hj:gD M.P.tab 3 f=some j)(hf:v.ob.fs[j]?=sv t):aI M.P.tab f (vF 0) ⟨sv (.own w)::r,m⟩=.ok (t,⟨sv (.own w)::r,m⟩):=B4 (k:=w) rfl S'.o hj hf
theorem wa(S':WS m w v log)(ha:a ⟨sv (.own w)::r,m⟩=.ok (t,⟨sv (.own w)::r,m⟩)):eA M.bc (aI M.P.tab 17 (vF 0)) a ⟨sv (.own w)::r,m⟩=.ok (.nx,⟨sv (.own w)::r,m.set v.lg ⟨M.bc,[.ol (log++[t])]⟩⟩):=by
 unfold eA;rw[w_fld S' (j:=12) (t:=.own v.lg) rfl rfl];refine Eq.trans (dz _ _) ?_;show Res.bind (aT (kF M.bc m (.own v.lg))) _=_;rw[jF S'.l];refine Eq.trans (dz _ _) ?_;show Res.bind (a ⟨sv (.own w)::r,m⟩) _=_;rw[ha];refine Eq.trans (dz _ _) ?_;show Res.bind (aT (kF M.bc m (.own v.lg))) _=_;rw[jF S'.l];refine Eq.trans (dz _ _) ?_;show Res.bind (aT (gd (log.length<1000000) ())) _=_;rw[xV (by have:=S'.nY;omega)]
 rfl
theorem Im(S':WS m w v log)(ha:a ⟨sv (.own w)::r,m⟩=.ok (t,⟨sv (.own w)::r,m⟩))(hp:cy M.P.tab f (.val t) v.ob=some v'.ob):aE M.P.tab f (vF 0) a ⟨sv (.own w)::r,m⟩=.ok (.nx,⟨sv (.own w)::r,m.set w v'.ob⟩):=by
 unfold aE;rw[ha];refine Eq.trans (dz _ _) ?_;show Res.bind (aT ((m[w]?).bind _)) _=_;rw[S'.o];show Res.bind (aT (cy M.P.tab f (.val t) v.ob)) _=_;rw[hp];rfl
theorem Ml{aj:Nat->Fn}{i:Nat}{fl:FL}{ts:Fs}{Q:T×FR->Prop}(S':WS m w v log)(ha:fl ⟨sv (.own w)::r,m⟩=.ok (ts,⟨sv (.own w)::r,m⟩))(hc:W (aj i (.own w::ts) m) Q):W (bq (aH (aD [(3,i)] aj) (vF 0) fl) ⟨sv (.own w)::r,m⟩) λp=>p.1=.nx/\p.2.r=sv (.own w)::r/\∃u,Q (u,p.2.m):=by
 obtain⟨⟨u,m'⟩,e,q⟩:=hc;have e1:aH (aD [(3,i)] aj) (vF 0) fl ⟨sv (.own w)::r,m⟩=.ok (u,⟨sv (.own w)::r,m'⟩):=B0 (k:=w) (ob:=v.ob) (s1:=⟨sv (.own w)::r,m⟩) (s2:=⟨sv (.own w)::r,m⟩) rfl S'.o rfl ha e;refine⟨(.nx,⟨sv (.own w)::r,m'⟩),?_,rfl,rfl,u,q⟩;unfold bq;rw[e1];rfl
theorem Rb(S':WS m w v log)(hj:gD M.P.tab 3 f=some j)(hf:v.ob.fs[j]?=sv (.int i))(hv:(⟨3,v.ob.fs.set j (.val (.int (i+1)))⟩:Ob)=v'.ob):mi M.P.tab f gu (vF 0) (cI 1) ⟨sv (.own w)::r,m⟩=.ok (.nx,⟨sv (.own w)::r,m.set w v'.ob⟩):=by
 have e:e9 M.P.tab f m (.own w)=some (w,v.ob,j,.val (.int i)):=by
  show(m[w]?).bind _=_;rw[S'.o];show(gD M.P.tab 3 f).bind _=_;rw[hj];show(v.ob.fs[j]?).map _=_;rw[hf];rfl
 unfold mi;show Res.bind (aT (e9 M.P.tab f m (.own w))) _=_;rw[e];refine Eq.trans (dz _ _) ?_;show Res.bind (aT (e9 M.P.tab f m (.own w))) _=_;rw[e];refine Eq.trans (dz _ _) ?_;show Res.bind (aT (gd (v.ob.c=v.ob.c) ())) _=_;rw[xV rfl];show Res.ok (Out.nx,(⟨sv (.own w)::r,m.set w ⟨v.ob.c,v.ob.fs.set j (.val (.int (i+1)))⟩⟩:S))=_;rw[show v.ob.c=3 from rfl,hv]
theorem Mm{B:FS}{Q:Out×S->Prop}(S':WS m w v log)(hl:log.length+1<900000)(ha:a ⟨sv (.own w)::r,m⟩=.ok (t,⟨sv (.own w)::r,m⟩))(k:∀m',WS m' w v (log++[t])->Fr (WX w v) m m'->W (B ⟨sv (.own w)::r,m'⟩) Q):W (ao (eA M.bc (aI M.P.tab 17 (vF 0)) a) B ⟨sv (.own w)::r,m⟩) Q:=iB (W.of (wa S' ha) ⟨rfl,k _ (S'.app (by simpa using hl)) (Fr.set (.inr rfl))⟩)
theorem x8{B:FS}{Q:Out×S->Prop}(S':WS m w v log)(v':WV)(hg:v'.lg=v.lg)(ha:a ⟨sv (.own w)::r,m⟩=.ok (t,⟨sv (.own w)::r,m⟩))(hp:cy M.P.tab f (.val t) v.ob=some v'.ob)(k:∀m',WS m' w v' log->Fr (WX w v) m m'->W (B ⟨sv (.own w)::r,m'⟩) Q):W (ao (aE M.P.tab f (vF 0) a) B ⟨sv (.own w)::r,m⟩) Q:=iB (W.of (Im S' ha hp) ⟨rfl,k _ (S'.fld hg) (Fr.set (.inl rfl))⟩)
theorem Rf{i:Int}{B:FS}{Q:Out×S->Prop}(S':WS m w v log)(v':WV)(hg:v'.lg=v.lg)(hj:gD M.P.tab 3 f=some j)(hf:v.ob.fs[j]?=sv (.int i))(hv:(⟨3,v.ob.fs.set j (.val (.int (i+1)))⟩:Ob)=v'.ob)(k:∀m',WS m' w v' log->Fr (WX w v) m m'->W (B ⟨sv (.own w)::r,m'⟩) Q):W (ao (mi M.P.tab f gu (vF 0) (cI 1)) B ⟨sv (.own w)::r,m⟩) Q:=iB (W.of (Rb S' hj hf hv) ⟨rfl,k _ (S'.fld hg) (Fr.set (.inl rfl))⟩)
theorem x9{aj:Nat->Fn}{i:Nat}{fl:FL}{ts:Fs}{R:T×FR->Prop}{Q:Out×S->Prop}(S':WS m w v log)(ha:fl ⟨sv (.own w)::r,m⟩=.ok (ts,⟨sv (.own w)::r,m⟩))(hc:W (aj i (.own w::ts) m) R)(k:∀u m',R (u,m')->Q (.nx,⟨sv (.own w)::r,m'⟩)):W (bq (aH (aD [(3,i)] aj) (vF 0) fl) ⟨sv (.own w)::r,m⟩) Q:=by
 refine(Ml (r:=r) S' ha hc).mono λp hp=>?_;obtain⟨h1,h2,u,h4⟩:=hp;obtain⟨o,pr,pm⟩:=p;cases h1;cases h2;exact k u pm h4
def WR(w:Nat)(v0 v:WV)(log:Fs)(m0:FR)(p:T×FR):Prop:=p.1=.non/\WS p.2 w v log/\Fr (WX w v0) m0 p.2
abbrev c6(i:Int):T:=.tup [.str [119,97,110,116],.int (i+1)]
theorem Fp(S':WS m w v log)(hl:log.length+1<900000):W (cN (n+1) 21 [.own w] m) (WR w v {v with wt:=true} (log++[c6 v.tk]) m):=by
 rw[Xl];have S1:=S'.app (t:=c6 v.tk) (by simpa using hl)
 have S2:=S1.fld (v':={v with wt:=true}) rfl
 refine ie rfl (iB (W.of (wa S' (t:=c6 v.tk) (r:=[]) ?_) ⟨rfl,W.of (Im S1 (t:=.bl true) (v':={v with wt:=true}) rfl rfl) ⟨rfl,rfl,S2,(Fr.set (.inr rfl)).trans (Fr.set (.inl rfl))⟩⟩))
 exact kG (bK (t:=.str [119,97,110,116]) rfl (bK (bu (w_fld S' (j:=6) (t:=.int v.tk) rfl rfl) rfl rfl) rfl)) rfl
theorem Fq(S':WS m w v log)(hl:log.length+1<900000):W (cN (n+1) 28 [.own w,t] m) (WR w v v (log++[.tup [.str [103,105,118,101],t]]) m):=by
 rw[w28];have S1:=S'.app (t:=.tup [.str [103,105,118,101],t]) (by simpa using hl)
 refine ie rfl (W.of (wa S' (t:=.tup [.str [103,105,118,101],t]) (r:=[sv t]) ?_) ⟨rfl,rfl,S1,Fr.set (.inr rfl)⟩);exact kG (bK (t:=.str [103,105,118,101]) rfl (bK (t:=t) rfl rfl)) rfl
theorem Fu(S':WS m w v log)(hl:log.length+1<900000):W (cN (n+1) 27 [.own w] m) (WR w v v (log++[.tup [.str [110,111,110,101],.int (v.tk+1)]]) m):=by
 rw[w27];have S1:=S'.app (t:=.tup [.str [110,111,110,101],.int (v.tk+1)]) (by simpa using hl)
 refine ie rfl (W.of (wa S' (t:=.tup [.str [110,111,110,101],.int (v.tk+1)]) (r:=[]) ?_) ⟨rfl,rfl,S1,Fr.set (.inr rfl)⟩);exact kG (bK (t:=.str [110,111,110,101]) rfl (bK (bu (w_fld S' (j:=6) (t:=.int v.tk) rfl rfl) rfl rfl) rfl)) rfl
end
section
variable{m:FR}{w f j:Nat}{v v':WV}{log:Fs}{r:Fh}{a:FE}{t:T}{s:S}
abbrev mF:T:=.tup [.str [111,118,101,114]]
abbrev oS(t:T):T:=.tup [.str [103,105,118,101],t]
theorem Fv(S':WS m w v log)(hl:log.length+2<900000):W (cN (n+2) 29 [.own w] m) (WR w v {v with hand:=.non,hr:=0,ps:=0,wt:=true} (log++[mF]++[c6 v.tk]) m):=by
 rw[w29];refine ie rfl (Mm (r:=[]) (t:=mF) S' (by omega) rfl λm1 S1 F1=>x8 S1 {v with hand:=.non} rfl rfl rfl λm2 S2 F2=>x8 S2 {v with hand:=.non,hr:=0} rfl rfl rfl λm3 S3 F3=>x8 S3 {v with hand:=.non,hr:=0,ps:=0} rfl rfl rfl λm4 S4 F4=>x9 S4 rfl (Fp n S4 (by simp;omega)) λ_ m5 h=>⟨rfl,rfl,h.2.1,(((F1.trans F2).trans F3).trans F4).trans h.2.2⟩)
theorem Fw(S':WS m w v log)(hl:log.length+3<900000):W (cN (n+3) 30 [.own w] m) (WR w v {v with hand:=.non,hr:=0,ps:=0,wt:=true} (log++[oS v.hand]++[mF]++[c6 v.tk]) m):=by
 rw[w30];exact ie rfl (iB (x9 (r:=[]) (ts:=[v.hand]) S' (bK (w_fld S' (j:=7) rfl rfl) rfl) (Fq (n+1) S' (by omega)) λ_ m1 h=>⟨rfl,x9 h.2.1 rfl (Fv n h.2.1 (by simp;omega)) λ_ m2 h2=>⟨rfl,rfl,h2.2.1,h.2.2.trans h2.2.2⟩⟩))
end
theorem Rg(a b:Int):bx .Eq (.int a) (.int b)=some (.bl (decide (a=b))):=rfl
section
variable{m m1:FR}{w f j:Nat}{v v':WV}{log:Fs}{r:Fh}{a:FE}{t:T}{s:S}{x:B1}
theorem Mn(S':WS m1 w v log)(ha:a ⟨sv (.own w)::r,m⟩=.ok (t,⟨sv (.own w)::r,m1⟩))(hp:cy M.P.tab f (.val t) v.ob=some v'.ob):aE M.P.tab f (vF 0) a ⟨sv (.own w)::r,m⟩=.ok (.nx,⟨sv (.own w)::r,m1.set w v'.ob⟩):=by
 unfold aE;rw[ha];refine Eq.trans (dz _ _) ?_;show Res.bind (aT ((m1[w]?).bind _)) _=_;rw[S'.o];show Res.bind (aT (cy M.P.tab f (.val t) v.ob)) _=_;rw[hp];rfl
theorem mG{α:Type}{m:List α}{k:Nat}{ob x:α}(h:m[k]?=some ob):(m++[x])[k]?=some ob:=by
 rw[gI (eT.mp h).1];exact h
theorem WS.snoc{ob:Ob}(S':WS m w v log):WS (m++[ob]) w v log:=⟨mG S'.o,mG S'.l,S'.ne,S'.nY⟩
theorem Vz{B:FS}{Q:Out×S->Prop}(S':WS m w v log)(v':WV)(hg:v'.lg=v.lg)(hp:cy M.P.tab f (.val (.own m.length)) v.ob=some v'.ob)(k:∀m',WS m' w v' log->Fr (WX w v) m m'->m'[m.length]?=some ⟨M.bc,[.od [] []]⟩->W (B ⟨sv (.own w)::r,m'⟩) Q):W (ao (aE M.P.tab f (vF 0) (nE M.bc)) B ⟨sv (.own w)::r,m⟩) Q:=by
 have hw:w<m.length:=(eT.mp S'.o).1;have S1:WS (m++[⟨M.bc,[.od [] []]⟩]) w v log:=S'.snoc;refine iB (W.of (Mn S1 (t:=.own m.length) (v':=v') rfl hp) ⟨rfl,k _ (S1.fld hg) ⟨by simp,λj hj x=>?_⟩ ?_⟩)
 ·rw[gF λ(z:w=j)=>x (.inl z.symm),gI hj]
 ·rw[gF (by omega),fj (cC _),ki];rfl
abbrev wc(i:Int):T:=.tup [.str [116,97,107,101],.int i]
abbrev WV.rest(v:WV):WV:={v with hand:=.non,hr:=0,ps:=0,wt:=true}
theorem Io(S':WS m w v log):g_ (D.tB (aI M.P.tab 18 (vF 0))) ⟨sv (.own w)::r,m⟩=.ok (!v.wt,⟨sv (.own w)::r,m⟩):=by
 unfold g_ D.tB;rw[w_fld S' (j:=13) (t:=.bl v.wt) rfl rfl];rfl
theorem B5{c:FT}{B:FS}{k:Nat}{s s1:S}{QS:Out×S->Prop}(hc:c s=.ok (true,s1))(h:W (B s1) λq=>q.1=.nx/\W (dR c B k q.2) QS):W (dR c B (k+1) s) QS:=by
 obtain⟨⟨o,s2⟩,e,rfl,h⟩:=h;obtain⟨a,e2,h⟩:=h;refine⟨a,?_,h⟩;show Res.bind (c s) _=_;rw[hc];show Res.bind (B s1) _=_;rw[e];exact e2
theorem Ri{c:FT}{B:FS}{k:Nat}{s s1:S}{QS:Out×S->Prop}(hc:c s=.ok (false,s1))(h:QS (.nx,s1)):W (dR c B (k+1) s) QS:=by
 refine⟨_,?_,h⟩;show Res.bind (c s) _=_;rw[hc];rfl
theorem Mp(S':WS m w v log)(hv:v.lines=[])(Fy:v.ps=0)(hl:log.length+3<900000):W (cN (n+5) 24 [.own w] m) (WR w v v.rest (log++[oS v.hand]++[mF]++[c6 v.tk]) m):=by
 rw[w24];exact ie rfl (xW (sA (bu (t:=.int 0) (u:=.int 0) (by rw[<- Fy];exact w_fld S' (j:=4) rfl rfl) (kG (ts:=[.lst []]) (bK (by rw[<- hv];exact w_fld S' (j:=0) rfl rfl) rfl) rfl) rfl)) (x9 (r:=[]) S' rfl (Fw (n+1) S' hl) λ_ m1 h=>⟨rfl,rfl,h.2⟩))
theorem Fz(S':WS m w v log)(hv:v.lines=[])(hh:v.hand=.non)(Fy:v.ps=0)(hl:log.length+10<900000) :
  W (cN (n+6) 23 [.own w,.str x,.lst []] m) λp=>p.1=.non/\∃mt,WS p.2 w {v.rest with tk:=v.tk+1,tr:=.lst [],mt:=mt} (log++[wc (v.tk+1)]++[oS (.str x)]++[mF]++[c6 (v.tk+1)])/\Fr (WX w v) m p.2:=by
 rw[w23];refine ie rfl (Rf (r:=[sv (.str x),sv (.lst [])]) S' {v with tk:=v.tk+1} rfl (j:=6) (i:=v.tk) rfl rfl rfl λm1 S1 F1=>Mm (t:=wc (v.tk+1)) S1 (by omega) (kG (bK rfl (bK (w_fld S1 (j:=6) rfl rfl) rfl)) rfl) λm2 S2 F2=>x8 S2 {v with tk:=v.tk+1,hand:=.str x} rfl (t:=.str x) ?_ rfl λm3 S3 F3=>Rf S3 {v with tk:=v.tk+1,hand:=.str x,hr:=v.hr+1} rfl (j:=8) (i:=v.hr) rfl rfl rfl λm4 S4 F4=>x8 S4 {v with tk:=v.tk+1,hand:=.str x,hr:=v.hr+1,tr:=.lst []} rfl rfl rfl λm5 S5 F5=>Vz S5 {v with tk:=v.tk+1,hand:=.str x,hr:=v.hr+1,tr:=.lst [],mt:=m5.length} rfl rfl λm6 S6 F6 h6=>x8 S6 {v with tk:=v.tk+1,hand:=.str x,hr:=v.hr+1,tr:=.lst [],mt:=m5.length,wt:=false} rfl rfl rfl λm7 S7 F7=>?_)
 ·unfold RX
  rw[sA (b:=true) (bu (t:=.non) (u:=.non) (by rw[<- hh];exact w_fld S2 (j:=7) rfl rfl) rfl rfl)];rfl
 have F:Fr (WX w v) m m7:=(((((F1.trans F2).trans F3).trans F4).trans F5).trans F6).trans F7;obtain⟨e,he⟩:∃e,many=e+2:=⟨many-2,by unfold many;omega⟩
 unfold jQ;rw[he];refine B5 (Io S7) (x9 S7 rfl (Mp n S7 hv Fy (by simp;omega)) λ_ m8 h=>⟨rfl,Ri (Io h.2.1) ⟨rfl,rfl,m5.length,?_,F.trans h.2.2⟩⟩)
 exact h.2.1
theorem FH{tk:Nat}{y:C}{r' bh:T}(h:m[tk]?=some ⟨2,[.val (.lst []),y]⟩):cN (n+1) 19 [.own tk,r',bh] m=.ok (.lst [],m):=by
 rw[Z7];refine rY (s':=⟨[sv (.own tk),sv r',sv bh,sv (.lst []),none,none],m⟩) rfl (seq1 (s':=⟨[sv (.own tk),sv r',sv bh,some (.ol []),none,none],m⟩) rfl (seq1 (s':=⟨[sv (.own tk),sv r',sv bh,some (.ol []),none,none],m⟩) ?_ rfl)) rfl;have e:=B4 (f:=4) (j:=0) (t:=.lst []) (a:=vF 0) (s:=⟨[sv (.own tk),sv r',sv bh,some (.ol []),none,none],m⟩) (k:=tk) rfl h rfl rfl;refine Vx (ts:=[]) (s1:=⟨[sv (.own tk),sv r',sv bh,some (.ol []),none,none],m⟩) ?_ rfl;unfold iE;rw[e];rfl
def fU(x:B1)(i:Int)(b:Nat):Ob:=⟨1,[.val (.str x),.val (.int i),.val (.own b)]⟩
theorem Mq{k kb:Nat}{i:Int}{y:C}{bh:T}(S':WS m w v log)(hv:v.lines=[])(hh:v.hand=.non)(Fy:v.ps=0)(ht:m[v.tl]?=some ⟨2,[.val (.lst []),y]⟩)(hk:m[k]?=some (fU x i kb))(hl:log.length+10<900000) :
  W (cN (n+7) 22 [.own w,.own k,bh] m) λp=>p.1=.non/\∃mt,WS p.2 w {v.rest with tk:=v.tk+1,tr:=.lst [],mt:=mt} (log++[wc (v.tk+1)]++[oS (.str x)]++[mF]++[c6 (v.tk+1)])/\Fr (WX w v) m p.2:=by
 rw[w22];obtain⟨⟨t2,m2⟩,e2,VA,mt,S2,F2⟩:=Fz n (x:=x) S' hv hh Fy hl;have VA:t2=.non:=VA;subst VA;exact ie rfl (dE (B0 (k:=w) (s1:=⟨[sv (.own w),sv (.own k),sv bh],m⟩) (s2:=⟨[sv (.own w),sv (.own k),sv bh],m⟩) rfl S'.o rfl (bK (B4 (k:=k) (j:=0) rfl hk rfl rfl) (bK (mE (w_fld S' (j:=2) rfl rfl) ht rfl rfl (FH (n+5) ht)) rfl)) e2) ⟨rfl,rfl,mt,S2,F2⟩)
end
def Rj:T->Fs
 |.tup (.str nm::ys)=>if nm=[103,105,118,101]then ys.take 1 else[]
 |_=>[]
def Xq(e:T):Prop:=∃nm ys,e=.tup (.str nm::ys)/\(nm=[103,105,118,101]->∃x,ys=[x])
theorem eqS(a b:B1):bx .Eq (.str a) (.str b)=some (.bl (decide (a=b))):=rfl
theorem rZ:∀(log:Fs)(m:FR),(∀e∈log,Xq e)->dJ (setG 1) (dF (oE (oI (vF 1) (cI 0)) (cS [103,105,118,101]))) (oI (vF 1) (cI 1)) [none,none] log m=.ok (log.flatMap Rj,m)
 |[],_,_=>rfl
 |e::log,m,h=>by
  obtain⟨nm,ys,rfl,hg⟩:=h e (dj ..);have ih:=rZ log m λe he=>h e (dm _ he);have c:dF (oE (oI (vF 1) (cI 0)) (cS [103,105,118,101])) ⟨[none,sv (.tup (.str nm::ys))],m⟩=.ok (decide (nm=[103,105,118,101]),⟨[none,sv (.tup (.str nm::ys))],m⟩):=by
   have e0:lU (.tup (.str nm::ys)) (.int 0)=some (.str nm):=by
    show atT (T.str nm::ys) (((0:Nat)):Int)=_;rw[uv (by simp)];rfl
   have e2:oE (oI (vF 1) (cI 0)) (cS [103,105,118,101]) ⟨[none,sv (.tup (.str nm::ys))],m⟩=.ok (.bl (decide (nm=[103,105,118,101])),⟨[none,sv (.tup (.str nm::ys))],m⟩):=bu (bu (t:=.tup (.str nm::ys)) (u:=.int 0) rfl rfl e0) rfl (eqS _ _);unfold dF;rw[e2];rfl
  rw[dJ];refine Eq.trans (dz _ _) ?_;show Res.bind (dF _ ⟨[none,sv (.tup (.str nm::ys))],m⟩) _=_;rw[c];refine Eq.trans (dz _ _) ?_;rw[List.flatMap_cons];by_cases hn:nm=[103,105,118,101]
  ·obtain⟨x,rfl⟩:=hg hn
   have e1:oI (vF 1) (cI 1) ⟨[none,sv (.tup [.str nm,x])],m⟩=.ok (x,⟨[none,sv (.tup [.str nm,x])],m⟩):=by
    refine bu (t:=.tup [.str nm,x]) (u:=.int 1) rfl rfl ?_;show atT [T.str nm,x] (((1:Nat)):Int)=_;rw[uv (by simp)];rfl
   dsimp only;rw[decide_eq_true hn,if_pos rfl,e1];refine Eq.trans (dz _ _) ?_;dsimp only;rw[ih];show Res.ok (x::log.flatMap Rj,m)=Res.ok ((if nm=[103,105,118,101]then[x].take 1 else[])++log.flatMap Rj,m)
   rw[if_pos hn];rfl
  ·dsimp only
   rw[decide_eq_false hn,if_neg fF,ih];show _=Res.ok ((if nm=[103,105,118,101]then ys.take 1 else[])++log.flatMap Rj,m)
   rw[if_neg hn];rfl
structure GV(log:Fs)(rows:Ap):Prop where
 ok:∀e∈log,Xq e
 gv:log.flatMap Rj=rows.map T.str
section
variable{log ys:Fs}{rows:Ap}{x nm:B1}{i j:Int}
theorem M1(h:nm≠[103,105,118,101])(G:GV log rows):GV (log++[.tup (.str nm::ys)]) rows:=⟨λe he=>by
 rcases qp.mp he with he|he
 ·exact G.ok e he
 ·rw[qq.mp he];exact⟨nm,ys,rfl,λz=>absurd z h⟩,by
 rw[GN,G.gv];show _++((if nm=[103,105,118,101]then ys.take 1 else[])++[])=_
 rw[if_neg h,fh,fh]⟩
theorem gvG(G:GV log rows):GV (log++[oS (.str x)]) (rows++[x]):=⟨λe he=>by
 rcases qp.mp he with he|he
 ·exact G.ok e he
 ·rw[qq.mp he];exact⟨_,_,rfl,λ_=>⟨_,rfl⟩⟩,by
 rw[GN,G.gv,jI];rfl⟩
theorem GV.row(G:GV log rows):GV (log++[wc i]++[oS (.str x)]++[mF]++[c6 j]) (rows++[x]):=M1 (by decide) (M1 (by decide) (gvG (M1 (by decide) G)))
end
abbrev nH(c:Int)(rs:B1)(fn:Bool):Ob:=⟨4,[.val (.own 1),.val (.int 0),.val (.int c),.val (.own 9),.val (.str rs),.val (.bl fn)]⟩
def aJ:Ob:=⟨M.bc,[.od [] []]⟩
abbrev dG(ts:Fs):Ob:=⟨M.bc,[.ol ts]⟩
structure VI(v:WV):Prop where
 ln:v.lines=[]
 tl:v.tl=2
 ps:v.ps=0
 hd:v.hand=.non
 hr:v.hr=0
 sh:v.sh=5
 su:v.su=6
 no:v.no=7
 lg:v.lg=8\/10<=v.lg
abbrev yo(ws:List (Nat×B1)):Fs:=ws.map λp=>.own p.1
structure BI(m:FR)(c:Int)(ws:List (Nat×B1))(rs:B1)(fn:Bool)(v:WV)(log:Fs):Prop where
 S:WS m 1 v log
 V:VI v
 b:m[0]?=some (nH c rs fn)
 q:m[9]?=some (dG (yo ws))
 t:m[2]?=some ⟨2,[.val (.lst []),.val (.own 3)]⟩
 sh:m[5]?=some aJ
 su:m[6]?=some aJ
 no:m[7]?=some (dG [])
 r:∀p∈ws,10<=p.1/\p.1≠v.lg/\∃i kb,m[p.1]?=some (fU p.2 i kb)
section
variable{m m':FR}{c c':Int}{ws wd:List (Nat×B1)}{rs rs':B1}{fn FI:Bool}{v v':WV}{log kH:Fs}
theorem BI.Xr(I:BI m c ws rs fn v log)(S':WS m' 1 v' kH)(V':VI v')(hg:v'.lg=v.lg)(F:Fr (WX 1 v) m m'):BI m' c ws rs fn v' kH:=by
 have VB:=I.V.lg;have k:∀q ob,q≠1->q≠v.lg->m[q]?=some ob->m'[q]?=some ob:=λq ob a b h=>by rw[F.at_ q (eT.mp h).1 λz=>z.elim a b];exact h
 exact⟨S',V',k _ _ (by omega) (by omega) I.b,k _ _ (by omega) (by omega) I.q,k _ _ (by omega) (by omega) I.t,k _ _ (by omega) (by omega) I.sh,k _ _ (by omega) (by omega) I.su,k _ _ (by omega) (by omega) I.no,λp hp=>by
  obtain⟨h1,h2,i,kb,h3⟩:=I.r p hp;exact⟨h1,by rw[hg];exact h2,i,kb,k _ _ (by omega) h2 h3⟩⟩
theorem BI.put(I:BI m c ws rs fn v log){k:Nat}{ob:Ob}(h1:k≠1)(hg:k≠v.lg)(hb:k=0->ob=nH c' rs' FI)(xu:k≠0->c'=c/\rs'=rs/\FI=fn)(hq:k=9->ob=dG (yo wd))(zL:k≠9->wd=ws)(hr:∀p∈wd,10<=p.1/\p.1≠v.lg/\p.1≠k/\∃i kb,m[p.1]?=some (fU p.2 i kb))(ho:k=0\/k=9\/10<=k):BI (m.set k ob) c' wd rs' FI v log:=by
 have z:∀q jw,q≠k->m[q]?=some jw->(m.set k ob)[q]?=some jw:=λq jw a h=>by rw[gF (Ne.symm a)];exact h
 refine⟨⟨z _ _ (Ne.symm h1) I.S.o,z _ _ (Ne.symm hg) I.S.l,I.S.ne,I.S.nY⟩,I.V,?_,?_,z _ _ (by omega) I.t,z _ _ (by omega) I.sh,z _ _ (by omega) I.su,z _ _ (by omega) I.no,λp hp=>?_⟩
 ·by_cases e:k=0
  ·subst e
   rw[hb rfl];exact c9 (eT.mp I.b).1
  ·obtain⟨rfl,rfl,rfl⟩:=xu e
   exact z _ _ (Ne.symm e) I.b
 ·by_cases e:k=9
  ·subst e
   rw[hq rfl];exact c9 (eT.mp I.q).1
  ·rw[zL e]
   exact z _ _ (Ne.symm e) I.q
 ·obtain⟨a,b,c,i,kb,h⟩:=hr p hp
  exact⟨a,b,i,kb,z _ _ c h⟩
theorem BI.Mr(I:BI m c ws rs fn v log):BI (m.set 0 (nH c' rs' FI)) c' ws rs' FI v log:=by
 have VB:=I.V.lg;exact I.put (by omega) (by omega) (λ_=>rfl) (λz=>absurd rfl z) (λz=>by omega) (λ_=>rfl) (λp hp=>by obtain⟨h1,h2,h3⟩:=I.r p hp;exact⟨h1,h2,by omega,h3⟩) (.inl rfl)
theorem BI.Rk(I:BI m c ws rs fn v log)(hr:∀p∈wd,10<=p.1/\p.1≠v.lg/\∃i kb,m[p.1]?=some (fU p.2 i kb)):BI (m.set 9 (dG (yo wd))) c wd rs fn v log:=by
 have VB:=I.V.lg;exact I.put (by omega) (by omega) (λz=>by omega) (λ_=>⟨rfl,rfl,rfl⟩) (λ_=>rfl) (λz=>absurd rfl z) (λp hp=>by obtain⟨h1,h2,h3⟩:=hr p hp;exact⟨h1,h2,by omega,h3⟩) (.inr (.inl rfl))
theorem bC{α:Type}{m Z:List α}{k:Nat}{x:α}(h:m[k]?=some x):(m++Z)[k]?=some x:=by
 rw[gI (eT.mp h).1];exact h
theorem BI.app(I:BI m c ws rs fn v log){Z:FR}:BI (m++Z) c ws rs fn v log:=⟨⟨bC I.S.o,bC I.S.l,I.S.ne,I.S.nY⟩,I.V,bC I.b,bC I.q,bC I.t,bC I.sh,bC I.su,bC I.no,λp hp=>by
 obtain⟨h1,h2,i,kb,h3⟩:=I.r p hp;exact⟨h1,h2,i,kb,bC h3⟩⟩
theorem BI.len(I:BI m c ws rs fn v log):10<=m.length/\v.lg<m.length:=⟨(eT.mp I.q).1,(eT.mp I.S.l).1⟩
theorem cR(I:BI m c ws rs fn v log){r:Fh}{f j:Nat}{t:T}(hj:gD M.P.tab 4 f=some j)(hf:(nH c rs fn).fs[j]?=sv t):aI M.P.tab f (vF 0) ⟨sv (.own 0)::r,m⟩=.ok (t,⟨sv (.own 0)::r,m⟩):=B4 (k:=0) rfl I.b hj hf
theorem Ip(I:BI m c ws rs fn v log){r:Fh}{f:Nat}{t:T}{a:FE}(ha:a ⟨sv (.own 0)::r,m⟩=.ok (t,⟨sv (.own 0)::r,m⟩))(hp:cy M.P.tab f (.val t) (nH c rs fn)=some (nH c' rs' FI)):aE M.P.tab f (vF 0) a ⟨sv (.own 0)::r,m⟩=.ok (.nx,⟨sv (.own 0)::r,m.set 0 (nH c' rs' FI)⟩):=by
 unfold aE;rw[ha];refine Eq.trans (dz _ _) ?_;show Res.bind (aT ((m[0]?).bind _)) _=_;rw[I.b];show Res.bind (aT (cy M.P.tab f (.val t) (nH c rs fn))) _=_;rw[hp];rfl
theorem Rl(I:BI m c ws rs fn v log){r:Fh}:mi M.P.tab 21 gu (vF 0) (cI 1) ⟨sv (.own 0)::r,m⟩=.ok (.nx,⟨sv (.own 0)::r,m.set 0 (nH (c+1) rs fn)⟩):=by
 have e:e9 M.P.tab 21 m (.own 0)=some (0,nH c rs fn,2,.val (.int c)):=by
  show(m[0]?).bind _=_;rw[I.b];rfl
 unfold mi;show Res.bind (aT (e9 M.P.tab 21 m (.own 0))) _=_;rw[e];refine Eq.trans (dz _ _) ?_;show Res.bind (aT (e9 M.P.tab 21 m (.own 0))) _=_;rw[e];rfl
end
theorem Rm{o a:FE}{s s1 s2:S}{kb:Nat}{ts xy:Fs}{t:T}(ho:o s=.ok (.own kb,s1))(h1:s1.m[kb]?=some (dG ts))(ha:a s1=.ok (t,s2))(h2:s2.m[kb]?=some (dG xy))(hl:xy.length<1000000):eA M.bc o a s=.ok (.nx,⟨s2.r,s2.m.set kb (dG (xy++[t]))⟩):=by
 unfold eA;rw[ho];refine Eq.trans (dz _ _) ?_;dsimp only;rw[jF h1];refine Eq.trans (dz _ _) ?_;rw[ha];refine Eq.trans (dz _ _) ?_;dsimp only;rw[jF h2];refine Eq.trans (dz _ _) ?_;show Res.bind (aT (gd (xy.length<1000000) ())) _=_;rw[xV hl];rfl
section
variable{m:FR}{ob jw:Ob}{x:B1}{i:Int}{f:Nat}{t:T}{r:Fh}{a:FE}
theorem r6{α:Type}{m:List α}{x:α}:(m++[x])[m.length]?=some x:=by
 rw[fj (cC _),ki];rfl
theorem r8{α:Type}{m:List α}{x y:α}:(m++[x]).set m.length y=m++[y]:=by
 rw[List.set_append_right _ _ (cC _),ki];rfl
theorem Iq(ha:a ⟨sv (.own m.length)::r,m++[ob]⟩=.ok (t,⟨sv (.own m.length)::r,m++[ob]⟩))(hp:cy M.P.tab f (.val t) ob=some jw):aE M.P.tab f (vF 0) a ⟨sv (.own m.length)::r,m++[ob]⟩=.ok (.nx,⟨sv (.own m.length)::r,m++[jw]⟩):=by
 unfold aE;rw[ha];refine Eq.trans (dz _ _) ?_;show Res.bind (aT (((m++[ob])[m.length]?).bind _)) _=_;rw[r6];show Res.bind (aT (cy M.P.tab f (.val t) ob)) _=_;rw[hp];show Res.ok (Out.nx,(⟨_,(m++[ob]).set m.length jw⟩:S))=_;rw[r8]
theorem B6:cN (n+1) 17 [.own m.length,.str x,.int i] (m++[⟨1,[]⟩])=.ok (.non,m++[fU x i (m.length+1),aJ]):=by
 rw[Z3];refine Fi (s':=⟨[sv (.own m.length),sv (.str x),sv (.int i)],m++[fU x i (m.length+1),aJ]⟩) rfl (seq1 (Iq (r:=[sv (.str x),sv (.int i)]) (t:=.str x) (jw:=⟨1,[.val (.str x)]⟩) rfl rfl) (seq1 (Iq (r:=[sv (.str x),sv (.int i)]) (t:=.int i) (jw:=⟨1,[.val (.str x),.val (.int i)]⟩) rfl rfl) ?_)) rfl;obtain⟨oA,hA⟩:∃oA:Ob,oA=⟨1,[.val (.str x),.val (.int i)]⟩:=⟨_,rfl⟩;rw[<- hA];unfold aE nE;refine Eq.trans (dz _ _) ?_;show Res.bind (aT (((m++[oA]++[aJ])[m.length]?).bind _)) _=_;rw[mG r6];have hp:cy M.P.tab 3 (.val (.own (m++[oA]).length)) oA=some (fU x i (m.length+1)):=by
  rw[hA,gH];rfl
 show Res.bind (aT (cy M.P.tab 3 (.val (.own (m++[oA]).length)) oA)) _=_;rw[hp];have e:(m++[oA]++[aJ]).set m.length (fU x i (m.length+1))=m++[fU x i (m.length+1),aJ]:=by
  rw[List.set_append_left _ _ (by simp),r8,y9];rfl
 exact congrArg (λz=>Res.ok (Out.nx,(⟨[sv (.own m.length),sv (.str x),sv (.int i)],z⟩:S))) e
end
section
variable{m:FR}{c:Int}{ws:List (Nat×B1)}{rs x:B1}{fn:Bool}{v:WV}{log:Fs}
theorem we(I:BI m c ws rs fn v log)(hw:ws.length<900000):W (cN (n+2) 36 [.own 0,.str x] m) λp=>p.1=.non/\∃k,BI p.2 (c+1) (ws++[(k,x)]) rs fn v log:=by
 rw[w36];refine ie rfl (iB (W.of (Rl (r:=[sv (.str x)]) I) ⟨rfl,?_⟩));have I1:BI (m.set 0 (nH (c+1) rs fn)) (c+1) ws rs fn v log:=I.Mr;obtain⟨m1,h1⟩:∃m1,m1=m.set 0 (nH (c+1) rs fn):=⟨_,rfl⟩;rw[<- h1]at I1;show W (eA _ _ _ ⟨[sv (.own 0),sv (.str x)],m.set 0 (nH (c+1) rs fn)⟩) _;rw[<- h1];have I2:BI (m1++[fU x (c+1) (m1.length+1),aJ]) (c+1) ws rs fn v log:=I1.app;have l1:=I1.len;refine W.of (Rm (s1:=⟨[sv (.own 0),sv (.str x)],m1⟩) (s2:=⟨[sv (.own 0),sv (.str x)],m1++[fU x (c+1) (m1.length+1),aJ]⟩) (t:=.own m1.length) (cR I1 (j:=3) rfl rfl) I1.q (Fo (ts:=[.str x,.int (c+1)]) (s':=⟨[sv (.own 0),sv (.str x)],m1⟩) (bK rfl (bK (cR I1 (j:=2) rfl rfl) rfl)) (B6 n)) I2.q (by rw[dB];omega)) ⟨rfl,rfl,m1.length,?_⟩
 have e:yo ws++[T.own m1.length]=yo (ws++[(m1.length,x)]):=by
  unfold yo;rw[jI];rfl
 show BI ((m1++[fU x (c+1) (m1.length+1),aJ]).set 9 (dG (yo ws++[T.own m1.length]))) _ _ _ _ _ _;rw[e];refine I2.Rk λp hp=>?_;rcases qp.mp hp with hp|hp
 ·exact I2.r p hp
 ·rw[qq.mp hp]
  exact⟨l1.1,by omega,_,_,by rw[fj (cC _),ki];rfl⟩
end
section
variable{m:FR}{c:Int}{ws:List (Nat×B1)}{rs x:B1}{fn:Bool}{v:WV}{log:Fs}{rows:Ap}
theorem B7{o:FE}{s s1:S}{kb:Nat}{ts:Fs}(h:o s=.ok (.own kb,s1))(hm:s1.m[kb]?=some (dG ts)):j_ M.bc o s=.ok (.int (ts.length:Nat),s1):=by
 unfold j_;rw[h];refine Eq.trans (dz _ _) ?_;dsimp only;rw[jF hm];rfl
theorem Rn{o:FE}{s s1:S}{kb:Nat}{t:T}{ts:Fs}(h:o s=.ok (.own kb,s1))(hm:s1.m[kb]?=some (dG (t::ts))):kc M.bc o s=.ok (t,⟨s1.r,s1.m.set kb (dG ts)⟩):=by
 unfold kc;rw[h];refine Eq.trans (dz _ _) ?_;dsimp only;rw[jF hm];rfl
theorem VC{o:FE}{lo hi:FO}{s:S}{kb:Nat}{ts:Fs}{i j:D2}(h:o s=.ok (.own kb,s))(h1:lo s=.ok (i,s))(h2:hi s=.ok (j,s))(hm:s.m[kb]?=some (dG ts)):xP M.bc o lo hi s=.ok (.lst (dQ ts i j),s):=by
 unfold xP;rw[h];refine Eq.trans (dz _ _) ?_;dsimp only;rw[h1];refine Eq.trans (dz _ _) ?_;dsimp only;rw[h2];refine Eq.trans (dz _ _) ?_;dsimp only;rw[jF hm];rfl
theorem soE{a:FE}{s s1:S}{i:Int}(h:a s=.ok (.int i,s1)):Hm a s=.ok (some i,s1):=by
 unfold Hm;rw[h];rfl
theorem VI.tk(V:VI v){i:Int}{tr:T}{mt:Nat}:VI {v.rest with tk:=i,tr:=tr,mt:=mt}:=⟨V.ln,V.tl,rfl,rfl,rfl,V.sh,V.su,V.no,V.lg⟩
theorem B8(n:Nat):∀(ws:List (Nat×B1)){m:FR}{v:WV}{log:Fs}{rows:Ap}{e:Nat}{u:Option C},BI m c ws rs fn v log->GV log rows->log.length+4*ws.length+20<900000 ->
  W (dR (dF (dD (bx .Gt) (j_ M.bc (aI M.P.tab 22 (vF 0))) (vF 1)))
  (ao (aZ 2 (kc M.bc (aI M.P.tab 22 (vF 0))))
 (bq (aH (aD [(3,22)] (cN (n+7))) (aI M.P.tab 19 (vF 0)) (k2 (vF 2) (xP M.bc (aI M.P.tab 22 (vF 0)) MI (Hm (aI M.P.tab 20 (vF 0)))))))) (e+ws.length+1) ⟨[sv (.own 0),sv (.int 0),u],m⟩) λq=>q.1=.nx/\∃v' kH,BI q.2.m c [] rs fn v' kH/\GV kH (rows++ws.map (·.2))/\kH.length=log.length+4*ws.length
 |[],m,v,log,rows,e,u,I,G,hl=>by
  refine Ri (s1:=⟨[sv (.own 0),sv (.int 0),u],m⟩) (sA (bu (t:=.int 0) (u:=.int 0) (B7 (cR I (j:=3) rfl rfl) I.q) rfl rfl)) ⟨rfl,v,log,I,?_,rfl⟩;show GV log (rows++[]);rw[fh];exact G
 |(k,x)::ws,m,v,log,rows,e,u,I,G,hl=>by
  rw[cT]at hl;have c1:dF (dD (bx .Gt) (j_ M.bc (aI M.P.tab 22 (vF 0))) (vF 1)) ⟨[sv (.own 0),sv (.int 0),u],m⟩=.ok (true,⟨[sv (.own 0),sv (.int 0),u],m⟩):=sA (bu (t:=.int ((yo ((k,x)::ws)).length:Nat)) (u:=.int 0) (B7 (cR I (j:=3) rfl rfl) I.q) rfl (by rw[Vw,decide_eq_true (by rw[dB,cT];omega)]))
  have I1:BI (m.set 9 (dG (yo ws))) c ws rs fn v log:=I.Rk λp hp=>I.r p (dm _ hp);obtain⟨h1,h2,i,kb,h3⟩:=I.r (k,x) (dj ..);have h4:(m.set 9 (dG (yo ws)))[k]?=some (fU x i kb):=by rw[gF (by have h1:10<=k:=h1;omega)];exact h3
  obtain⟨m1,e1⟩:∃m1,m1=m.set 9 (dG (yo ws)):=⟨_,rfl⟩;rw[<- e1]at I1 h4;have hp:aZ 2 (kc M.bc (aI M.P.tab 22 (vF 0))) ⟨[sv (.own 0),sv (.int 0),u],m⟩=.ok (.nx,⟨[sv (.own 0),sv (.int 0),sv (.own k)],m1⟩):=by
   rw[e1];exact xY (Rn (cR I (j:=3) rfl rfl) I.q)
  obtain⟨⟨t2,m2⟩,e2,ht,mt,S2,F2⟩:=Mq n (w:=1) (bh:=.lst (dQ (yo ws) none (some 0))) I1.S I1.V.ln I1.V.hd I1.V.ps (by rw[I1.V.tl];exact I1.t) h4 (by omega)
  have ht:t2=.non:=ht;subst ht;have I2:BI m2 c ws rs fn _ _:=I1.Xr S2 I1.V.tk rfl F2;refine B5 (k:=e+ws.length+1) c1 (iB (W.of hp ⟨rfl,dE (mE (k:=1) (cR I1 (j:=0) rfl rfl) I1.S.o rfl (bK rfl (bK (VC (cR I1 (j:=3) rfl rfl) rfl (soE (cR I1 (j:=1) rfl rfl)) I1.q) rfl)) e2) ⟨rfl,(B8 n ws (e:=e) I2 G.row (by simp;omega)).mono λq hq=>?_⟩⟩))
  obtain⟨k1,v',kH,k2,k3,k4⟩:=hq;refine⟨k1,v',kH,k2,?_,?_⟩
  ·rw[dY,uD];exact k3
  ·rw[k4,cT];simp;omega
theorem all_eq(I:BI m c ws rs fn v log)(G:GV log rows)(hl:log.length+4*ws.length+20<900000):W (cN (n+8) 37 [.own 0,.int 0] m) λp=>p.1=.non/\∃v' kH,BI p.2 c [] rs fn v' kH/\GV kH (rows++ws.map (·.2))/\kH.length=log.length+4*ws.length:=by
 rw[w37];obtain⟨e,he⟩:∃e,many=e+ws.length+1:=⟨many-(ws.length+1),by unfold many;omega⟩
 refine ie rfl ?_;unfold jQ;rw[he];exact(B8 n ws I G hl).mono λq hq=>⟨hq.1,rfl,hq.2⟩
theorem fx1{a:FE}{s:S}{w kb f j:Nat}{ob:Ob}{c:C}{u:T}(h:a s=.ok (.own w,s))(hm:s.m[w]?=some ob)(hj:gD M.P.tab ob.c f=some j)(hf:ob.fs[j]?=sv (.own kb))(hb:s.m[kb]?=some ⟨M.bc,[c]⟩)(hz:KU c=some u):xK M.bc M.P.tab f a s=.ok (u,⟨s.r,(s.m.set kb ⟨M.bc,[]⟩).set w ⟨ob.c,ob.fs.set j (.val u)⟩⟩):=by
 have e:rn M.bc s.m (.own kb)=some (kb,c):=by
  show(s.m[kb]?).bind _=_;rw[hb];show(if M.bc=M.bc then some (kb,c)else none)=_
  rw[if_pos rfl]
 have e2:e9 M.P.tab f s.m (.own w)=some (w,ob,j,.val (.own kb)):=by
  show(s.m[w]?).bind _=_;rw[hm];show(gD M.P.tab ob.c f).bind _=_;rw[hj];show(ob.fs[j]?).map _=_;rw[hf];rfl
 unfold xK;rw[h];refine Eq.trans (dz _ _) ?_;show Res.bind (aT (e9 M.P.tab f s.m (.own w))) _=_;rw[e2];refine Eq.trans (dz _ _) ?_;dsimp only;rw[e];dsimp only;rw[hz];rfl
theorem B9(G:GV log rows)(hl:log.length<=1000000):cN (n+1) 0 [.lst log] m=.ok (.own m.length,m++[dG (rows.map T.str)]):=by
 rw[w0];have e:=Ij (src:=tD (vF 0)) (n:=2) (js:=[]) (s:=⟨[sv (.lst log)],m⟩) (ts:=log) (s1:=⟨[sv (.lst log)],m⟩) rfl hl (rZ log m G.ok);rw[G.gv]at e;refine rY (s':=⟨[sv (.lst log)],m++[dG (rows.map T.str)]⟩) rfl (Fg ?_) rfl;unfold iF;refine Eq.trans (congrArg (λz=>Res.bind z _) e) ?_;rfl
theorem r9(I:BI m c [] rs fn v log)(G:GV log rows):W (cN (n+2) 25 [.own 1] m) λp=>∃k v',p.1=.own k/\10<=k/\k≠v'.lg/\p.2[k]?=some (dG (rows.map T.str))/\BI p.2 c [] rs fn v' []:=by
 rw[w25];have nY:=I.S.nY;obtain⟨l1,l2⟩:=I.len;have VB:=I.V.lg;obtain⟨ob,Xs⟩:∃ob:Ob,ob=⟨3,v.ob.fs.set 12 (.val (.lst log))⟩:=⟨_,rfl⟩;obtain⟨m1,h1⟩:∃m1,m1=(m.set v.lg ⟨M.bc,[]⟩).set 1 ob:=⟨_,rfl⟩;have L1:m1.length=m.length:=by rw[h1,dH,dH]
 have e1:xK M.bc M.P.tab 17 (vF 0) ⟨[sv (.own 1),none],m⟩=.ok (.lst log,⟨[sv (.own 1),none],m1⟩):=by
  rw[h1,Xs];exact fx1 (s:=⟨[sv (.own 1),none],m⟩) (j:=12) rfl I.S.o rfl rfl I.S.l rfl
 obtain⟨m2,h2⟩:∃m2,m2=m1++[dG (rows.map T.str)]:=⟨_,rfl⟩;have e2:=B9 n (m:=m1) G (by omega)
 rw[<- h2]at e2;have o2:(m2++[dG []])[1]?=some ob:=by
  rw[h2];refine bC (bC ?_);rw[h1];exact c9 (by rw[dH];omega)
 obtain⟨v',hv⟩:∃v':WV,v'={v with lg:=m2.length}:=⟨_,rfl⟩
 have hp:cy M.P.tab 17 (.val (.own m2.length)) ob=some v'.ob:=by rw[Xs,hv];rfl
 have e3:aE M.P.tab 17 (vF 0) (iF M.bc (lR aU)) ⟨[sv (.own 1),sv (.own m1.length)],m2⟩=.ok (.nx,⟨[sv (.own 1),sv (.own m1.length)],(m2++[dG []]).set 1 v'.ob⟩):=by
  unfold aE;show Res.bind (aT (((m2++[dG []])[1]?).bind (cy M.P.tab 17 (.val (.own m2.length))))) _=_;rw[o2];show Res.bind (aT (cy M.P.tab 17 (.val (.own m2.length)) ob)) _=_;rw[hp];rfl
 have L2:m2.length=m.length+1:=by rw[h2,gH,L1];rfl
 refine B3 rfl (Vu (s':=⟨[sv (.own 1),none],m2⟩) (BZ (ts:=[.lst log]) (s':=⟨[sv (.own 1),none],m1⟩) (bK e1 rfl) e2) (gi (W.of e3 ⟨rfl,bR (t:=.own m1.length) rfl ⟨m1.length,v',rfl,by omega,?_,?_,?_⟩⟩)))
 ·rw[hv];show m1.length≠m2.length;omega
 ·show((m2++[dG []]).set 1 v'.ob)[m1.length]?=_
  rw[gF (by omega)]
  refine bC ?_;rw[h2,fj (cC _),ki];rfl
 ·show BI ((m2++[dG []]).set 1 v'.ob) c [] rs fn v' []
  have k:∀q jw,q≠1->q≠v.lg->m[q]?=some jw->((m2++[dG []]).set 1 v'.ob)[q]?=some jw:=λq jw a b h=>by
   rw[gF (Ne.symm a),h2];refine bC (bC ?_);rw[h1,gF (Ne.symm a),gF (Ne.symm b)];exact h
  refine⟨⟨c9 (by rw[gH];omega),?_,?_,by show 0<_;omega⟩,?_,k _ _ (by omega) (by omega) I.b,k _ _ (by omega) (by omega) I.q,k _ _ (by omega) (by omega) I.t,k _ _ (by omega) (by omega) I.sh,k _ _ (by omega) (by omega) I.su,k _ _ (by omega) (by omega) I.no,λp hp=>by cases hp⟩
  ·rw[hv]
   show((m2++[dG []]).set 1 _)[m2.length]?=_;rw[gF (by omega),fj (cC _),ki];rfl
  ·rw[hv];show m2.length≠1;omega
  ·rw[hv]
   exact⟨I.V.ln,I.V.tl,I.V.ps,I.V.hd,I.V.hr,I.V.sh,I.V.su,I.V.no,.inr (by show 10<=m2.length;omega)⟩
end
theorem Xu{c:Nat}{g:Fn}{o:FE}{F:FS}{s:S}{t u:T}{m':FR}{QS:Out×S->Prop}(h:o s=.ok (t,s))(hr:oH c s.m t=some ())(hg:g [t] s.m=.ok (u,m'))(k:W (F ⟨s.r,m'⟩) QS):W (MZ c g o F s) QS:=by
 obtain⟨a,e,q⟩:=k;refine⟨a,?_,q⟩;unfold MZ;rw[h];refine Eq.trans (dz _ _) ?_;dsimp only;rw[hr];refine Eq.trans (dz _ _) ?_;rw[hg];exact e
theorem Xv{F:FS}{s:S}{QS:Out×S->Prop}(k:W (F s) QS):W (Eu F s) QS:=by
 obtain⟨a,e,q⟩:=k;exact⟨a,by unfold Eu;rw[e];rfl,q⟩
def cP:B1->B1->Ap×B1
 |l,[]=>([],l)
 |l,c::p=>if c=10 then(l::(cP [] p).1,(cP [] p).2)else cP (l++[c]) p
theorem B_(l p:B1):cP l (10::p)=(l::(cP [] p).1,(cP [] p).2):=by rw[cP,if_pos rfl]
theorem Cb{c:Nat}(h:c≠10)(l p:B1):cP l (c::p)=cP (l++[c]) p:=by rw[cP,if_neg h]
theorem kY:∀(p l:B1),10∉l->bV 10 (l++p)=(cP l p).1++[(cP l p).2]/\10∉(cP l p).2/\(cP l p).2.length<=l.length+p.length/\(cP l p).1.length<=p.length
 |[],l,h=>by
  rw[fh];exact⟨iU h,h,cC _,cC _⟩
 |c::p,l,h=>by
  by_cases e:c=10
  ·subst e
   obtain⟨h1,h2,h3,h4⟩:=kY p [] (λz=>by cases z)
   rw[sG]at h1;rw[B_];refine⟨?_,h2,?_,?_⟩
   ·rw[uD,iV p h,h1];rfl
   ·rw[CP]at h3
    rw[cT];show(cP [] p).2.length<=_;omega
   ·simp only[cT]
    omega
  ·obtain⟨h1,h2,h3,h4⟩:=kY p (l++[c]) (λz=>by
    rcases qp.mp z with z|z
    ·exact h z
    ·exact e (qq.mp z).symm)
   rw[Cb e,uD];refine⟨h1,h2,?_,?_⟩
   ·rw[gH]at h3
    rw[cT];show(cP (l++[c]) p).2.length<=_
    have:[c].length=1:=rfl
    omega
   ·rw[cT];omega
theorem Cc{a b:B1}(h:a.length+b.length<=1000000):gE .Add (.str a) (.str b)=some (.str (a++b)):=xV h
theorem FJ{α:Type}(xs:List α)(x:α):atT (xs++[x]) (-1)=some x:=by
 unfold atT;rw[if_neg (by decide),if_pos (by rw[gH,CN];omega)]
 have:(-1+((xs++[x]).length:Int)).toNat=xs.length:=by rw[gH,CN];omega
 rw[this];simp
theorem Cd{α:Type}(xs:List α)(x:α):dQ (xs++[x]) none (some (-1))=xs:=by
 unfold dQ gP;dsimp only;rw[if_pos (by decide)]
 have:(-1+((xs++[x]).length:Int)).toNat=xs.length:=by rw[gH,CN];omega
 rw[this];simp
section
variable{m:FR}{c:Int}{ws:List (Nat×B1)}{rs x:B1}{fn:Bool}{v:WV}{log:Fs}{rows:Ap}
theorem oU(I:BI m c ws rs false v log):cN (n+1) 35 [.own 0] m=.ok (.non,m):=by
 rw[Xo];have e:D.tB (aI M.P.tab 24 (vF 0)) ⟨[sv (.own 0)],m⟩=.ok (false,⟨[sv (.own 0)],m⟩):=Ik (cR I (j:=5) rfl rfl);refine Fi (s':=⟨[sv (.own 0)],m⟩) rfl ?_ rfl;unfold xF;refine Eq.trans (congrArg (λz=>Res.bind (oG z) _) e) ?_;rfl
theorem mH(I:BI m c ws rs true v log):cN (n+1) 35 [.own 0] m=.exc 0 [] ⟨[sv (.own 0)],m⟩:=by
 rw[Xo];have e:D.tB (aI M.P.tab 24 (vF 0)) ⟨[sv (.own 0)],m⟩=.ok (true,⟨[sv (.own 0)],m⟩):=Ik (cR I (j:=5) rfl rfl);show Res.bind (Res.bind (oG (D.tB (aI M.P.tab 24 (vF 0)) ⟨[sv (.own 0)],m⟩)) _) _=_;rw[e];rfl
theorem BI.oH(I:BI m c ws rs fn v log):oH 4 m (.own 0)=some ():=by
 show(m[0]?).bind _=_;rw[I.b];rfl
theorem wg(n:Nat){y1 y2:Option C}:∀(l:Ap){m:FR}{c:Int}{ws:List (Nat×B1)}{u:Option C},BI m c ws rs fn v log->ws.length+l.length<900000 ->
  W (dg (setG 3) (bq (aH (aD [(4,36)] (cN (n+2))) (vF 0) (k1 (vF 3)))) (l.map T.str) ⟨[sv (.own 0),y1,y2,u],m⟩) λq=>q.1=.nx/\∃u c' wd m',q.2=⟨[sv (.own 0),y1,y2,u],m'⟩/\BI m' c' (ws++wd) rs fn v log/\wd.map (·.2)=l
 |[],m,c,ws,u,I,hl=>⟨_,rfl,rfl,u,c,[],m,rfl,by rw[fh];exact I,rfl⟩
 |x::l,m,c,ws,u,I,hl=>by
  rw[cT]at hl;obtain⟨⟨t,m1⟩,e,ht,k,I1⟩:=we n (x:=x) I (by omega)
  refine oR (r:=[sv (.own 0),y1,y2,sv (.str x)]) rfl (dE (mE (k:=0) rfl I.b rfl rfl e) ⟨rfl,(wg n l I1 (by rw[gH];show _+1+_<_;omega)).mono λq hq=>?_⟩)
  obtain⟨h1,u,c',wd,m',h2,h3,h4⟩:=hq;exact⟨h1,u,c',(k,x)::wd,m',h2,by rw[uD];exact h3,by rw[dY,h4]⟩
def HO(rs:B1)(fn:Bool)(rows:Ap)(p:T×FR):Prop:=∃k c v,p.1=.own k/\10<=k/\k≠v.lg/\p.2[k]?=some (dG (rows.map T.str))/\BI p.2 c [] rs fn v []
theorem FN(I:BI m c [] rs false v log)(G:GV log [])(M3:10∉rs)(hr:rs.length<=1000)(hx:x.length<=1000)(VD:log.length<=10):W (cN (n+9) 33 [.own 0,.str x] m) (HO (cP rs x).2 false (cP rs x).1):=by
 obtain⟨k1,k2,k3,k4⟩:=kY x rs M3;obtain⟨rws,wj⟩:∃rws,rws=(cP rs x).1:=⟨_,rfl⟩;obtain⟨lf,VE⟩:∃lf,lf=(cP rs x).2:=⟨_,rfl⟩;rw[<- wj]at k1 k4 ⊢;rw[<- VE]at k1 k2 k3 ⊢;rw[Xm];obtain⟨ps,Fy⟩:∃ps:T,ps=.lst ((rws++[lf]).map T.str):=⟨_,rfl⟩;have e1:splitM (rs++x) [.str [10]]=some ps:=by
  show gd _ _=_;rw[xV (by rw[gH];omega),k1,Fy]
 have e2:lU ps (.int (-1))=some (.str lf):=by
  rw[Fy];show atT _ (-1)=_;rw[jI];exact FJ _ _
 have e3:RW none (some (-1)) ps=some (.lst (rws.map T.str)):=by
  rw[Fy];show some (T.lst (dQ _ none (some (-1))))=_;rw[jI];exact congrArg (λz=>some (T.lst z)) (Cd _ _)
 refine B3 rfl (Xu rfl I.oH (oU (n+7) I) (Xv (bS (t:=ps) (bm1 (l:=rs++x) (ts:=[.str [10]]) (bu (t:=.str rs) (u:=.str x) (cR I (j:=4) rfl rfl) rfl (Cc (by omega))) rfl e1) ?_)))
 have I1:BI (m.set 0 (nH c lf false)) c [] lf false v log:=I.Mr;refine gi (W.of (Ip (r:=[sv (.str x),sv ps,none]) (c':=c) (rs':=lf) (FI:=false) (t:=.str lf) I (bu (t:=ps) (u:=.int (-1)) rfl rfl e2) rfl) ⟨rfl,?_⟩);obtain⟨m1,Ro⟩:∃m1,m1=m.set 0 (nH c lf false):=⟨_,rfl⟩;rw[<- Ro]at I1;show WB _ ⟨[sv (.own 0),sv (.str x),sv ps,none],m.set 0 (nH c lf false)⟩ _;rw[<- Ro];refine gi (oQ (W.of (Se (t:=.lst (rws.map T.str)) (slE (t:=ps) (x:=none) (y:=some (-1)) rfl rfl rfl e3) rfl) ((wg (n+6) rws I1 (by show 0+_<_;omega)).mono λq hq=>?_)))
 obtain⟨h1,u,c',wd,m2,h2,I2,h4⟩:=hq;refine⟨h1,?_⟩;rw[h2];rw[sG]at I2;have lw:wd.length=rws.length:=by rw[<- h4,dB]
 obtain⟨⟨t3,m3⟩,e4,ht3,v3,VF,I3,G3,L3⟩:=all_eq n I2 G (by omega)
 refine gi (dE (mE (k:=0) (t:=t3) rfl I2.b rfl (bK (cR I2 (j:=1) rfl rfl) rfl) e4) ⟨rfl,?_⟩);rw[sG,h4]at G3;obtain⟨⟨t5,m5⟩,e5,k,v5,h5⟩:=r9 (n+6) I3 G3;exact Sd (mE (k:=1) (cR I3 (j:=0) rfl rfl) I3.S.o rfl rfl e5) ⟨k,c',v5,h5⟩
abbrev Rp:T:=.tup [.str [101,110,100]]
theorem FP{w:Nat}(S':WS m w v log)(hv:v.lines=[])(hh:v.hand=.non)(hl:log.length+2<900000):W (cN (n+2) 26 [.own w] m) (WR w v v (log++[.tup [.str [110,111,110,101],.int (v.tk+1)]]++[Rp]) m):=by
 rw[w26];refine ie rfl (iB (x9 (r:=[none]) S' rfl (Fu n S' (by omega)) λ_ m1 h=>⟨rfl,?_⟩))
 refine iB (xX (s':=⟨sv (.own w)::[none],m1⟩) (sA (bu (t:=.non) (u:=.non) (by rw[<- hh];exact w_fld h.2.1 (j:=7) rfl rfl) rfl rfl)) ⟨_,rfl,rfl,?_⟩)
 refine Mm (r:=[none]) (t:=Rp) h.2.1 (by simp;omega) (kG (bK (t:=.str [101,110,100]) rfl rfl) rfl) λm2 S2 F2=>oQ (W.of (Se (t:=.lst []) (by rw[<- hv];exact w_fld S2 (j:=0) rfl rfl) rfl) ⟨_,rfl,rfl,rfl,S2,h.2.2.trans F2⟩)
theorem x_(I:BI m c [] rs false v log)(G:GV log [])(VD:log.length<=10):W (cN (n+9) 34 [.own 0] m) (HO rs true (if rs=[]then[]else[rs])):=by
 rw[Xn];have I1:BI (m.set 0 (nH c rs true)) c [] rs true v log:=I.Mr;refine B3 rfl (Xu rfl I.oH (oU (n+7) I) (Xv (gi (W.of (Ip (r:=[]) (c':=c) (rs':=rs) (FI:=true) (t:=.bl true) I rfl rfl) ⟨rfl,?_⟩))));obtain⟨m1,Ro⟩:∃m1,m1=m.set 0 (nH c rs true):=⟨_,rfl⟩;rw[<- Ro]at I1;show WB _ ⟨[sv (.own 0)],m.set 0 (nH c rs true)⟩ _;rw[<- Ro];obtain⟨rws,wj⟩:∃rws,rws=(if rs=[]then[]else[rs]):=⟨_,rfl⟩
 rw[<- wj];have step:W (fW (dF (dD (bx .NotEq) (aI M.P.tab 23 (vF 0)) (cS []))) (bq (aH (aD [(4,36)] (cN (n+8))) (vF 0) (k1 (aI M.P.tab 23 (vF 0))))) bZ ⟨[sv (.own 0)],m1⟩) λp=>p.1=.nx/\∃m2 c' ws,p.2=⟨[sv (.own 0)],m2⟩/\BI m2 c' ws rs true v log/\ws.map (·.2)=rws:=by
  have c1:dF (dD (bx .NotEq) (aI M.P.tab 23 (vF 0)) (cS [])) ⟨[sv (.own 0)],m1⟩=.ok (!decide (rs=[]),⟨[sv (.own 0)],m1⟩):=sA (bu (t:=.str rs) (u:=.str []) (cR I1 (j:=4) rfl rfl) rfl rfl);by_cases hr:rs=[]
  ·rw[decide_eq_true hr]at c1
   rw[if_pos hr]at wj;exact xX c1 ⟨_,rfl,rfl,m1,c,[],rfl,I1,wj.symm⟩
  ·rw[decide_eq_false hr]at c1
   rw[if_neg hr]at wj;obtain⟨⟨t,m2⟩,e,_,k,I2⟩:=we (n+6) (x:=rs) I1 (by show 0<_;omega)
   exact xW c1 (dE (mE (k:=0) rfl I1.b rfl (bK (cR I1 (j:=4) rfl rfl) rfl) e) ⟨rfl,m2,_,_,rfl,I2,wj.symm⟩)
 refine gi (step.mono λp hp=>?_);obtain⟨h1,m2,c',ws,h2,I2,h3⟩:=hp;refine⟨h1,?_⟩;rw[h2];have lw:ws.length<=1:=by
  have:ws.length=rws.length:=by rw[<- h3,dB]
  rw[this,wj];split<;>simp
 obtain⟨⟨t3,m3⟩,e4,ht3,v3,VF,I3,G3,L3⟩:=all_eq n I2 G (by omega)
 refine gi (dE (mE (k:=0) (t:=t3) rfl I2.b rfl rfl e4) ⟨rfl,?_⟩);rw[sG,h3]at G3;obtain⟨⟨t4,m4⟩,e5,_,S4,F4⟩:=FP (n+6) I3.S I3.V.ln I3.V.hd (by omega)
 have I4:=I3.Xr S4 I3.V rfl F4;refine gi (dE (mE (k:=1) (t:=t4) (cR I3 (j:=0) rfl rfl) I3.S.o rfl rfl e5) ⟨rfl,?_⟩);obtain⟨⟨t5,m5⟩,e6,k,v5,h5⟩:=r9 (n+6) I4 (M1 (by decide) (M1 (by decide) G3))
 exact Sd (mE (k:=1) (cR I4 (j:=0) rfl rfl) I4.S.o rfl rfl e6) ⟨k,c',v5,h5⟩
end
def Ce:T->T:=λ_=>.bl true
theorem all_true:∀(l:Fs),boolsOf (l.map Ce)=some (l.map λ_=>true)
 |[]=>rfl
 |_::l=>by
  show(boolsOf (l.map Ce)).map _=_;rw[all_true l];rfl
theorem oV{p:T->T->Bool}:∀{ts:Fs},(∀t∈ts,p t t=true)->all2 p ts ts=true
 |[],_=>rfl
 |t::ts,h=>by
  show(p t t&&all2 p ts ts)=true;rw[h t (dj ..),oV λu hu=>h u (dm _ hu)];rfl
theorem FQ{n:Nat}{t:T}(h:bg t=true):shape n t t=true:=by
 cases t<;>first|(cases h;done)|(cases n<;>rfl)
theorem Ms{t:T}(h:shape 5 t t=true):bx .NotEq t t=some (.bl false):=by
 have:bx .NotEq t t=TJ t t:=by cases t<;>rfl
 rw[this];show gd (shape 5 t t=true) (T.bl (!eqT t t))=_;rw[lM];exact xV h
theorem Mt{t:T}(h:shape 5 t t=true):bx .Eq t t=some (.bl true):=by
 have:bx .Eq t t=TH t t:=by cases t<;>rfl
 rw[this];show gd (shape 5 t t=true) (T.bl (eqT t t))=_;rw[lM];exact xV h
theorem VG(L:Nat)(h:L<=1000):tF [.int (L:Nat)]=some ((GO 0 L).map λq=>T.int (q:Nat)):=by
 have:tF [.int (L:Nat)]=some (mK 0 (((L:Nat):Int)).toNat):=xV ⟨by omega,by omega⟩
 rw[this,Int.toNat_natCast];unfold mK;rw[List.range_eq_range'];exact congrArg some (CT λq _=>by rw[GQ])
theorem Cf{a b:FE}{s s1:S}{x y:Bool}(h:a s=.ok (.bl x,s1))(h2:x=true->b s1=.ok (.bl y,s1)):qO a b s=.ok (.bl (x&&y),s1):=by
 unfold qO;rw[h];refine Eq.trans (dz _ _) ?_;cases x with
 |true=>exact h2 rfl
 |false=>rfl
theorem wm(l:Ap):shape 5 (.lst (l.map T.str)) (.lst (l.map T.str))=true:=oV λt ht=>by
 obtain⟨x,_,rfl⟩:=sH.mp ht;exact FQ rfl
theorem b_:∀(l:Ap),bD (l.map T.str)=true
 |[]=>rfl
 |x::a=>by
  show(true&&bD (a.map T.str))=true;rw[b_ a];rfl
theorem sX{l:B1}{i:Int}(h0:0<=i)(h:i<(l.length:Nat)):∃c,lU (.str l) (.int i)=some (.str [c]):=by
 obtain⟨j,rfl⟩:∃j:Nat,i=j:=⟨i.toNat,by omega⟩
 have hj:j<l.length:=by omega
 refine⟨l[j],?_⟩;show(atT l (j:Int)).map (λc=>T.str [c])=_;rw[uv hj,eM hj];rfl
theorem Cg{i:Int}:cN (n+1) 8 [.int i] m=.ok (.bl true,m):=by
 rw[w8];exact sEq rfl rfl rfl (bR (t:=.bl true) rfl rfl)
theorem mod_eq{i j:Int}(h:0<j):gE .Mod (.int i) (.int j)=some (.int (i % j)):=xV h
theorem div_eq{i j:Int}(h:0<j/\j<1073741824):gE .FloorDiv (.int i) (.int j)=some (.int (i/j)):=xV h
theorem sign_eq{i:Int}:∃c,cN (n+1) 9 [.int i] m=.ok (.str [c],m):=by
 rw[w9];unfold t9
 generalize hl:(Q9:B1)=l
 clear hl;have e1:eg kC (k1 (vF 1)) ⟨[sv (.int i),sv (.str l),sv (.int (i % 120))],[]⟩=.ok (.int (l.length:Nat),⟨[sv (.int i),sv (.str l),sv (.int (i % 120))],[]⟩):=kG (ts:=[.str l]) rfl rfl;by_cases h:i % 120<(l.length:Nat)
 ·obtain⟨c,e⟩:=sX (l:=l) (i:=i % 120) (by omega) h
  exact⟨c,sEq rfl rfl rfl (bS (t:=.str l) rfl (bS (bu rfl rfl (mod_eq (by omega))) (bY (sA (bu rfl e1 (by rw[Q_,decide_eq_true h]))) (bR (bu (t:=.str l) (u:=.int (i % 120)) rfl rfl e) rfl))))⟩
 ·exact⟨10,sEq rfl rfl rfl (bS (t:=.str l) rfl (bS (bu rfl rfl (mod_eq (by omega))) (bN (sA (bu rfl e1 (by rw[Q_,decide_eq_false h]))) (bR rfl rfl))))⟩
theorem VH{i j:Int}(h:(-(2^64)<i/\i<2^64)\/(-(2^64)<j/\j<2^64)):gE .Mult (.int i) (.int j)=some (.int (i*j)):=xV (.inl h)
theorem mul_eq{q:Nat}(h:q<1000):gE .Mult (.int (q:Nat)) (.int (q:Nat))=some (.int ((q:Nat)*(q:Nat))):=by
 exact VH (.inl ⟨by omega,by omega⟩)
theorem r_(n:Nat){y0 y1 y2:Option C}:∀(l:B1)(i:Int)(x:B1)(u:Option C),(∀q∈l,q<1000)->x.length+l.length<=1000 ->
  W (dg (setG 5) (ao (aZ 4 (oA (vF 4) (bj (cN (n+1) 9) [] (k1 (oA (vF 3) (dD (gE .Mult) (vF 5) (vF 5)))))))
 (aZ 3 (oD (vF 3) (cI 120)))) (l.map λq=>T.int (q:Nat)) ⟨[y0,y1,y2,sv (.int i),sv (.str x),u],[]⟩) λp=>p.1=.nx/\∃i' z u',p.2=⟨[y0,y1,y2,sv (.int i'),sv (.str z),u'],[]⟩/\z.length=x.length+l.length
 |[],i,x,u,_,_=>⟨_,rfl,rfl,i,x,u,rfl,rfl⟩
 |q::l,i,x,u,hq,hl=>by
  rw[cT]at hl;have h:=hq q (dj ..);obtain⟨c,ec⟩:=sign_eq n (i:=i+(q:Nat)*(q:Nat)) (m:=[]);refine oR (r:=[y0,y1,y2,sv (.int i),sv (.str x),sv (.int (q:Nat))]) rfl (wS (bu (t:=.str x) (u:=.str [c]) rfl (cE (ts:=[.int (i+(q:Nat)*(q:Nat))]) (bK (bu (t:=.int i) (u:=.int ((q:Nat)*(q:Nat))) rfl (bu (t:=.int (q:Nat)) (u:=.int (q:Nat)) rfl rfl (mul_eq h)) rfl) rfl) ec) (Cc (by show _+1<=_;omega))) (W.of (xY (bu rfl rfl (div_eq ⟨by omega,by omega⟩))) ⟨rfl,(r_ n l (i/120) (x++[c]) (sv (.int (q:Nat))) (λq zL=>hq q (dm _ zL)) (by rw[gH];show _+1+_<=_;omega)).mono λp hp=>?_⟩))
  obtain⟨h1,i',z,u',h2,h3⟩:=hp;refine⟨h1,i',z,u',h2,?_⟩;simp only[gH,cT,CP]at h3 ⊢;omega
theorem pow10(k:Nat)(h:(k:Int)<=1000000):gE .Pow (.int 10) (.int k)=some (.int (10^k)):=xV ⟨by omega,h,by decide⟩
theorem pow_eq:∃k:Int,0<k/\gE .Pow (.int 10) (.int 60)=some (.int k):=⟨10^60,Int.pow_pos (by decide),pow10 60 (by decide)⟩
theorem Ci{cell room:Int}(h0:0<=room)(h1:room<=190):∃x:B1,(x.length:Int)<=room/\cN (n+2) 10 [.int cell,.int room] m=.ok (.str x,m):=by
 rw[RO];obtain⟨pw,hpw,epw⟩:=pow_eq;have main:W (Xk (cN (n+1)) [.int cell,.int room] m) λp=>∃x:B1,(x.length:Int)<=room/\p=(.str x,m):=by
  refine Ii (G:=λp=>∃x:B1,(x.length:Int)<=room/\p=(.str x,m)) rfl (B3 rfl (bS (bu (t:=.int cell) (u:=.int 4) rfl rfl (mod_eq (by omega))) ?_))
  have step:∀(B:FS)(G:T×FR->Prop),(∀Cy:Int,0<=Cy->WB B ⟨[sv (.int cell),sv (.int room),sv (.int Cy),none,none,none],[]⟩ G)->WB (ao (fW (dF (oE (oM (oD (vF 0) (cI 4)) (cI 9)) (cI 1))) (aZ 2 (oM (oD (vF 0) (cI 36)) (cI 31))) bZ) B) ⟨[sv (.int cell),sv (.int room),sv (.int (cell % 4)),none,none,none],[]⟩ G:=λB G k=>by
   have c1:dF (oE (oM (oD (vF 0) (cI 4)) (cI 9)) (cI 1)) ⟨[sv (.int cell),sv (.int room),sv (.int (cell % 4)),none,none,none],[]⟩=.ok (decide (cell/4 % 9=1),⟨[sv (.int cell),sv (.int room),sv (.int (cell % 4)),none,none,none],[]⟩):=sA (bu (bu (bu rfl rfl (div_eq ⟨by omega,by omega⟩)) rfl (mod_eq (by omega))) rfl (Rg _ _))
   by_cases h:cell/4 % 9=1
   ·rw[decide_eq_true h]at c1
    exact bI c1 (bu (bu rfl rfl (div_eq ⟨by omega,by omega⟩)) rfl (mod_eq (by omega))) (k _ (by omega))
   ·rw[decide_eq_false h]at c1
    exact bN c1 (k _ (by omega))
  refine step _ _ λCy hm=>?_;refine bS (bu (bu rfl rfl (div_eq ⟨by omega,by omega⟩)) (bu rfl rfl epw) (mod_eq hpw)) (bS (t:=.str []) rfl ?_)
  obtain⟨L,hL⟩:∃L:Nat,(if room<Cy then room else Cy)=L:=⟨(if room<Cy then room else Cy).toNat,by split<;>omega⟩
  have hLr:(L:Int)<=room:=by rw[<- hL];split<;>omega
  refine gi (oQ (W.of (Vy (ts:=[.int (L:Nat)]) (bK (kG (ts:=[.int Cy,.int room]) rfl (by show some (T.int (if room<Cy then room else Cy))=_;rw[hL])) rfl) (VG L (by omega))) ?_))
  refine W.mono (r_ n (GO 0 L) _ [] none (λq hq=>by have:=(List.mem_range'_1.mp hq).2;omega) (by rw[GP];show 0+_<=_;omega)) λp hp=>?_
  obtain⟨k1,i',z,u',k2,k3⟩:=hp;refine⟨k1,?_⟩;rw[k2];rw[GP]at k3;have k3:z.length=0+L:=k3;exact bR (t:=.str z) rfl ⟨rfl,z,by omega,rfl⟩
 obtain⟨p,e,x,hx,rfl⟩:=main;exact⟨x,hx,e⟩
theorem uw{y1:Option C}:∀(p l:B1)(eG:Ap)(u:Option C),l.length+p.length<=1000->eG.length+p.length<=1000 ->
  W (dg (setG 3) (fW (dF (oE (vF 3) (cS [10])))
  (ao (iQ 2 (vF 0))
 (aZ 0 (cS [])))
  (aZ 0 (oA (vF 0) (vF 3)))) (p.map λc=>T.str [c]) ⟨[sv (.str l),y1,some (.ol (eG.map T.str)),u],[]⟩) λq=>q.1=.nx/\∃u',q.2=⟨[sv (.str (cP l p).2),y1,some (.ol ((eG++(cP l p).1).map T.str)),u'],[]⟩
 |[],l,eG,u,_,_=>⟨_,rfl,rfl,u,by rw[cP,fh]⟩
 |c::p,l,eG,u,h1,h2=>by
  rw[cT]at h1 h2;have c1:dF (oE (vF 3) (cS [10])) ⟨[sv (.str l),y1,some (.ol (eG.map T.str)),sv (.str [c])],[]⟩=.ok (decide ([c]=[10]),⟨[sv (.str l),y1,some (.ol (eG.map T.str)),sv (.str [c])],[]⟩):=sA (bu rfl rfl (Vv _ _));by_cases e:c=10
  ·subst e
   rw[B_];have e2:eG.map T.str++[T.str l]=(eG++[l]).map T.str:=by rw[jI];rfl
   refine oR (r:=[sv (.str l),y1,some (.ol (eG.map T.str)),sv (.str [10])]) rfl (xW c1 (iB (W.of (Mj (i:=2) (K2:=eG.map T.str) (ts:=eG.map T.str) (t:=.str l) rfl rfl rfl (by rw[dB];omega)) ⟨rfl,W.of (xY rfl) ⟨rfl,?_⟩⟩)))
   show W (dg _ _ _ ⟨[sv (.str []),y1,some (.ol (eG.map T.str++[T.str l])),sv (.str [10])],[]⟩) _;rw[e2];refine(uw p [] (eG++[l]) (sv (.str [10])) (by show 0+_<=_;omega) (by rw[gH];show _+1+_<=_;omega)).mono λq hq=>⟨hq.1,?_⟩
   obtain⟨u',k⟩:=hq.2;exact⟨u',k.trans (by rw[y9];rfl)⟩
  ·rw[decide_eq_false (by intro z;injection z with z;exact e z)]at c1
   rw[Cb e];exact oR (r:=[sv (.str l),y1,some (.ol (eG.map T.str)),sv (.str [c])]) rfl (xX c1 (W.of (xY (bu (t:=.str l) (u:=.str [c]) rfl rfl (Cc (by show _+1<=_;omega)))) ⟨rfl,uw p (l++[c]) eG (sv (.str [c])) (by rw[gH];show _+1+_<=_;omega) (by omega)⟩))
theorem FU{l p:B1}(h:l.length+p.length<=1000):cN (n+1) 11 [.str l,.str p] m=.ok (.tup [.lst ((cP l p).1.map T.str),.str (cP l p).2],m):=by
 rw[ZQ];refine sEq rfl rfl ?_ (gi (W.of (a:=(Out.nx,(⟨[sv (.str l),sv (.str p),some (.ol []),none],[]⟩:S))) rfl ⟨rfl,gi (oQ (W.of (a:=(p.map λc=>T.str [c],(⟨[sv (.str l),sv (.str p),some (.ol []),none],[]⟩:S))) rfl ((uw p l [] none h (by show 0+_<=_;omega)).mono λq hq=>⟨hq.1,?_⟩)))⟩))
 ·show(bD ((cP l p).1.map T.str)&&(true&&true))=true
  rw[b_];rfl
 ·obtain⟨u',k⟩:=hq.2
  rw[k];exact Sd (s':=⟨[sv (.str (cP l p).2),sv (.str p),sv (.lst ((cP l p).1.map T.str)),u'],[]⟩) rfl rfl
theorem wo{l:Ap}(h:l.length<=1000):cN (n+1) 12 [.lst (l.map T.str),.lst (l.map T.str)] m=.ok (.bl true,m):=by
 rw[ZS];refine sEq ?_ rfl rfl (bR (t:=.bl true) (Cf (x:=true) (y:=true) rfl λ_=>Cf (x:=true) (y:=true) (kG (ts:=[.lst ((l.map T.str).map Ce)]) (bK (Xp (Se (t:=.lst (l.map T.str)) rfl rfl) (by rw[dB];omega) rfl (mD λt ht=>?_)) rfl) ?_) λ_=>bu (t:=.lst (l.map T.str)) rfl rfl (Mt (wm l))) rfl)
 ·show(bD (l.map T.str)&&(bD (l.map T.str)&&true))=true
  rw[b_];rfl
 ·obtain⟨x,_,rfl⟩:=sH.mp ht
  exact⟨[none,sv (.str x)],[none,sv (.str x)],rfl,rfl⟩
 ·simp only[DZ,JI,all_true]
  simp
theorem VJ{a:FE}{s s1:S}{t:T}{f k:Nat}{ob jw:Ob}(ha:a s=.ok (t,s1))(hv:vF 0 s1=.ok (.own k,s1))(hm:s1.m[k]?=some ob)(hp:cy M.P.tab f (.val t) ob=some jw):aE M.P.tab f (vF 0) a s=.ok (.nx,⟨s1.r,s1.m.set k jw⟩):=by
 unfold aE;rw[ha];refine Eq.trans (dz _ _) ?_;dsimp only;rw[hv];refine Eq.trans (dz _ _) ?_;dsimp only;rw[hm];show Res.bind (aT (cy M.P.tab f (.val t) ob)) _=_;rw[hp];rfl
theorem Rq{a:FE}{s s1:S}{t:T}(h:a s=.ok (t,s1)):bq a s=.ok (.nx,s1):=by unfold bq;rw[h];rfl
abbrev ux:T:=.obj 0 [.lst []]
theorem VL :cN (n+1) 3 [.str []] m=.ok (.tup [.lst [],.bl true],m):=by rw[w3];rfl
theorem Mu :cN (n+1) 5 [.lst []] m=.ok (.lst [],m):=by rw[w5];rfl
theorem Mv :cN (n+1) 6 [.lst []] m=.ok (.c8 [] [],m):=by rw[w6];rfl
theorem Rr :cN (n+1) 7 [.lst [],.c8 [] []] m=.ok (.non,m):=by rw[w7];rfl
theorem read0 :cN (n+2) 4 [.str []] m=.ok (ux,m):=by
 rw[w4];exact sEq rfl rfl rfl (bS (cE (ts:=[.lst []]) (bK (pE (cE (ts:=[.str []]) rfl (VL n)) rfl rfl) rfl) (Mu n)) (bS (cE (ts:=[.lst []]) rfl (Mv n)) (gi (dE (cE (ts:=[.lst [],.c8 [] []]) rfl (Rr n)) ⟨rfl,bR rfl rfl⟩))))
theorem Rt :cN (n+1) 1 [.lst []] m=.ok (.c8 [] [],m):=by rw[w1];rfl
theorem Mw :cN (n+1) 2 [ux] m=.ok (.int 0,m):=by rw[w2];rfl
abbrev sd:Ob:=⟨2,[.val (.lst []),.val (.own 3)]⟩
theorem FW{a b:Ob}:cN (n+1) 18 [.own 2,.lst []] [a,b,⟨2,[]⟩]=.ok (.non,[a,b,sd,aJ]):=by rw[Z5];rfl
def ya:WV:=⟨[],.c8 [] [],2,.lst [],0,4,0,.non,0,5,6,7,8,false⟩
theorem Ru{a:Ob}:cN (n+1) 21 [.own 1] [a,ya.ob,sd,aJ,aJ,aJ,aJ,dG [],dG []]=.ok (.non,[a,{ya with wt:=true}.ob,sd,aJ,aJ,aJ,aJ,dG [],dG [c6 0]]):=by rw[Xl];rfl
abbrev wO(k:Nat):Ob:=⟨3,ya.ob.fs.take k⟩
theorem dW{a:Ob}{Z Z':FR}{r:Fh}{f k:Nat}{t:T}{e:FE}{B:FS}{R:Res (Out×S)}(ha:e ⟨sv (.own 1)::r,a::wO k::Z⟩=.ok (t,⟨sv (.own 1)::r,a::wO k::Z'⟩))(hp:cy M.P.tab f (.val t) (wO k)=some (wO (k+1)))(h:B ⟨sv (.own 1)::r,a::wO (k+1)::Z'⟩=R):ao (aE M.P.tab f (vF 0) e) B ⟨sv (.own 1)::r,a::wO k::Z⟩=R:=seq1 (VJ (k:=1) ha rfl rfl hp) h
theorem FY{a:Ob}:cN (n+2) 20 [.own 1,ux] [a,⟨3,[]⟩]=.ok (.non,[a,{ya with wt:=true}.ob,sd,aJ,aJ,aJ,aJ,dG [],dG [c6 0]]):=by
 rw[Z9];refine Fi (s':=⟨sv (.own 1)::[sv ux],[a,{ya with wt:=true}.ob,sd,aJ,aJ,aJ,aJ,dG [],dG [c6 0]]⟩) rfl ?_ rfl
 show ao _ _ ⟨sv (.own 1)::[sv ux],a::wO 0::[]⟩=_;refine dW (t:=.lst []) rfl rfl (dW (t:=.c8 [] []) (cE (ts:=[.lst []]) rfl (Rt n)) rfl ?_);refine dW (t:=.own 2) (Z':=[sd,aJ]) (Fo (ts:=[.lst []]) (s':=⟨sv (.own 1)::[sv ux],a::wO 2::[]⟩) rfl (FW n)) rfl ?_;refine dW (t:=.lst []) rfl rfl (dW (t:=.int 0) rfl rfl ?_);refine dW (t:=.own 4) (Z':=[sd,aJ,aJ]) rfl rfl ?_;refine dW (t:=.int 0) rfl rfl (dW (t:=.non) rfl rfl (dW (t:=.int 0) rfl rfl ?_));refine dW (t:=.own 5) (Z':=[sd,aJ,aJ,aJ]) rfl rfl ?_;refine dW (t:=.own 6) (Z':=[sd,aJ,aJ,aJ,aJ]) rfl rfl ?_;refine dW (t:=.own 7) (Z':=[sd,aJ,aJ,aJ,aJ,dG []]) rfl rfl ?_;refine dW (t:=.own 8) (Z':=[sd,aJ,aJ,aJ,aJ,dG [],dG []]) rfl rfl ?_;refine dW (t:=.bl false) rfl rfl ?_;exact Rq (mE (k:=1) (ob:=ya.ob) rfl rfl rfl rfl (Ru n))
theorem Rv:∃m v,BI m 0 [] [] false v [c6 0]/\cN (n+3) 32 [.own 0,ux] [⟨4,[]⟩]=.ok (.non,m):=by
 refine⟨[nH 0 [] false,{ya with wt:=true}.ob,sd,aJ,aJ,aJ,aJ,dG [],dG [c6 0],dG []],{ya with wt:=true},⟨⟨rfl,rfl,by decide,by decide⟩,⟨rfl,rfl,rfl,rfl,rfl,rfl,rfl,rfl,.inl rfl⟩,rfl,rfl,rfl,rfl,rfl,rfl,λp hp=>by cases hp⟩,?_⟩
 rw[w32];obtain⟨wb,hwb⟩:∃wb:FR,wb=[{ya with wt:=true}.ob,sd,aJ,aJ,aJ,aJ,dG [],dG [c6 0]]:=⟨_,rfl⟩
 refine Fi (s':=⟨[sv (.own 0),sv ux],[nH 0 [] false,{ya with wt:=true}.ob,sd,aJ,aJ,aJ,aJ,dG [],dG [c6 0],dG []]⟩) rfl (seq1 (s':=⟨[sv (.own 0),sv ux],[⟨4,[.val (.own 1)]⟩,{ya with wt:=true}.ob,sd,aJ,aJ,aJ,aJ,dG [],dG [c6 0]]⟩) (VJ (k:=0) (t:=.own 1) (Fo (ts:=[ux]) (s':=⟨[sv (.own 0),sv ux],[⟨4,[]⟩]⟩) rfl (FY n)) rfl rfl rfl) (seq1 (s':=⟨[sv (.own 0),sv ux],[⟨4,[.val (.own 1),.val (.int 0)]⟩,{ya with wt:=true}.ob,sd,aJ,aJ,aJ,aJ,dG [],dG [c6 0]]⟩) (VJ (k:=0) (t:=.int 0) (s1:=⟨[sv (.own 0),sv ux],[⟨4,[.val (.own 1)]⟩,{ya with wt:=true}.ob,sd,aJ,aJ,aJ,aJ,dG [],dG [c6 0]]⟩) (cE (ts:=[ux]) rfl (Mw (n+1))) rfl rfl rfl) ?_)) rfl
 exact seq1 rfl (seq1 rfl (seq1 rfl rfl))
section
variable{m:FR}{c:Int}{rs x:B1}{fn b:Bool}{v:WV}{log:Fs}
theorem uy(I:BI m c [] rs fn v log){r:Fh}{f j:Nat}{t:T}(hj:gD M.P.tab 3 f=some j)(hf:v.ob.fs[j]?=sv t):aI M.P.tab f (aI M.P.tab 19 (vF 0)) ⟨sv (.own 0)::r,m⟩=.ok (t,⟨sv (.own 0)::r,m⟩):=B4 (k:=1) (cR I (j:=0) rfl rfl) I.S.o hj hf
theorem uz(I:BI m c [] rs fn v log):cN (n+1) 31 [.own 1] m=.ok (.int 0,m):=by
 rw[w31];refine rY (s':=⟨[sv (.own 1),sv (.int 0),none],m⟩) rfl (seq1 (s':=⟨[sv (.own 1),sv (.int 0),none],m⟩) rfl (seq1 (s':=⟨[sv (.own 1),sv (.int 0),none],m⟩) ?_ rfl)) rfl;unfold vK;rw[w_fld I.S (j:=9) (t:=.own 5) rfl (by rw[<- I.V.sh];rfl)]
 refine Eq.trans (dz _ _) ?_;dsimp only;rw[Il (ks:=[]) (ts:=[]) I.sh];rfl
theorem FZ(I:BI m c [] rs fn v log):cN (n+2) 40 [.own 0] m=.ok (.int 0,m):=by
 rw[w40];exact rY (s':=⟨[sv (.own 0)],m⟩) rfl (Fg (bu (t:=.int 0) (u:=.int 0) (bu (t:=.int 0) (u:=.int 0) (B7 (cR I (j:=3) rfl rfl) I.q) (uy I (j:=8) rfl (by rw[<- I.V.hr];rfl)) rfl) (mE (k:=1) (cR I (j:=0) rfl rfl) I.S.o rfl rfl (uz n I)) rfl)) rfl
theorem Cj(I:BI m c [] rs fn v log):cN (n+1) 38 [.own 0] m=.ok (.c8 [] [],m):=by
 rw[w38];refine rY (s':=⟨[sv (.own 0)],m⟩) rfl (Fg ?_) rfl;unfold EA;refine Eq.trans (congrArg (λz=>Res.bind z _) (uy I (r:=[]) (j:=10) (t:=.own 6) rfl (by rw[<- I.V.su];rfl))) ?_
 refine Eq.trans (dz _ _) ?_;dsimp only;rw[Il (ks:=[]) (ts:=[]) I.su];rfl
theorem yb(I:BI m c [] rs fn v log):cN (n+1) 39 [.own 0] m=.ok (.lst [],m):=by
 rw[w39];refine rY (s':=⟨[sv (.own 0)],m⟩) rfl (Fg ?_) rfl;unfold EB;refine Eq.trans (congrArg (λz=>Res.bind z _) (uy I (r:=[]) (j:=11) (t:=.own 7) rfl (by rw[<- I.V.no];rfl))) ?_
 refine Eq.trans (dz _ _) ?_;dsimp only;rw[jF (ts:=[]) I.no];rfl
theorem Cm(I:BI m c [] rs true v log):∃r,cN (n+2) 33 [.own 0,.str x] m=.exc 0 [] ⟨r,m⟩:=by
 rw[Xm];refine⟨[sv (.own 0),sv (.str x),none,none],?_⟩;show Res.bind (Res.bind (oG (aT (oH 4 m (.own 0)))) _) _=_;rw[I.oH];show Res.bind (match cN (n+1) 35 [.own 0] m with|.ok _=>_|.exc _ _ _=>_|.bad=>_) _=_
 rw[mH n I];rfl
theorem Cn(I:BI m c [] rs true v log):∃r,cN (n+2) 34 [.own 0] m=.exc 0 [] ⟨r,m⟩:=by
 rw[Xn];refine⟨[sv (.own 0)],?_⟩;show Res.bind (Res.bind (oG (aT (oH 4 m (.own 0)))) _) _=_;rw[I.oH];show Res.bind (match cN (n+1) 35 [.own 0] m with|.ok _=>_|.exc _ _ _=>_|.bad=>_) _=_
 rw[mH n I];rfl
theorem VM{g:Fn}{fl:FL}{r0:Fh}{ts:Fs}{r:Fh}(hr:oH 4 m (.own 0)=some ())(hf:fl ⟨sv (.own 0)::r0,m⟩=.ok (ts,⟨sv (.own 0)::r0,m⟩))(hg:g (.own 0::ts) m=.exc 0 [] ⟨r,m⟩):yn 4 g (vF 0) fl ⟨sv (.own 0)::r0,m⟩=.exc 0 [] ⟨sv (.own 0)::r0,m⟩:=by
 unfold yn;show Res.bind (oG (aT (oH 4 m (.own 0)))) _=_;rw[hr];show Res.bind (oG (fl ⟨sv (.own 0)::r0,m⟩)) _=_;rw[hf];show(match g (.own 0::ts) m with|.ok _=>_|.exc _ _ _=>_|.bad=>_)=_
 rw[hg]
theorem Rw{F A:FS}{s s1:S}{q:Res (Out×S)}(h:F s=.exc 0 [] s1)(k:A s1=q):jA F A s=q:=by unfold jA;rw[h];exact k
theorem mJ(I:BI m c [] rs true v log):cN (n+3) 13 [.own 0,.bl b] m=.ok (.bl true,m):=by
 rw[ZU];obtain⟨r1,e1⟩:=Cm n (x:=[97,10]) I;obtain⟨r2,e2⟩:=Cn n I;refine rY (s':=⟨[sv (.own 0),sv (.bl b),sv (.lst [.bl true,.bl true,.bl false,.bl false,.bl false,.bl false,.bl false,.bl false,.bl false]),none],m⟩) rfl (seq1 (s':=⟨[sv (.own 0),sv (.bl b),sv (.lst []),none],m⟩) rfl (seq1 (s':=⟨[sv (.own 0),sv (.bl b),sv (.lst [.bl true,.bl true,.bl false,.bl false,.bl false,.bl false,.bl false,.bl false,.bl false]),none],m⟩) (Rw (s1:=⟨[sv (.own 0),sv (.bl b),sv (.lst []),none],m⟩) ?_ rfl) rfl)) rfl;cases b with
 |true=>exact VM (r0:=[sv (.bl true),sv (.lst []),none]) I.oH rfl e1
 |false=>exact VM (r0:=[sv (.bl false),sv (.lst []),none]) I.oH rfl e2
theorem named_eq(I:BI m c [] rs true v log):cN (n+3) 14 [.own 0] m=.ok (.bl true,m):=by
 rw[ZW];obtain⟨r1,e1⟩:=Cm n (x:=[]) I;exact rY (s':=⟨[sv (.own 0),sv (.bl true)],m⟩) rfl (seq1 (s':=⟨[sv (.own 0),sv (.bl false)],m⟩) rfl (seq1 (s':=⟨[sv (.own 0),sv (.bl true)],m⟩) (Rw (s1:=⟨[sv (.own 0),sv (.bl false)],m⟩) (VM (r0:=[sv (.bl false)]) I.oH rfl e1) rfl) rfl)) rfl
end
theorem Rx{a:FE}{s s1:S}{i k:Nat}{ts:Fs}(h:a s=.ok (.own k,s1))(hm:s1.m[k]?=some (dG ts)):rH M.bc i a s=.ok (.nx,i7 ⟨s1.r,s1.m.set k ⟨M.bc,[]⟩⟩ i (.ol ts)):=by
 unfold rH;rw[h];refine Eq.trans (dz _ _) ?_;dsimp only;rw[jF hm];rfl
theorem Ir{f:Fn}{i:Nat}{b:FE}{s:S}{ts:Fs}{t u:T}(h0:s.r[i]?=some (some (.ol ts)))(hb:b s=.ok (t,s))(hf:f [.lst ts,t] []=.ok (u,[]))(n1:bD ts=true)(n2:noOwn t=true)(n3:bg u=true):kg f i b s=.ok (u,s):=by
 unfold kg;rw[h0];show Res.bind (b s) _=_;rw[hb];refine Eq.trans (dz _ _) ?_;dsimp only;rw[h0];show(match f [.lst ts,t] []with|.ok q=>_|_=>_)=_
 rw[hf];exact if_pos ⟨n1,n2,n3⟩
theorem BI.free{c:Int}{rs:B1}{fn:Bool}{v:WV}{log:Fs}(I:BI m c [] rs fn v log){k:Nat}(h:10<=k)(hg:k≠v.lg):BI (m.set k ⟨M.bc,[]⟩) c [] rs fn v log:=I.put (by omega) hg (λz=>by omega) (λ_=>⟨rfl,rfl,rfl⟩) (λz=>by omega) (λ_=>rfl) (λp hp=>by cases hp) (.inr (.inr h))
abbrev oW(l:Ap):T:=.tup [.lst (l.map T.str),.lst (l.map T.str)]
def LI(left:B1)(fn:Bool)(m:FR):Prop:=∃c v log,BI m c [] left fn v log/\GV log []/\log.length<=10
theorem VN{g:FG}{a:FE}{s:S}{t:T}{r:Fh}{B:FS}{Q:Out×S->Prop}(h:a s=.ok (t,s))(k:g t s.r=some r)(w:W (B ⟨r,s.m⟩) Q):W (ao (qQ g a) B s) Q:=iB ⟨_,by unfold qQ;rw[h];refine Eq.trans (dz _ _) ?_;dsimp only;rw[k];rfl,rfl,w⟩
theorem VO{c:FT}{A B:FS}{s:S}{Q:Out×S->Prop}(h:c s=.ok (false,s))(w:W (B s) Q):W (ao (fW c A bZ) B s) Q:=iB (xX h ⟨_,rfl,rfl,w⟩)
theorem Co{c d:FT}{s:S}(h:c s=.ok (false,s))(h2:d s=.ok (false,s)):sf c d s=.ok (false,s):=orN h h2
theorem Ry:GV [] []:=⟨λ_ he=>(nomatch he),rfl⟩
section
variable{m:FR}{c:Int}{rs:B1}{fn:Bool}{v:WV}{log:Fs}{y0:Option C}{r:Fh}
theorem Xw(I:BI m c [] rs fn v log):aH (aD [(4,38)] (cN (n+1))) (vF 1) aU ⟨y0::sv (.own 0)::r,m⟩=.ok (.c8 [] [],⟨y0::sv (.own 0)::r,m⟩):=mE (k:=0) rfl I.b rfl rfl (Cj n I)
theorem Xx(I:BI m c [] rs fn v log):aH (aD [(4,39)] (cN (n+1))) (vF 1) aU ⟨y0::sv (.own 0)::r,m⟩=.ok (.lst [],⟨y0::sv (.own 0)::r,m⟩):=mE (k:=0) rfl I.b rfl rfl (yb n I)
end
section
variable{ns:Dx}
abbrev lS(ns:Dx)(m:FR)(a2 a3 a4 a5 a6 a7 a8 a9 Ti Hh:Option C):S:=⟨[sv (.scr ns),sv (.own 0),a2,a3,a4,a5,a6,a7,a8,a9,Ti,Hh],m⟩
theorem Mx{cell room:Int}{left:B1}{held:List Ap}{u7 u8 u9 qk:Option C}(h:LI left false m)(M3:10∉left)(h0:0<=room)(h1:(left.length:Int)+room<=190)(hh:held.length<1000) :
  W ((ao (aZ 7 (bj (cN (n+9) 10) [] (k2 (vF 5) (vF 2))))
 (ao (aZ 2 (dD (gE .Sub) (vF 2) (eg kC (k1 (vF 7)))))
 (ao (qQ (gq [11,3]) (bj (cN (n+9) 11) [] (k2 (vF 3) (vF 7))))
 (ao (rH M.bc 8 (aH (aD [(4,33)] (cN (n+9))) (vF 1) (k1 (vF 7))))
 (ao (fW (g_ (tB (kg (cN (n+9) 12) 8 (vF 11))))
  (bw (cF (.bl false)))
  bZ)
 (ao (aZ 9 (aH (aD [(4,40)] (cN (n+9))) (vF 1) aU))
 (ao (fW (sf (g_ (tB (bj (cN (n+9) 8) [] (k1 (vF 9))))) (sf (dF (dD (bx .NotEq) (vF 9) (cI 0))) (sf (dF (dD (bx .NotEq) (aH (aD [(4,38)] (cN (n+9))) (vF 1) aU) (cF (.c8 [] [])))) (dF (dD (bx .NotEq) (aH (aD [(4,39)] (cN (n+9))) (vF 1) aU) (eg lN aU))))))
  (bw (cF (.bl false)))
  bZ)
 (ao (fW (dF (oE (oM (vF 5) (cI 5)) (cI 1)))
  (iQ 8 (cS [97,32,114,111,119,32,109,111,114,101]))
  bZ)
 (iQ 4 (eg iO (k2 (vF 8) (eg lW (k1 (vF 8)))))))))))))) (lS ns m (sv (.int room)) (sv (.str left)) (some (.ol (held.map oW))) (sv (.int cell)) none u7 u8 u9 none qk)) λp=>p.1=.nx/\∃m' iG fV rows u7 u8 u9 qk,p.2=lS ns m' (sv (.int iG)) (sv (.str fV)) (some (.ol ((held++[rows]).map oW))) (sv (.int cell)) none u7 u8 u9 none qk/\LI fV false m'/\10∉fV/\0<=iG/\(fV.length:Int)+iG<=190:=by
 obtain⟨c,v,log,I,G,hl⟩:=h;obtain⟨x,hx,ex⟩:=Ci (n+7) (cell:=cell) (m:=m) h0 (by omega)
 obtain⟨z1,z2,z3,z4⟩:=kY x left M3;have el:=FU (n+8) (l:=left) (p:=x) (m:=m) (by omega)
 obtain⟨⟨tk,mk⟩,ef,k,c2,v2,hk,My,VP,Rz,I2⟩:=FN n (x:=x) I G M3 (by omega) (by omega) hl
 obtain⟨rws,wj⟩:∃rws,rws=(cP left x).1:=⟨_,rfl⟩;obtain⟨lf,VE⟩:∃lf,lf=(cP left x).2:=⟨_,rfl⟩;rw[<- wj]at z1 z4 el Rz;rw[<- VE]at z1 z2 z3 el I2;have hk:tk=.own k:=hk;subst hk;have I3:=I2.free My VP;refine wS (cE (ts:=[.int cell,.int room]) rfl ex) (wS (t:=.int (room-(x.length:Nat))) (bu (t:=.int room) (u:=.int (x.length:Nat)) rfl (kG (ts:=[.str x]) rfl rfl) rfl) (VN (r:=[sv (.scr ns),sv (.own 0),sv (.int (room-(x.length:Nat))),sv (.str lf),some (.ol (held.map oW)),sv (.int cell),none,sv (.str x),u8,u9,none,sv (.lst (rws.map T.str))]) (cE (ts:=[.str left,.str x]) rfl el) rfl (iB (W.of (Rx (i:=8) (mE (k:=0) rfl I.b rfl rfl ef) Rz) ⟨rfl,?_⟩))));obtain⟨m3,RA⟩:∃m3,m3=mk.set k ⟨M.bc,[]⟩:=⟨_,rfl⟩;rw[<- RA]at I3;show W (ao _ _ (lS ns (mk.set k ⟨M.bc,[]⟩) (sv (.int (room-(x.length:Nat)))) (sv (.str lf)) (some (.ol (held.map oW))) (sv (.int cell)) none (sv (.str x)) (some (.ol (rws.map T.str))) u9 none (sv (.lst (rws.map T.str))))) _;rw[<- RA];refine VO (xZ (Ik (Ir (ts:=rws.map T.str) (t:=.lst (rws.map T.str)) rfl rfl (wo (n+8) (by omega)) (b_ _) (b_ _) rfl))) ?_
 refine wS (mE (k:=0) rfl I3.b rfl rfl (FZ (n+7) I3)) ?_;refine VO (Co (xZ (Ik (cE (ts:=[.int 0]) rfl (Cg (n+8))))) (Co (sA (bu (t:=.int 0) (u:=.int 0) rfl rfl rfl)) (Co (sA (bu (Xw (n+8) I3) rfl rfl)) (sA (bu (Xx (n+8) I3) rfl rfl))))) ?_;have fin:∀rows:Ap,W (iQ 4 (eg iO (k2 (vF 8) (eg lW (k1 (vF 8))))) (lS ns m3 (sv (.int (room-(x.length:Nat)))) (sv (.str lf)) (some (.ol (held.map oW))) (sv (.int cell)) none (sv (.str x)) (some (.ol (rows.map T.str))) (sv (.int 0)) none (sv (.lst (rws.map T.str))))) λp=>p.1=.nx/\∃m' iG fV rows u7 u8 u9 qk,p.2=lS ns m' (sv (.int iG)) (sv (.str fV)) (some (.ol ((held++[rows]).map oW))) (sv (.int cell)) none u7 u8 u9 none qk/\LI fV false m'/\10∉fV/\0<=iG/\(fV.length:Int)+iG<=190:=λrows=>by
  refine W.of (Mj (i:=4) (K2:=held.map oW) (ts:=held.map oW) (t:=oW rows) (s1:=lS ns m3 (sv (.int (room-(x.length:Nat)))) (sv (.str lf)) (some (.ol (held.map oW))) (sv (.int cell)) none (sv (.str x)) (sv (.lst (rows.map T.str))) (sv (.int 0)) none (sv (.lst (rws.map T.str)))) rfl (kG (ts:=[.lst (rows.map T.str),.lst (rows.map T.str)]) rfl rfl) rfl (by rw[dB];omega)) ⟨rfl,m3,room-(x.length:Nat),lf,rows,sv (.str x),sv (.lst (rows.map T.str)),sv (.int 0),sv (.lst (rws.map T.str)),?_,⟨c2,v2,[],I3,Ry,kh _⟩,z2,by omega,by omega⟩
  rw[jI];rfl
 have c1:dF (oE (oM (vF 5) (cI 5)) (cI 1)) (lS ns m3 (sv (.int (room-(x.length:Nat)))) (sv (.str lf)) (some (.ol (held.map oW))) (sv (.int cell)) none (sv (.str x)) (some (.ol (rws.map T.str))) (sv (.int 0)) none (sv (.lst (rws.map T.str))))=.ok (decide (cell % 5=1),lS ns m3 (sv (.int (room-(x.length:Nat)))) (sv (.str lf)) (some (.ol (held.map oW))) (sv (.int cell)) none (sv (.str x)) (some (.ol (rws.map T.str))) (sv (.int 0)) none (sv (.lst (rws.map T.str)))):=sA (bu (bu rfl rfl (mod_eq (by omega))) rfl (Rg _ _))
 by_cases h5:cell % 5=1
 ·rw[decide_eq_true h5]at c1
  refine iB (xW c1 (W.of (Mj (i:=8) (K2:=rws.map T.str) (ts:=rws.map T.str) (t:=.str [97,32,114,111,119,32,109,111,114,101]) rfl rfl rfl (by rw[dB];omega)) ⟨rfl,?_⟩))
  have:=fin (rws++[[97,32,114,111,119,32,109,111,114,101]])
  rw[jI]at this;exact this
 ·rw[decide_eq_false h5]at c1
  exact VO c1 (fin rws)
theorem Cp(n:Nat):∀(cells:Dx){room:Int}{left:B1}{held:List Ap}{m:FR}{u5 u7 u8 u9 qk:Option C},LI left false m->10∉left->0<=room->(left.length:Int)+room<=190->held.length+cells.length<=1000 ->
  W (dg (setG 5) (ao (aZ 7 (bj (cN (n+9) 10) [] (k2 (vF 5) (vF 2))))
 (ao (aZ 2 (dD (gE .Sub) (vF 2) (eg kC (k1 (vF 7)))))
 (ao (qQ (gq [11,3]) (bj (cN (n+9) 11) [] (k2 (vF 3) (vF 7))))
 (ao (rH M.bc 8 (aH (aD [(4,33)] (cN (n+9))) (vF 1) (k1 (vF 7))))
 (ao (fW (g_ (tB (kg (cN (n+9) 12) 8 (vF 11))))
  (bw (cF (.bl false)))
  bZ)
 (ao (aZ 9 (aH (aD [(4,40)] (cN (n+9))) (vF 1) aU))
 (ao (fW (sf (g_ (tB (bj (cN (n+9) 8) [] (k1 (vF 9))))) (sf (dF (dD (bx .NotEq) (vF 9) (cI 0))) (sf (dF (dD (bx .NotEq) (aH (aD [(4,38)] (cN (n+9))) (vF 1) aU) (cF (.c8 [] [])))) (dF (dD (bx .NotEq) (aH (aD [(4,39)] (cN (n+9))) (vF 1) aU) (eg lN aU))))))
  (bw (cF (.bl false)))
  bZ)
 (ao (fW (dF (oE (oM (vF 5) (cI 5)) (cI 1)))
  (iQ 8 (cS [97,32,114,111,119,32,109,111,114,101]))
  bZ)
 (iQ 4 (eg iO (k2 (vF 8) (eg lW (k1 (vF 8)))))))))))))) (cells.map T.int) (lS ns m (sv (.int room)) (sv (.str left)) (some (.ol (held.map oW))) u5 none u7 u8 u9 none qk)) λp=>p.1=.nx/\∃m' iG fV,∃held':List Ap,∃u5 u7 u8 u9 qk,p.2=lS ns m' (sv (.int iG)) (sv (.str fV)) (some (.ol (held'.map oW))) u5 none u7 u8 u9 none qk/\LI fV false m'
 |[],room,left,held,m,u5,u7,u8,u9,qk,h,_,_,_,_=>⟨_,rfl,rfl,m,room,left,held,u5,u7,u8,u9,qk,rfl,h⟩
 |cell::cells,room,left,held,m,u5,u7,u8,u9,qk,h,M3,h0,h1,hh=>by
  rw[cT]at hh;refine oR (r:=[sv (.scr ns),sv (.own 0),sv (.int room),sv (.str left),some (.ol (held.map oW)),sv (.int cell),none,u7,u8,u9,none,qk]) rfl ((Mx n (u7:=u7) (u8:=u8) (u9:=u9) (qk:=qk) h M3 h0 h1 (by omega)).mono λp hp=>⟨hp.1,?_⟩)
  obtain⟨_,m',iG,fV,rows,u7',u8',u9',aaa,e,g1,g2,g3,g4⟩:=hp;rw[e];exact Cp n cells g1 g2 g3 g4 (by rw[gH];show _+1+_<=_;omega)
end
theorem last_eq{s:S}{left:B1}(h:vF 3 s=.ok (.str left,s)):jj (eY (tD (eg lN (k1 (vF 3)))) 2 [] (setG 1) (dF (dD (bx .NotEq) (vF 1) (cS []))) (vF 1)) s=.ok (.lst ((if left=[]then[]else[left]).map T.str),s):=by
 refine Xp (ts:=[.str left]) (Se (t:=.lst [.str left]) (kG (ts:=[.str left]) (bK h rfl) rfl) rfl) (by show 1<=_;omega) rfl ?_
 have c:dF (dD (bx .NotEq) (vF 1) (cS [])) ⟨[none,sv (.str left)],s.m⟩=.ok (!decide (left=[]),⟨[none,sv (.str left)],s.m⟩):=sA (bu (t:=.str left) (u:=.str []) rfl rfl rfl);rw[dJ];refine Eq.trans (dz _ _) ?_;show Res.bind (dF _ ⟨[none,sv (.str left)],s.m⟩) _=_;rw[c];by_cases e:left=[]
 ·rw[decide_eq_true e,if_pos e];rfl
 ·rw[decide_eq_false e,if_neg e];rfl
theorem wu{ns:Dx}{m:FR}{a2 a3 a4 a5 a6 a7 a9 Hh:Option C}:∀(held:List Ap){u8 M4:Option C},W (dg (gq [8,10]) (fW (dF (dD (bx .NotEq) (vF 8) (vF 10))) (bw (cF (.bl false))) bZ) (held.map oW) (lS ns m a2 a3 a4 a5 a6 a7 u8 a9 M4 Hh)) λp=>p.1=.nx/\∃u8 M4,p.2=lS ns m a2 a3 a4 a5 a6 a7 u8 a9 M4 Hh
 |[],u8,M4=>⟨_,rfl,rfl,u8,M4,rfl⟩
 |rows::held,u8,M4=>oR (r:=[sv (.scr ns),sv (.own 0),a2,a3,a4,a5,a6,a7,sv (.lst (rows.map T.str)),a9,sv (.lst (rows.map T.str)),Hh]) rfl (xX (s':=lS ns m a2 a3 a4 a5 a6 a7 (sv (.lst (rows.map T.str))) a9 (sv (.lst (rows.map T.str))) Hh) (sA (bu (t:=.lst (rows.map T.str)) (u:=.lst (rows.map T.str)) rfl rfl (Ms (wm rows)))) ⟨_,rfl,rfl,wu held⟩)
theorem Mz{ns:Dx}(hn:ns.length<=63):cN (n+10) 15 [.scr ns] []=.ok (.bl true,[]):=by
 rw[ZY];obtain⟨m0,v0,I0,e0⟩:=Rv (n+6);refine sEq rfl rfl rfl ?_;have er:=read0 (n+7) (m:=[]);have e1:ny 4 (cN (n+9) 32) (k1 (bj (cN (n+9) 4) [] (k1 (cS [])))) ⟨[sv (.scr ns),none,none,none,none,none,none,none,none,none,none,none],[]⟩=.ok (.own 0,⟨[sv (.scr ns),none,none,none,none,none,none,none,none,none,none,none],m0⟩):=Fo (ts:=[ux]) (s':=⟨[sv (.scr ns),none,none,none,none,none,none,none,none,none,none,none],[]⟩) (bK (cE (ts:=[.str []]) rfl er) rfl) e0;refine Vu e1 (bS (t:=.int 190) rfl (bS (t:=.str []) rfl (gi (W.of (a:=(Out.nx,lS ns m0 (sv (.int 190)) (sv (.str [])) (some (.ol [])) none none none none none none none)) rfl ⟨rfl,?_⟩))));refine gi (oQ (W.of (a:=(ns.map T.int,lS ns m0 (sv (.int 190)) (sv (.str [])) (some (.ol [])) none none none none none none none)) rfl ?_));refine W.mono (Cp n ns (held:=[]) (left:=[]) ⟨0,v0,_,I0,M1 (ys:=[.int 1]) (by decide) Ry,by show 1<=10;omega⟩ (λz=>nomatch z) (by omega) (by show(0:Int)+190<=190;omega) (by show 0+_<=_;omega)) λp hp=>⟨hp.1,?_⟩
 obtain⟨_,m1,room,left,held,u5,u7,u8,u9,qk,e,c1,v1,aab,I1,G1,L1⟩:=hp;rw[e];obtain⟨⟨tk,mk⟩,ef,k,c2,v2,hk,My,VP,Rz,I2⟩:=x_ n I1 G1 L1;have hk:tk=.own k:=hk;subst hk;have I3:=I2.free My VP;obtain⟨rws,wj⟩:∃rws,rws=(if left=[]then[]else[left]):=⟨_,rfl⟩
 rw[<- wj]at Rz;have hr1:rws.length<=1000:=by rw[wj];split<;>simp
 refine gi (W.of (Rx (i:=6) (ts:=rws.map T.str) (mE (k:=0) rfl I1.b rfl rfl ef) Rz) ⟨rfl,?_⟩);obtain⟨m3,RA⟩:∃m3,m3=mk.set k ⟨M.bc,[]⟩:=⟨_,rfl⟩;have I3:BI m3 c2 [] left true v2 []:=by rw[RA];exact I3
 show WB _ (lS ns (mk.set k ⟨M.bc,[]⟩) (sv (.int room)) (sv (.str left)) (some (.ol (held.map oW))) u5 (some (.ol (rws.map T.str))) u7 u8 u9 none qk) _;rw[<- RA];have el:=last_eq (s:=lS ns m3 (sv (.int room)) (sv (.str left)) (some (.ol (held.map oW))) u5 (some (.ol (rws.map T.str))) u7 u8 u9 none qk) (left:=left) rfl;rw[<- wj]at el;refine bN (xZ (Ik (Ir (ts:=rws.map T.str) (t:=.lst (rws.map T.str)) rfl el (wo (n+8) hr1) (b_ _) (b_ _) rfl))) ?_;refine bN (Co (xZ (Ik (cE (ts:=[.own 0,.bl true]) rfl (mJ (n+6) I3)))) (Co (xZ (Ik (cE (ts:=[.own 0,.bl false]) rfl (mJ (n+6) I3)))) (xZ (Ik (cE (ts:=[.own 0]) rfl (named_eq (n+6) I3)))))) ?_;refine gi (oQ (W.of (a:=(held.map oW,lS ns m3 (sv (.int room)) (sv (.str left)) (sv (.lst (held.map oW))) u5 (some (.ol (rws.map T.str))) u7 u8 u9 none qk)) rfl ((wu held).mono λp hp=>⟨hp.1,?_⟩)));obtain⟨_,w8,RO,e⟩:=hp;rw[e];exact bR (t:=.bl true) (Cf (x:=true) (y:=true) (bu (Xw (n+8) I3) rfl rfl) λ_=>bu (Xx (n+8) I3) rfl rfl) rfl
end K41
namespace K41
open PySem D L2
variable(n:Nat){m:List _root_.D.Ob}
set_option maxHeartbeats 0
theorem F8:∀P,Mg (KH.K P) M Ft It=true:=λP=>by kernel_rfl
theorem F9:∀P,M.cs.all (Fc (KH.K P))=true:=λP=>by kernel_rfl
theorem F_:∀P,Ft.map (Ic (KH.K P))=Ft.map λe=>(Ic (KH.K P) e).map (BU e):=λP=>by kernel_rfl
set_option maxHeartbeats 0
def Xy:List Fe->Prop
 |[]=>True
 |e::r=>Bn e/\Xy r
theorem Iu:∀{l:List Fe},Xy l->∀e∈l,Bn e
 |e::r,h,x,hx=>by
  rcases cH.mp hx with z|z
  ·rw[z];exact h.1
  ·exact Iu h.2 x z
theorem lz0{P:B2->Prop}(h:P []):∀us:B2,us.length=0->P us
 |[],_=>h
 |_::_,e=>by cases e
theorem VQ{n:Nat}{P:B2->Prop}(h:∀a,∀us:B2,us.length=n->P (a::us)):∀us:B2,us.length=n+1->P us
 |[],e=>by cases e
 |a::us,e=>h a us (uB.inj e)
theorem Xz{P:B2->Prop}(h:∀a,P [a]):∀us:B2,us.length=1->P us:=VQ λa=>lz0 (h a)
theorem XA{P:B2->Prop}(h:∀a b,P [a,b]):∀us:B2,us.length=2->P us:=VQ λa=>Xz (h a)
theorem lz3{P:B2->Prop}(h:∀a b c,P [a,b,c]):∀us:B2,us.length=3->P us:=VQ λa=>XA (h a)
theorem bn:∀e∈Ft,Bn e:=Iu (by
 repeat' first|exact trivial|refine And.intro ?_ ?_
 all_goals first|exact λ_ _ _ _ _ _=>Xz λ_=>rfl|exact λ_ _ _ _ _ _=>XA λ_ _=>rfl|exact λ_ _ _ _ _ _=>lz3 λ_ _ _=>rfl)
end K41
end
open PySem PySem.W PyProof.Rows
set_option maxRecDepth 100000 in
set_option maxHeartbeats 0 in
theorem PySem.Challenge.cw_rowblade_k41_rows_of_pieces_holds : PySem.Challenge.rw_rowblade_k41_rows_of_pieces.Holds := by
 w_on
 refine holds_law (by
  unfold OpenLaw.wellSaid OpenRow.wellSaid OpenRow.partSaid looksOpen
  repeat' (with_reducible refine look_both ?_ ?_)
  all_goals decide +kernel) λaac=>?_
 refine holds_open (q:=KH.vw) (loose:=KH.lz) (Xt:=KH.Xt) (XP:=XL KH.vw []) (Yf:=Hook.obs (kHook KH.K KH.as KH.MH)) (Ya:=Hook.val (kHook KH.K KH.as KH.MH)) (YP:=Hook.says (kHook KH.K KH.as KH.MH)) (N:=24076) KH.left (Hook.of (kHook KH.K KH.as KH.MH)) (Hook.keeps (kHook KH.K KH.as KH.MH)) (λs e=>xl_of s (Bool.and_eq_true_iff.mp e).1) XL.keeps (by rfl) (by rfl) (by rfl) (λs e=>recFacts_of (Bool.and_eq_true_iff.mp e).2) (by rfl) (by first|assumption|decide +kernel) (by decide +kernel) ⟨rfl,rfl,rfl,rfl,rfl,by decide +kernel⟩ ?hw ?hc
 (case hw=>w_witness2)
 k_fill
 refine _root_.D.Q7 (l:=PySem.Challenge.rw_rowblade_k41_rows_of_pieces) (m:=63) (n:=10) (K:=KH.K) (M:=K41.M) (Ft:=K41.Ft) (It:=K41.It) (i:=15) rfl (by decide) rfl ⟨rfl,by decide,by decide⟩ (λw h Y=>PySem.W.kIn_of Y) rfl rfl rfl rfl rfl (λP=>⟨⟨K41.F8 P,K41.F_ P,K41.bn⟩,K41.F9 P⟩) λns hn _=>⟨[],K41.Mz 0 hn⟩
