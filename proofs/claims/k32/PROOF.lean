import PyProof.Rows.All
import Wide.All
import OpenK.AllK
import Wide.FinOn
import Lean
import PyProof.EqAt
import PyProof.EqKinds
import PyProof.TupleCall
import PyProof.Rows.EnumRows
import PyProof.EnumMake
import KE.KIntText
import KE.KEqDict
import PySem.Challenge.RW_rowblade_k32_truths_of_a_row
set_option Elab.async false
set_option linter.all false
set_option maxRecDepth 100000
set_option compiler.extract_closed false
noncomputable section
abbrev Ap:=List (List Nat)
abbrev B1:=List Nat
abbrev B2:=List PySem.Value
abbrev Bi:=List PySem.Str
abbrev Bz:=List PySem.Expr
abbrev BM:=List PySem.Addr
abbrev D1:=Option PySem.Value
abbrev D2:=Option Int
abbrev Dx:=List Int
abbrev Ee:=List PySem.Stmt
abbrev Fh:=List Bool
namespace Z0
end Z0
open PySem.W renaming Frag→bu,findIn→gE,kia_one→nA,keepIn→pX,nsIn→pY,emptyDict→rA,kitOne→rB,instObj→tU,fnOf→Aw,plainGet→BK,isFn→BL,makesIn→BN,lookIn→yo,hasDictIn→yp,specialIn→yq,takesIn→yr,mroIn→yt,methodObj→BO,plainGet_of→BP,plainOver→BQ,takerIn→BR,callWith_K→BS,callWith_K0→BU,codeIn→BV,kitAny→BW,handedIn→JP,kitx_list→JQ,kitx_dict→JR,kitx_own→JS,methodCall_KW→JT,cellsFrom_some→JU,Dflts→JV
open List renaming length_append→cC,length_map→cD,length_cons→dP,mem_cons_self→er,getElem?_eq_some_iff→eA,mem_cons_of_mem→eF,mem_cons→bA,replicate→bX,range→b9,size_toArray→b_,getElem?_eq_getElem→cj,append_nil→cY,getElem?_set_ne→c5,map_cons→dz,mem_singleton→dB,append_assoc→dN,getElem?_map→eG,prefix_rfl→eK,getElem?_set_self→eV,length_set→eW,mem_append→fk,all_cons→fF,mem_map→fG,getElem?_append_right→fQ,all_eq_true→gh,getElem?_append_left→gO,not_mem_nil→iK,map_map→iL,mem_of_getElem?→jB,lookup_cons→jC,nodup_cons→j4,length_range→j5,getD_eq_getElem?_getD→j6,map_append→lj,drop_zero→lq,lookup→mz,length_drop→mC,any_cons→nB,flatten→nC,zip_cons_cons→nE,drop_eq_getElem_cons→nF,flatMap_cons→nG,mem_range→pZ,mem_append_right→p9,length_take→p_,length_nil→qa,range'→qb,length_replicate→rC,replicate_succ→rD,nil_append→rE,length_zip→tW,set→tX,getElem_mem→tY,length→wL,flatten_cons→wM,any_map→Ax,find?_cons→Ay,ext_getElem?→Az,map_congr_left→AA,range'_succ→AB,getElem?_replicate→BX,length_singleton→BY,map_nil→BZ,map→B0,map_take→B3,map_drop→tZ,cons_append→t_,getElem?_eq_none→ua,flatMap_append→uc,of_mem_zip→yu,forIn_cons→yv,getElem?_range→yw,drop_length→yx,prefix_append→yy,take→yz,drop_eq_nil_of_le→yC,mem_of_mem_take→yD,filterMap_cons→B4,mem_filterMap→B5,foldl→B6,foldl_cons→B7,range_succ_eq_map→B8,any_eq_true→B9,take_of_length_le→B_,nodup_append→Cb,length_reverse→Cc,take_succ_cons→Cd,contains_iff_mem→Ce,isEmpty_iff→Cf,drop_left→Cg,mem_filter→JW,mem_append_left→JX,all_map→JY,take_append_drop→JZ,idxOf?→J0,findIdx?_eq_some_iff_getElem→J1,zip_nil_right→J2,length_eq_zero_iff→J3,reverse_cons→J4,all_nil→J5,length_eq_one_iff→J7,flatten_append→J8,map_replicate→J9,take_eq_take_iff→J_,mem_of_mem_drop→Ka,set_append_right→Kc,set_append_left→Kd,range_eq_range'→Ke,mem_flatMap→Kf,length_range'→Kg
open Bool renaming and_eq_true→dc,false_ne_true→dC,and_eq_true_iff→wN,eq_iff_iff→yE,or_eq_true→yF,and_true→yG,false_eq_true→yH,false_and→Ci,beq_eq_decide_eq→Cj,true_and→Cm,not_true→Cn,or_false→Kh,and_false→Kl,eq_false_or_eq_true→Km,not_eq_true'→Kn,not_false→Ko
open Nat renaming le_refl→dj,ne_of_lt→eL,le_trans→gP,lt_of_lt_of_le→iM,zero_le→iN,sub_self→lr,lt_irrefl→rF,succ→rG,zero_add→ud,lt_succ_self→wQ,le_add_right→wR,min_eq_left→AD,le_of_lt→Co,le_of_eq→Cp,ne_of_gt→yI,lt_of_le_of_lt→yJ,mul_succ→yK,mul_le_mul→yL,lt_succ_of_lt→Cq,min_eq_right→Cr,mul_le_mul_left→Cs,succ_mul→Kp,min_self→Kq,not_lt_zero→Kr
open Option renaming bind_eq_some_iff→eM,map_eq_some_iff→cH,some→ly,isSome_iff_exists→Ct,isSome_map→Cu,map_some→Cv,getD_none→Ks,none→Ku
open Int renaming ofNat→mD,toNat_natCast→wU,emod_nonneg→ue,emod_lt_of_pos→uf,zero_add→Cw
open PyProof.Rows renaming callWith_type1→wV,boot_list→ug,boot_isinstance→Cy,callWith_builtin1→Kv,recsOf→Kw,drecsOf→Kz,boot_enumerate→KA,boot_str→KC,boot_int→KD,envOfC→KG
namespace Z1
end Z1
abbrev dm:=List (PySem.Addr×PySem.Obj)
abbrev bZ(x:PySem.Str):Prop:=(x == ("__debug__":PySem.Str))=false
abbrev iO(x:PySem.Str):Prop:=(x == ("__classdict__":PySem.Str))=false
namespace L2
open PySem PySem.Spec PyProof.Rows
abbrev Key:=Sum Int Str
def qy:Key->Value->Bool
 |.inl k,v=>Value.isInt k v
 |.inr x,v=>Value.isStrOf x v
def VX(w:World):Key->Int
 |.inl k=>hashInt k
 |.inr x=>hashStr w x
theorem bV:∀{k:Key}{v:Value},qy k v=true->(∃i t,k=Sum.inl i/\v=Value.int i t)\/(∃x t,k=Sum.inr x/\v=Value.str x t)
 |.inl i,v,h=>by
  obtain⟨t,e⟩:=Value.isInt_shape (k:=i) (v:=v) h;exact .inl ⟨i,t,rfl,e⟩
 |.inr x,v,h=>by
  obtain⟨t,e⟩:=Value.isStrOf_shape (x:=x) (v:=v) h;exact .inr ⟨x,t,rfl,e⟩
theorem AE(i:Int)(t:Tok):qy (.inl i) (.int i t)=true:=by simp[qy,Value.isInt]
theorem AF(x:Str)(t:Tok):qy (.inr x) (.str x t)=true:=by simp[qy,Value.isStrOf]
theorem LW(a b:Int):decide ((Sum.inl a:Key)=Sum.inl b)=(a == b):=by
 by_cases e:a=b
 ·subst e;simp
 ·have h:¬ (Sum.inl a:Key)=Sum.inl b:=λq=>e (Sum.inl.inj q)
  rw[decide_eq_false h];exact(beq_eq_false_iff_ne.mpr e).symm
theorem LX(a b:Str):decide ((Sum.inr a:Key)=Sum.inr b)=decide (a=b):=by
 by_cases e:a=b
 ·subst e;simp
 ·have h:¬ (Sum.inr a:Key)=Sum.inr b:=λq=>e (Sum.inr.inj q)
  rw[decide_eq_false h,decide_eq_false e]
theorem LY(a:Int)(b:Str):decide ((Sum.inl a:Key)=Sum.inr b)=false:=decide_eq_false (λq=>nomatch q)
theorem LZ(a:Str)(b:Int):decide ((Sum.inr a:Key)=Sum.inl b)=false:=decide_eq_false (λq=>nomatch q)
def bx(prog:Program)(w:World):PySem.KeyKind prog w Key where
 is:=qy
 hash:=VX w
 inj:=λv a b ha hb=>by
  rcases bV ha with⟨i,t,rfl,rfl⟩|⟨x,t,rfl,rfl⟩
  ·rcases bV hb with⟨j,u,rfl,e⟩|⟨y,u,rfl,e⟩
   ·injection e with e1 _;rw[e1]
   ·exact nomatch e
  ·rcases bV hb with⟨j,u,rfl,e⟩|⟨y,u,rfl,e⟩
   ·exact nomatch e
   ·injection e with e1 _;rw[e1]
 byValue:=λk v h=>by
  rcases bV h with⟨i,t,rfl,rfl⟩|⟨x,t,rfl,rfl⟩<;>rfl
 pyHash:=λhv h=>by
  rcases bV hv with⟨i,t,rfl,rfl⟩|⟨x,t,rfl,rfl⟩
  ·exact wpAny_pyHash_int h
  ·exact wpAny_pyHash_str h
 eqBool:=λhu hv h=>by
  rcases bV hu with⟨i,t,rfl,rfl⟩|⟨x,t,rfl,rfl⟩
  ·rcases bV hv with⟨j,u,rfl,rfl⟩|⟨y,u,rfl,rfl⟩
   ·rw[LW]at h;exact wpAny_eqBool_int h
   ·rw[LY]at h;exact SeqAt.EqAt.int_str i t y u _ _ _ _ h
  ·rcases bV hv with⟨j,u,rfl,rfl⟩|⟨y,u,rfl,rfl⟩
   ·rw[LZ]at h;exact SeqAt.EqAt.str_int x t j u _ _ _ _ h
   ·rw[LX]at h;exact wpAny_eqBool_str h
 «strs»:=λk x t v h=>by
  rcases bV h with⟨i,u,rfl,e⟩|⟨y,u,rfl,e⟩
  ·exact nomatch e
  ·injection e with e1 _
   subst e1;cases v<;>rfl
theorem uh(prog:Program)(w:World)(i:Int)(t:Tok):(bx prog w).is (.inl i) (.int i t)=true:=AE i t
theorem um(prog:Program)(w:World)(x:Str)(t:Tok):(bx prog w).is (.inr x) (.str x t)=true:=AF x t
inductive V where
 |non|bl (b:Bool)|int (i:Int)|str (x:Str)|byt (b:Array UInt8)|flt (b:UInt64)|ref (a:Addr)|ty (n:String)
 deriving DecidableEq
def RelV:V->Value->Prop
 |.non,u=>u=Value.none
 |.bl b,u=>u=Value.bool b
 |.int i,u=>∃t,u=Value.int i t
 |.str x,u=>∃t,u=Value.str x t
 |.byt b,u=>∃t,u=Value.bytes b t
 |.flt b,u=>∃t,u=Value.float b t
 |.ref a,u=>u=Value.ref a
 |.ty n,u=>u=Value.type n
abbrev Vals:List V->B2->Prop:=Paired RelV
theorem Vals.length{xs:List V}{us:B2}(r:Vals xs us):xs.length=us.length:=Paired.length r
theorem Vals.get:∀{xs:List V}{us:B2}{i:Nat}{x:V},Vals xs us->xs[i]?=some x->∃u,us[i]?=some u/\RelV x u
 |_,_,_,_,.nil,e=>by simp at e
 |_,_,0,_,.cons r _,e=>by simp at e;subst e;exact⟨_,rfl,r⟩
 |_,_,i+1,x,.cons _ t,e=>by
  obtain⟨u,h1,h2⟩:=Vals.get (i:=i) (x:=x) t (by simpa using e)
  exact⟨u,by simpa using h1,h2⟩
theorem Vals.set{x:V}{u:Value}(r:RelV x u):∀{xs:List V}{us:B2}(i:Nat),Vals xs us->Vals (xs.set i x) (us.set i u)
 |_,_,_,.nil=>.nil
 |_,_,0,.cons _ t=>.cons r t
 |_,_,i+1,.cons q t=>.cons q (Vals.set r i t)
theorem Vals.append:∀{xs ys:List V}{us ws:B2},Vals xs us->Vals ys ws->Vals (xs++ys) (us++ws)
 |_,_,_,_,.nil,s=>s
 |_,_,_,_,.cons r t,s=>.cons r (Vals.append t s)
theorem Vals.take:∀{xs:List V}{us:B2}(n:Nat),Vals xs us->Vals (xs.take n) (us.take n)
 |_,_,0,_=>.nil
 |_,_,_+1,.nil=>.nil
 |_,_,n+1,.cons r t=>.cons r (Vals.take n t)
theorem Vals.drop:∀{xs:List V}{us:B2}(n:Nat),Vals xs us->Vals (xs.drop n) (us.drop n)
 |_,_,0,r=>r
 |_,_,_+1,.nil=>.nil
 |_,_,n+1,.cons _ t=>Vals.drop n t
def iP:Option V->D1->Prop
 |some v,some u=>RelV v u
 |none,none=>True
 |_,_=>False
def KV{κ:Type}:List (κ×V)->List (κ×Value)->Prop:=Paired λ(p:κ×V) (q:κ×Value)=>p.1=q.1/\RelV p.2 q.2
def kV:Key->V
 |.inl i=>.int i
 |.inr x=>.str x
inductive HO where
 |lst (xs:List V)
 |tup (xs:List V)
 |dK (aF:List (Key×V))|dT (aF:List (List Key×V))
 |set (S:Int->Bool) (n:Nat)
 |ins (C dx:Addr) (fs:List (Str×V))
 |own (x:Addr)
 |xd (fs:List (Str×V))
 |met (f x:Addr)
 |jv (lo hi:Int)
 |jh (o:Obj) (u:HO)
 |tbl (ps:Array Value)
 |ext (φ:Heap->Prop)
abbrev Hp:=Addr->Option HO
def upd(H:Hp)(a:Addr)(o:HO):Hp:=λb=>if b=a then some o else H b
theorem ah{H:Hp}{a:Addr}{o:HO}:upd H a o a=some o:=by unfold upd;rw[if_pos rfl]
theorem au{H:Hp}{a b:Addr}{o:HO}(h:b≠a):upd H a o b=H b:=by unfold upd;rw[if_neg h]
theorem rH{H:Hp}{a:Addr}{o u:HO}:upd (upd H a o) a u=upd H a u:=by
 funext b;unfold upd;split<;>rfl
theorem Qa{H:Hp}{a b:Addr}{o u:HO}(h:H a=some o)(h':H b=some u)(d:o≠u):a≠b:=by
 intro e;subst e;rw[h]at h';exact d (ly.inj h')
theorem aJ{H:Hp}{a b:Addr}{o:HO}(h:H a=some o)(h':H b=none):a≠b:=by
 intro e;subst e;rw[h]at h';cases h'
section
variable(P:Program)(w:World)
def b7(H:Hp)(h:Heap)(a:Addr):HO->Prop
 |.lst xs=>xs.length<=sizeLine/\∃(its:B2)(n:Nat),Vals xs its/\h.get? a=some {cls:=.type "list",data:=.seq its.toArray n}
 |.tup xs=>xs.length<=sizeLine/\∃its:B2,Vals xs its/\IsTup h a its.toArray
 |.dK aF=>aF.length<=sizeLine/\(a == sysModules)=false/\∃vs,KV aF vs/\h.DictOf (bx P w) a vs
 |.dT aF=>aF.length<=sizeLine/\(a == sysModules)=false/\∃xs:List (List Key×Addr×Value),
   Paired (λ(p:List Key×V) (q:List Key×Addr×Value)=>p.1=q.1/\H q.2.1=some (.tup (p.1.map kV))/\RelV p.2 q.2.2) aF xs /\
   ∃o es ep,h.get? a=some o/\o.ExactDict/\o.data=.dict es ep/\es.toList=xs.map (entryOfKey (tupleKind (bx P w)))/\(xs.map (·.1)).Nodup
 |.set S n=>h.SetOf (intKind P w) a S n
 |.ins C dx fs=>H dx=some (.own a)/\fs.length<=1000/\dx≠a/\h.get? a=some (tU C dx) /\
   ∃mA,h.Ns1 dx mA/\(∀f,iP (fs.lookup f) (mA f))/\PySem.Within mA (fs.map (·.1))
 |.own _=>∃o,h.get? a=some o
 |.xd fs=>∃mA,h.Ns1 a mA/\∀f,iP (fs.lookup f) (mA f)
 |.jv lo hi=>∃t u v,h.get? a=some {cls:=.type "range",data:=.fields #[.int lo t,.int hi u,.int 1 v]}
 |.jh o u=>h.get? a=some o/\b7 H h a u
 |.tbl ps=>h.get? a=some {cls:=.none,data:=.fields ps}
 |.met f x=>h.get? a=some (BO (.ref f) (.ref x))
 |.ext φ=>φ h/\(∃o,h.get? a=some o)/\∀h1 h2:Heap,φ h1->(∀o,h1.get? a=some o->h2.get? a=some o)->φ h2
def jV(H:Hp)(h:Heap):Prop:=∀a o,H a=some o->b7 P w H h a o
end
variable{C a dx f x:Addr}{A:Around}{b e o:Expr}{h h':Heap}{H H':Hp}{ae:dm}{es:Bz}{p pos:Pos}{P:Program}{s:Shared}{E:Value->Shared->Prop}{w:World}
section
variable{o:HO}
theorem b7.lt(x:b7 P w H h a o):a<h.objs.size:=by
 cases o with
 |lst xs=>obtain⟨_,_,_,_,e⟩:=x;exact Heap.lt_size e
 |tup xs=>obtain⟨_,_,_,p⟩:=x;exact p.lt
 |dK aF=>obtain⟨_,_,_,_,o,_,_,e,_⟩:=x;exact Heap.lt_size e
 |dT aF=>obtain⟨_,_,_,_,o,_,_,e,_⟩:=x;exact Heap.lt_size e
 |set S n=>obtain⟨o,_,_,_,e,_⟩:=x;exact Heap.lt_size e
 |ins C dx fs=>obtain⟨_,_,_,e,_⟩:=x;exact Heap.lt_size e
 |own y=>obtain⟨_,e⟩:=x;exact Heap.lt_size e
 |xd fs=>obtain⟨_,⟨_,_,_,e,_⟩,_⟩:=x;exact Heap.lt_size e
 |jv lo hi=>obtain⟨_,_,_,e⟩:=x;exact Heap.lt_size e
 |jh ob u=>obtain⟨e,_⟩:=x;exact Heap.lt_size e
 |tbl ps=>exact Heap.lt_size (show h.get? a=some _ from x)
 |met f y=>exact Heap.lt_size (show h.get? a=some _ from x)
 |ext φ=>obtain⟨_,⟨_,e⟩,_⟩:=x;exact Heap.lt_size e
theorem Paired.L0{α β:Type}{F G:α->β->Prop}:∀{l₁:List α}{l₂:List β},Paired F l₁ l₂->(∀a b,F a b->G a b)->Paired G l₁ l₂
 |_,_,.nil,_=>.nil
 |_,_,.cons r t,f=>.cons (f _ _ r) (Paired.L0 t f)
theorem b7.wW(x:b7 P w H h a o)(k:∀b u,(b=a\/H b=some (.own a))->h.get? b=some u->h'.get? b=some u)
  (ho:∀b,H b=some (.own a)->H' b=some (.own a)) (ht:∀b xs,H b=some (.tup xs)->H' b=some (.tup xs)):b7 P w H' h' a o:=by
 induction o with
 |lst xs=>obtain⟨z,its,n,r,e⟩:=x;exact⟨z,its,n,r,k _ _ (.inl rfl) e⟩
 |tup xs=>obtain⟨z,its,r,ob,e,c⟩:=x;exact⟨z,its,r,ob,k _ _ (.inl rfl) e,c⟩
 |dK aF=>obtain⟨z,y,vs,r,ob,es,ep,e,c⟩:=x;exact⟨z,y,vs,r,ob,es,ep,k _ _ (.inl rfl) e,c⟩
 |dT aF=>
  obtain⟨z,y,xs,r,ob,es,ep,e,c⟩:=x;exact⟨z,y,xs,Paired.L0 r λp q z=>⟨z.1,ht _ _ z.2.1,z.2.2⟩,ob,es,ep,k _ _ (.inl rfl) e,c⟩
 |set S n=>obtain⟨ob,es,ep,t,e,c⟩:=x;exact⟨ob,es,ep,t,k _ _ (.inl rfl) e,c⟩
 |ins C dx fs=>
  obtain⟨d,z,ne,e,mA,⟨od,es,ep,e2,c⟩,r⟩:=x;exact⟨ho _ d,z,ne,k _ _ (.inl rfl) e,mA,⟨od,es,ep,k _ _ (.inr d) e2,c⟩,r⟩
 |own y=>obtain⟨ob,e⟩:=x;exact⟨ob,k _ _ (.inl rfl) e⟩
 |xd fs=>obtain⟨mA,⟨od,es,ep,e,c⟩,r⟩:=x;exact⟨mA,⟨od,es,ep,k _ _ (.inl rfl) e,c⟩,r⟩
 |jv lo hi=>obtain⟨t,u,v,e⟩:=x;exact⟨t,u,v,k _ _ (.inl rfl) e⟩
 |jh ob u ih=>obtain⟨e,q⟩:=x;exact⟨k _ _ (.inl rfl) e,ih q⟩
 |tbl ps=>
  have e:h.get? a=some {cls:=.none,data:=.fields ps}:=x;show h'.get? a=some {cls:=.none,data:=.fields ps};exact k a _ (.inl rfl) e
 |met f y=>
  have e:h.get? a=some (BO (.ref f) (.ref y)):=x;show h'.get? a=some (BO (.ref f) (.ref y));exact k a _ (.inl rfl) e
 |ext φ=>obtain⟨p,⟨o,e⟩,st⟩:=x;exact⟨st _ _ p λo q=>k _ _ (.inl rfl) q,⟨o,k _ _ (.inl rfl) e⟩,st⟩
theorem jV.lt(x:jV P w H h)(e:H a=some o):a<h.objs.size:=(x a o e).lt
theorem jV.fresh(x:jV P w H h)(e:h.objs.size<=a):H a=none:=by
 cases q:H a with
 |none=>rfl
 |some u=>exact absurd (iM (x.lt q) e) (rF _)
theorem jV.kept(x:jV P w H h)(k:∀b u,h.get? b=some u->h'.get? b=some u):jV P w H h':=λa o e=>
 (x a o e).wW (λb u _ q=>k b u q) (λ_ q=>q) λ_ _ q=>q
theorem jV.laid(x:jV P w H h)(k:∀b u,h.get? b=some u->h'.get? b=some u)(hp:h.objs.size<=a)(new:b7 P w (upd H a o) h' a o):jV P w (upd H a o) h':=λb u e=>by
 have hn:=x.fresh hp;by_cases hb:b=a
 ·subst hb;rw[ah]at e;cases e;exact new
 ·rw[au hb]at e
  exact(x b u e).wW (λc v _ q=>k c v q) (λc q=>by rw[au (aJ q hn)];exact q) λc xs q=>by rw[au (aJ q hn)];exact q
end
def Rd(H:Hp)(a:Addr)(u:HO):Prop:=H a=some u\/∃o,H a=some (.jh o u)
theorem Rd.ok{P:Program}{w:World}{H:Hp}{h:Heap}{a:Addr}{u:HO}(r:Rd H a u)(x:jV P w H h):b7 P w H h a u:=by
 rcases r with r|⟨o,r⟩
 ·exact x a u r
 ·obtain⟨_,q⟩:=x a _ r
  exact q
def Qc:Option HO->Prop
 |some (.lst _)=>True
 |some (.dK _)=>True
 |some (.dT _)=>True
 |some (.set _ _)=>True
 |some (.ins _ _ _)=>True
 |some (.ext _)=>True
 |_=>False
section
variable{e:Addr}{o':HO}
theorem jV.write(ok:jV P w H h)(mu:Qc (H x))(he:e=x\/H e=some (.own x))(k:∀b u,b≠e->h.get? b=some u->h'.get? b=some u)(Pz:∃u,h'.get? e=some u)
  (new:b7 P w (upd H x o') h' x o'):jV P w (upd H x o') h':=λb u q=>by
 have Qd:∀c y,H c=some (.own y)->c≠x:=λc y r z=>by subst z;rw[r]at mu;exact mu
 have VY:∀c xs,H c=some (.tup xs)->c≠x:=λc xs r z=>by subst z;rw[r]at mu;exact mu
 by_cases hb:b=x
 ·subst hb;rw[ah]at q;cases q;exact new
 ·rw[au hb]at q
  by_cases hbe:b=e
  ·have q':H b=some (.own x):=by
    rcases he with z|z
    ·exact absurd (hbe.trans z) hb
    ·rw[hbe];exact z
   rw[q]at q';cases q';obtain⟨v,hv⟩:=Pz;exact⟨v,by rw[hbe];exact hv⟩
  ·refine(ok b u q).wW (λc v hc r=>k c v ?_ r) (λc r=>by rw[au (Qd c b r)];exact r) λc xs r=>by rw[au (VY c xs r)];exact r
   rcases hc with rfl|hc
   ·exact hbe
   ·rintro rfl
    rcases he with z|z
    ·exact Qd c b hc z
    ·rw[hc]at z;cases z;exact hb rfl
end
structure Un(fs ex:BM)(H H':Hp)(h h':Heap):Prop where
 keep:∀b o,h.get? b=some o->H b=none->b∉fs->b∉ex->h'.get? b=some o
 slot:∀b o,h.get? b=some o->H b=none->b∈fs->b∉ex->∃sl,h'.get? b=some {o with slots:=sl}
 free:∀b o,h.get? b=some o->H b=none->b∉ex->H' b=none
 there:∀b o,h.get? b=some o->b∉ex->∃o',h'.get? b=some o'
 uo:∀b xs,H b=some (.tup xs)->H' b=some (.tup xs)
 rJ:∀b o u,H b=some (.jh o u)->H' b=some (.jh o u)
 uq:∀b ps,H b=some (.tbl ps)->∃more,H' b=some (.tbl (ps++more))
section
variable{fs qz ex ex':BM}{H1 H2:Hp}{h1 h2:Heap}{e:Addr}{o:HO}
theorem Un.any(u:Un fs ex H H1 h h1){b:Addr}{ob:Obj}(q:h.get? b=some ob)(n:H b=none)(hx:b∉ex):∃sl,h1.get? b=some {ob with slots:=sl}:=by
 by_cases hb:b∈fs
 ·exact u.slot b ob q n hb hx
 ·exact⟨ob.slots,u.keep b ob q n hb hx⟩
theorem Un.kept(k:∀b u,h.get? b=some u->h'.get? b=some u):Un fs ex H H h h':=
 ⟨λb ob q _ _ _=>k b ob q,λb ob q _ _ _=>⟨ob.slots,k b ob q⟩,λ_ _ _ n _=>n,λb ob q _=>⟨ob,k b ob q⟩,λ_ _ q=>q,λ_ _ _ q=>q,λ_ ps q=>⟨#[],by rw[q];simp⟩⟩
theorem Un.refl:Un fs ex H H h h:=Un.kept λ_ _ q=>q
theorem Un.laid(k:∀b u,h.get? b=some u->h'.get? b=some u)(hp:h.objs.size<=a)(hn:H a=none):Un fs ex H (upd H a o) h h' where
 keep:=λb u q _ _ _=>k b u q
 slot:=λb u q _ _ _=>⟨u.slots,k b u q⟩
 free:=λb u q n _=>by rw[au (eL (iM (Heap.lt_size q) hp))];exact n
 there:=λb u q _=>⟨u,k b u q⟩
 uo:=λb xs q=>by rw[au (aJ q hn)];exact q
 rJ:=λb u xs q=>by rw[au (aJ q hn)];exact q
 uq:=λb ps q=>⟨#[],by rw[au (aJ q hn),q];simp⟩
theorem Un.write(mu:Qc (H x))(he:e=x\/H e=some (.own x))(k:∀b u,b≠e->h.get? b=some u->h'.get? b=some u)(Pz:∃u,h'.get? e=some u):Un fs ex H (upd H x o) h h':=by
 have hx:∀b,H b=none->b≠x:=λb n z=>by subst z;rw[n]at mu;exact mu
 have hb:∀b,H b=none->b≠e:=λb n z=>by
  subst z;rcases he with r|r
  ·exact hx b n r
  ·rw[n]at r;cases r
 have hm:∀b u,H b=some u->¬ Qc (some u)->b≠x:=λb u q nm z=>by subst z;rw[q]at mu;exact nm mu
 refine⟨λb u q n _ _=>k b u (hb b n) q,λb u q n _ _=>⟨u.slots,k b u (hb b n) q⟩,λb u q n _=>by rw[au (hx b n)];exact n,λb u q _=>?_,
  λb xs q=>by rw[au (hm b _ q λz=>z)];exact q,λb u xs q=>by rw[au (hm b _ q λz=>z)];exact q,λb ps q=>⟨#[],by rw[au (hm b _ q λz=>z),q];simp⟩⟩
 by_cases hbe:b=e
 ·subst hbe;exact Pz
 ·exact⟨u,k b u hbe q⟩
end
def Vg(h:Heap)(H:Hp):BM:=(b9 h.objs.size).filter λa=>(H a).isSome
def rK(h:Heap)(H:Hp):Heap:=PySem.W.hideAll h (Vg h H)
theorem AG(h:Heap)(H:Hp):(rK h H).objs.size=h.objs.size:=PySem.W.hideAll_size _ _
theorem Cz{h:Heap}{H:Hp}{b:Addr}{o:Obj}(e:h.get? b=some o)(n:H b=none):(rK h H).get? b=some o:=
 PySem.W.hideAll_get _ e λhm=>by
  have q:(H b).isSome=true:=(JW.mp hm).2;rw[n]at q;simp at q
theorem GW{h:Heap}{H:Hp}{b:Addr}{o:Obj}(e:(rK h H).get? b=some o):h.get? b=some o/\H b=none:=by
 have e':h.get? b=some o:=PySem.W.of_hideAll (Vg h H) e;refine⟨e',?_⟩;cases q:H b with
 |none=>rfl
 |some x=>
  have hm:b∈Vg h H:=JW.mpr ⟨pZ.mpr (Heap.lt_size e'),by simp[q]⟩
  have z:(rK h H).get? b=none:=PySem.W.hideAll_none (Vg h H) hm;rw[z]at e;cases e
def GX(g h:Heap)(L:Addr):dm:=(b9 h.objs.size).filterMap λa=>if a=L\/(g.get? a).isSome=true then none else(h.get? a).map λo=>(a,o)
def rest(g h:Heap)(L d:Addr):dm:=(GX g h L).filter λp=>decide (p.1≠d)
structure Mod(K:bu)(mg:Str->D1)(base:Heap):Prop where
 kin:K.In base
 glob:base.Ns mainGlobals mg
 blt:∃mb,base.Ns builtinsNs mb/\∀x:Str,x ≠ "__name__" -> mb x=bootBuiltins x
 nolimit:base.NoLimit
structure Cx where
 prog:Program
 w:World
 K:bu
 mg:Str->D1
 base:Heap
 A:Around
 N:Bi
 s₀:Shared
 H₀:Hp
 env:Env
 outer:List Env
 stack:List Env
 ex:BM
 fn:Str->Bool
 calm:Bool
 pn:dm
 xe:Value->Shared->Prop
def CA(l:List Env):BM:=l.filterMap (·.frame)
abbrev Cx.fs(X:Cx):BM:=CA X.outer
def rL(sc:Scope)(x:Str):Prop:=sc.names.lookup x=some .local\/sc.names.lookup x=some .cell\/sc.names.lookup x=some .free
def Loc(sc:Scope)(x:Str):Prop:=sc.names.lookup x=some .local\/sc.names.lookup x=some .cell
def Look(env:Env)(h:Heap)(m:Str->D1)(x:Str)(u:Value):Prop:=
 (env.kindOf x=some .local/\m x=some u)\/((env.kindOf x=some .cell\/env.kindOf x=some .free)/\∃c,env.cells.lookup x=some c/\h.IsCell c (some u))
structure Cx.Ok(X:Cx):Prop where
 mod:Mod X.K X.mg X.base
 kind:X.env.scope.kind=.function
 glob:X.env.globals=mainGlobals
 blt:X.env.builtins=builtinsNs
 above:X.s₀.heap.objs.size<=X.env.locals
 inj:∀x y c,X.env.cells.lookup x=some c->X.env.cells.lookup y=some c->x=y
 has:∀x,(X.env.kindOf x=some .cell\/X.env.kindOf x=some .free)->∃c,X.env.cells.lookup x=some c
 cab:∀x c,X.fn x=true->X.env.cells.lookup x=some c->X.s₀.heap.objs.size<=c
 hd:X.calm=true->X.A.handled=none
 frames:X.A.frames=some X.stack
 stk:X.stack=X.outer\/(X.stack=X.env::X.outer/\X.env.frame=some X.env.locals)
 exf:∀b∈X.ex,b≠X.env.locals/\∀x c,X.env.cells.lookup x=some c->c≠b
 bs:∀b o,X.base.get? b=some o->X.s₀.heap.get? b=some o/\X.H₀ b=none
 bsz:X.base.objs.size<=X.s₀.heap.objs.size
 noex:∀b o,X.base.get? b=some o->b∉X.ex
 exfs:∀b∈X.ex,b∉X.fs
 mG:X.s₀.heap.FunFrames X.base X.outer
 frf:∀b∈X.fs,X.H₀ b=none
structure Inv(X:Cx)(ae:dm)(σ:List (Option V))(H:Hp)(s:Shared):Prop where
 ok:X.Ok
 os:s.os=X.s₀.os
 bare:AllBare s.gens
 base:Un X.fs X.ex X.H₀ H X.s₀.heap s.heap
 loc:∃m,s.heap.Ns X.env.locals m/\∀(i:Nat)(x:Str)(v:V),X.N[i]?=some x->σ[i]?=some (some v)->rL X.env.scope x->∃u,RelV v u/\Look X.env s.heap m x u
 cell:∀x c,X.env.cells.lookup x=some c->∃v,s.heap.IsCell c v
 free:H X.env.locals=none
 freeC:∀x c,X.env.cells.lookup x=some c->H c=none
 pin:∀p∈X.pn++ae,s.heap.get? p.1=some p.2/\H p.1=none/\p.1≠X.env.locals/\p.1∉X.fs/\∀v,p.2.data≠.cell v
 ba:jV X.prog X.w H s.heap
 len:σ.length=X.N.length
section
variable{X:Cx}{σ:List (Option V)}
theorem Cx.Ok.VZ(ok:X.Ok){b:Addr}{o:Obj}(e:X.base.get? b=some o):b∉X.fs:=λhb=>by
 have:=(ok.mG.mem hb).1
 rw[e]at this;cases this
theorem Inv.bs(I:Inv X ae σ H s):∀b o,X.base.get? b=some o->s.heap.get? b=some o/\H b=none:=λb o e=>
 ⟨I.base.keep b o (I.ok.bs b o e).1 (I.ok.bs b o e).2 (I.ok.VZ e) (I.ok.noex b o e),I.base.free b o (I.ok.bs b o e).1 (I.ok.bs b o e).2 (I.ok.noex b o e)⟩
theorem Inv.bk(I:Inv X ae σ H s):∀b o,X.base.get? b=some o->s.heap.get? b=some o:=λb o e=>(I.bs b o e).1
theorem Inv.mod(I:Inv X ae σ H s):Mod X.K X.mg X.base:=I.ok.mod
theorem Inv.j7(I:Inv X ae σ H s):X.K.In s.heap:=I.ok.mod.kin.keeps I.bk
theorem Inv.lt(I:Inv X ae σ H s):X.env.locals<s.heap.objs.size:=let⟨_,hn,_⟩:=I.loc;hn.lt
theorem Inv.sz(I:Inv X ae σ H s):X.s₀.heap.objs.size<=s.heap.objs.size:=gP I.ok.above (Co I.lt)
theorem Inv.V0(I:Inv X ae σ H s){a:Addr}(h:s.heap.objs.size<=a):a∉X.fs:=λhb=>by
 obtain⟨_,o,ho,_⟩:=I.ok.mG.mem hb;exact absurd (iM (Heap.lt_size ho) (gP I.sz h)) (rF _)
theorem Inv.L3(I:Inv X ae σ H s):∀x c,X.env.cells.lookup x=some c->c≠X.env.locals:=λx c e z=>by
 obtain⟨v,o,ho,hd⟩:=I.cell x c e;obtain⟨m,⟨o',es,ep,L5,V1,_⟩,_⟩:=I.loc;rw[z,L5]at ho;cases ho;rw[V1]at hd;cases hd
theorem Inv.mG(I:Inv X ae σ H s):s.heap.FunFrames X.base X.outer:=by
 have all:∀(l:List Env),(∀b∈CA l,b∈X.fs)->X.s₀.heap.FunFrames X.base l->s.heap.FunFrames X.base l:=by
  intro l
  induction l with
  |nil=>intro _ _;trivial
  |cons env r ih=>
   intro hs hl;obtain⟨hk,⟨L,o,hf,hn,ho,hd⟩,hr⟩:=hl;have hL:L∈X.fs:=hs L (by unfold CA;rw[B4,hf];exact er)
   obtain⟨sl,e⟩:=I.base.slot L o ho (I.ok.frf L hL) hL λz=>I.ok.exfs L z hL;exact⟨hk,⟨L,_,hf,hn,e,hd⟩,ih (λb hb=>hs b (by unfold CA;rw[B4,hf];exact eF _ hb)) hr⟩
 exact all X.outer (λ_ hb=>hb) I.ok.mG
theorem Inv.stack(I:Inv X ae σ H s):s.heap.FunFrames X.base X.stack:=by
 rcases I.ok.stk with e|⟨e,hf⟩
 ·rw[e];exact I.mG
 ·rw[e]
  obtain⟨m,hn,_⟩:=I.loc;refine .cons (by rw[I.ok.kind];decide) hf hn ?_ I.mG
  exact Heap.get?_none_of_le (gP I.ok.bsz I.ok.above)
theorem Inv.rM(I:Inv X ae σ H s):∀b∈CA X.stack,b∈X.env.locals::X.fs:=λb hb=>by
 rcases I.ok.stk with e|⟨e,hf⟩
 ·rw[e]at hb;exact eF _ hb
 ·rw[e]at hb
  unfold CA at hb;rw[B4,hf]at hb;exact hb
theorem Inv.yM(I:Inv X ae σ H s):∀b∈CA X.stack,H b=none:=λb hb=>by
 rcases bA.mp (I.rM b hb)with e|hb
 ·rw[e];exact I.free
 ·obtain⟨_,o,ho,_⟩:=I.ok.mG.mem hb
  exact I.base.free b o ho (I.ok.frf b hb) λz=>I.ok.exfs b z hb
theorem Inv.step{g':Array GenState}{t':Nat}{d':Drawn}{ch:BM}(I:Inv X ae σ H s)
  (BE:∀b∈ch,(b∈X.ex\/X.s₀.heap.objs.size<=b)/\b≠X.env.locals/\(∀x c,X.env.cells.lookup x=some c->c≠b)/\∀p∈X.pn++ae,p.1≠b)
  (keep:∀b o,b≠X.env.locals->b∉X.fs->b∉ch->s.heap.get? b=some o->H b=none->h'.get? b=some o)
  (slot:∀b o,b≠X.env.locals->b∈X.fs->b∉ch->s.heap.get? b=some o->H b=none->∃sl,h'.get? b=some {o with slots:=sl}) (free:∀b o,b∉ch->s.heap.get? b=some o->H b=none->H' b=none)
  (there:∀b o,b∉ch->s.heap.get? b=some o->∃o',h'.get? b=some o')
  (uo:∀b xs,H b=some (.tup xs)->H' b=some (.tup xs)) (rJ:∀b o u,H b=some (.jh o u)->H' b=some (.jh o u)) (uq:∀b ps,H b=some (.tbl ps)->∃more,H' b=some (.tbl (ps++more)))
  (ns:∀m,s.heap.Ns X.env.locals m->h'.Ns X.env.locals m) (ba:jV X.prog X.w H' h') (hg:AllBare g') :
  Inv X ae σ H' {s with heap:=h',gens:=g',drawn:=d',toks:=t'}:=by
 have Zo:∀b o,X.s₀.heap.get? b=some o->b≠X.env.locals:=λb o e=>eL (iM (Heap.lt_size e) I.ok.above);have Vh:∀b o,X.s₀.heap.get? b=some o->b∉X.ex->b∉ch:=λb o e hx hb=>by
  rcases(BE b hb).1 with z|z
  ·exact hx z
  ·exact absurd (iM (Heap.lt_size e) z) (rF _)
 have cellK:∀x c,X.env.cells.lookup x=some c->∀v,s.heap.IsCell c v->h'.IsCell c v:=λx c e v zz=>by
  obtain⟨o,ho,hd⟩:=zz;have Qe:c∉ch:=λz=>(BE c z).2.2.1 x c e rfl;by_cases hc:c∈X.fs
  ·obtain⟨sl,q⟩:=slot c o (I.L3 x c e) hc Qe ho (I.freeC x c e)
   exact⟨_,q,hd⟩
  ·exact⟨o,keep c o (I.L3 x c e) hc Qe ho (I.freeC x c e),hd⟩
 refine⟨I.ok,I.os,hg,⟨λb o e n hb hx=>?_,λb o e n hb hx=>?_,λb o e n hx=>?_,λb o e hx=>?_,λb xs e=>uo b xs (I.base.uo b xs e),λb o xs e=>rJ b o xs (I.base.rJ b o xs e),λb ps e=>?_⟩,?_,λx c e=>?_,?_,λx c e=>?_,λp hp=>?_,ba,I.len⟩
 ·exact keep b o (Zo b o e) hb (Vh b o e hx) (I.base.keep b o e n hb hx) (I.base.free b o e n hx)
 ·obtain⟨sl,e1⟩:=I.base.slot b o e n hb hx
  obtain⟨Vi,e2⟩:=slot b _ (Zo b o e) hb (Vh b o e hx) e1 (I.base.free b o e n hx);exact⟨Vi,e2⟩
 ·obtain⟨o',e1⟩:=I.base.there b o e hx
  exact free b o' (Vh b o e hx) e1 (I.base.free b o e n hx)
 ·obtain⟨o',e1⟩:=I.base.there b o e hx
  exact there b o' (Vh b o e hx) e1
 ·obtain⟨m1,e1⟩:=I.base.uq b ps e
  obtain⟨m2,e2⟩:=uq b _ e1;exact⟨m1++m2,by rw[e2,Array.append_assoc]⟩
 ·obtain⟨m,hn,hl⟩:=I.loc
  refine⟨m,ns m hn,λi x v e1 e2 e3=>?_⟩;obtain⟨u,r,l⟩:=hl i x v e1 e2 e3;refine⟨u,r,?_⟩;rcases l with l|⟨k,c,e,z⟩
  ·exact .inl l
  ·exact .inr ⟨k,c,e,cellK x c e _ z⟩
 ·obtain⟨v,z⟩:=I.cell x c e
  exact⟨v,cellK x c e v z⟩
 ·obtain⟨m,⟨o,_,_,ho,_⟩,_⟩:=I.loc
  exact free _ o (λz=>(BE _ z).2.1 rfl) ho I.free
 ·obtain⟨v,o,ho,hd⟩:=I.cell x c e
  exact free c o (λz=>(BE c z).2.2.1 x c e rfl) ho (I.freeC x c e)
 ·obtain⟨e,n,ne,nf,d⟩:=I.pin p hp
  have Qe:p.1∉ch:=λz=>(BE p.1 z).2.2.2 p hp rfl;exact⟨keep p.1 p.2 ne nf Qe e n,free p.1 p.2 Qe e n,ne,nf,d⟩
theorem Inv.un{t':Nat}(I:Inv X ae σ H s)(u:Un X.fs [] H H' s.heap h')(ba:jV X.prog X.w H' h'):Inv X ae σ H' {s with heap:=h',toks:=t'}:=by
 obtain⟨m,⟨o,es,ep,ho,r⟩,_⟩:=id I.loc;obtain⟨sl,hL⟩:=u.any ho I.free (by simp)
 exact I.step (g':=s.gens) (d':=s.drawn) (ch:=[]) (λ_ z=>nomatch z) (λb o _ hb _ e n=>u.keep b o e n hb (by simp)) (λb o _ hb _ e n=>u.slot b o e n hb (by simp)) (λb o _ e n=>u.free b o e n (by simp)) (λb o _ e=>u.there b o e (by simp)) u.uo u.rJ u.uq (λm' hm=>by
  obtain⟨o',V2,V3,L5,r'⟩:=hm;rw[ho]at L5;cases L5;exact⟨_,V2,V3,hL,r'⟩) ba I.bare
theorem Inv.call{g':Array GenState}{t':Nat}{d':Drawn}{ch:BM}(I:Inv X ae σ H s)(u:Un (CA X.stack) ch H H' s.heap h')(ba:jV X.prog X.w H' h')(hg:AllBare g')
  (BE:∀b∈ch,(b∈X.ex\/X.s₀.heap.objs.size<=b)/\b≠X.env.locals/\(∀x c,X.env.cells.lookup x=some c->c≠b)/\∀p∈X.pn++ae,p.1≠b) :
  Inv X ae σ H' {s with heap:=h',gens:=g',drawn:=d',toks:=t'}:=by
 obtain⟨m,⟨o,es,ep,ho,r⟩,_⟩:=id I.loc;obtain⟨sl,hL⟩:=u.any ho I.free λz=>(BE _ z).2.1 rfl;exact I.step (ch:=ch) BE (λb o hL hb hc e n=>u.keep b o e n (λz=>(bA.mp (I.rM b z)).elim hL hb) hc) (λb o _ _ hc e n=>u.any e n hc) (λb o hc e n=>u.free b o e n hc) (λb o hc e=>u.there b o e hc) u.uo u.rJ u.uq (λm' hm=>by
  obtain⟨o',V2,V3,L5,r'⟩:=hm;rw[ho]at L5;cases L5;exact⟨_,V2,V3,hL,r'⟩) ba hg
theorem Inv.turned{t':Nat}{it:Addr}(I:Inv X ae σ H s)(k:∀b o,b≠it->s.heap.get? b=some o->h'.get? b=some o)(hn:H it=none)(hL:it≠X.env.locals)
  (h1:it∈X.ex\/X.s₀.heap.objs.size<=it) (h2:∀x c,X.env.cells.lookup x=some c->c≠it) (h3:∀p∈X.pn++ae,p.1≠it):Inv X ae σ H {s with heap:=h',toks:=t'}:=by
 have Zp:∀b u,H b=some u->b≠it:=λb u e z=>by rw[z,hn]at e;cases e
 refine I.step (g':=s.gens) (d':=s.drawn) (ch:=[it]) (λb hb=>?_) (λb o _ _ hc e _=>k b o (λz=>hc (by simp[z])) e) (λb o _ _ hc e _=>⟨o.slots,k b o (λz=>hc (by simp[z])) e⟩) (λ_ _ _ _ n=>n)
  (λb o hc e=>⟨o,k b o (λz=>hc (by simp[z])) e⟩) (λ_ _ e=>e) (λ_ _ _ e=>e) (λb ps e=>⟨#[],by rw[e];simp⟩) (λm hm=>?_) (λb u e=>?_) I.bare
 ·have e:b=it:=by simpa using hb
  subst e;exact⟨h1,hL,h2,h3⟩
 ·obtain⟨o,es,ep,ho,r⟩:=hm
  exact⟨o,es,ep,k _ o (Ne.symm hL) ho,r⟩
 ·refine(I.ba b u e).wW (λc v hc q=>k c v ?_ q) (λ_ q=>q) λ_ _ q=>q
  rcases hc with z|z
  ·rw[z];exact Zp b u e
  ·exact Zp c _ z
theorem Inv.tok(I:Inv X ae σ H s)(t:Nat):Inv X ae σ H {s with toks:=t}:=I.un (h':=s.heap) (t':=t) Un.refl I.ba
theorem Inv.kept{t':Nat}(I:Inv X ae σ H s)(k:∀b u,s.heap.get? b=some u->h'.get? b=some u):Inv X ae σ H {s with heap:=h',toks:=t'}:=I.un (Un.kept k) (I.ba.kept k)
theorem Inv.laid{a:Addr}{o:HO}{t':Nat}(I:Inv X ae σ H s)(k:∀b u,s.heap.get? b=some u->h'.get? b=some u)(hp:s.heap.objs.size<=a)(new:b7 X.prog X.w (upd H a o) h' a o) :
  Inv X ae σ (upd H a o) {s with heap:=h',toks:=t'}:=I.un (Un.laid k hp (I.ba.fresh hp)) (I.ba.laid k hp new)
theorem Inv.write{x e:Addr}{o:HO}{t':Nat}(I:Inv X ae σ H s)(mu:Qc (H x))(he:e=x\/H e=some (.own x))(k:∀b u,b≠e->s.heap.get? b=some u->h'.get? b=some u)(Pz:∃u,h'.get? e=some u)
  (new:b7 X.prog X.w (upd H x o) h' x o):Inv X ae σ (upd H x o) {s with heap:=h',toks:=t'}:=I.un (Un.write mu he k Pz) (I.ba.write mu he k Pz new)
theorem Inv.weak{σ':List (Option V)}(I:Inv X ae σ H s)(hl:σ'.length=σ.length)(w:∀(i:Nat)v,σ'[i]?=some (some v)->σ[i]?=some (some v)):Inv X ae σ' H s:=
 ⟨I.ok,I.os,I.bare,I.base,let⟨m,hn,yN⟩:=I.loc;⟨m,hn,λi x v e1 e2 e3=>yN i x v e1 (w i v e2) e3⟩,I.cell,I.free,I.freeC,I.pin,I.ba,hl.trans I.len⟩
theorem Inv.yO{KI:dm}(I:Inv X ae σ H s)(h:∀p∈KI,s.heap.get? p.1=some p.2/\H p.1=none/\p.1≠X.env.locals/\p.1∉X.fs/\∀v,p.2.data≠.cell v):Inv X KI σ H s:=
 ⟨I.ok,I.os,I.bare,I.base,I.loc,I.cell,I.free,I.freeC,λp hp=>(fk.mp hp).elim (λz=>I.pin p (JX _ z)) (h p),I.ba,I.len⟩
theorem ur{N:Bi}(hN:N.Nodup){i j:Nat}{x:Str}(a:N[i]?=some x)(b:N[j]?=some x):i=j:=by
 obtain⟨h1,e1⟩:=eA.mp a;obtain⟨h2,e2⟩:=eA.mp b;exact(List.getElem_inj hN).mp (e1.trans e2.symm)
theorem qA{M:Model}{A:Around}{E:Value->Shared->Prop}{i:Nat}{x:Str}{v:V}{u:Value}{Q:Unit->Shared->Prop}(I:Inv X ae σ H s)(hN:X.N.Nodup)(hi:X.N[i]?=some x)(hx:Loc X.env.scope x)(r:RelV v u)
  (h:∀s',Inv X ae (σ.set i (some v)) H s'->(∃a,Heap.SameBut a s.heap s'.heap/\(a=X.env.locals\/X.env.cells.lookup x=some a))->Q () s') (hf:X.fn x=true\/X.env.scope.names.lookup x=some .local:=by first|exact .inl rfl|exact .inr rfl|assumption):wpAny M A (storeName X.env x u) Q E s:=by
 obtain⟨m,hn,hl⟩:=id I.loc;have V4:(X.env.scope.kind == .class ||(X.env.scope.kind == .module&&X.env.locals != X.env.globals))=false:=by rw[I.ok.kind];rfl
 have hiσ:i<σ.length:=by rw[I.len];exact(eA.mp hi).1
 have L3:=I.L3;have tracked:∀{a:Addr}{h':Heap},(∃o,s.heap.get? a=some o/\H a=none)->Heap.SameBut a s.heap h'->jV X.prog X.w H h':=λ{a h'} ha hs b ob e=>by
  obtain⟨_,_,qC⟩:=ha;refine(I.ba b ob e).wW (λc w' hc q=>(hs.2 c ?_).trans q) (λ_ q=>q) λ_ _ q=>q
  rintro rfl
  rcases hc with rfl|hc
  ·rw[qC]at e;cases e
  ·rw[qC]at hc;cases hc
 rcases hx with hk|hk
 ·refine wpAny_storeName_local hk hn (λh' hn' hs=>?_) V4
  obtain⟨oL,_,_,hoL,_⟩:=id hn;refine h _ ⟨I.ok,I.os,I.bare,⟨λb o e n hb hx=>?_,λb o e n hb hx=>?_,I.base.free,λb o e hx=>?_,I.base.uo,I.base.rJ,I.base.uq⟩,⟨_,hn',λj y v' e1 e2 e3=>?_⟩,λy c e=>?_,I.free,I.freeC,λp hp=>?_,tracked ⟨oL,hoL,I.free⟩ hs,by simpa using I.len⟩ ⟨_,hs,.inl rfl⟩
  ·exact(hs.2 b (eL (iM (Heap.lt_size e) I.ok.above))).trans (I.base.keep b o e n hb hx)
  ·obtain⟨sl,e1⟩:=I.base.slot b o e n hb hx
   exact⟨sl,(hs.2 b (eL (iM (Heap.lt_size e) I.ok.above))).trans e1⟩
  ·obtain⟨o',e1⟩:=I.base.there b o e hx
   exact⟨o',(hs.2 b (eL (iM (Heap.lt_size e) I.ok.above))).trans e1⟩
  ·by_cases hj:j=i
   ·subst hj
    rw[hi]at e1;cases e1;rw[eV hiσ]at e2;cases e2;exact⟨u,r,.inl ⟨hk,by simp⟩⟩
   ·rw[c5 (Ne.symm hj)]at e2
    obtain⟨u',r',q⟩:=hl j y v' e1 e2 e3;refine⟨u',r',?_⟩;rcases q with⟨k,e⟩|⟨k,c,e,z⟩
    ·refine .inl ⟨k,?_⟩
     have:y≠x:=λe=>hj (ur hN e1 (e▸hi))
     simp[this,e]
    ·exact .inr ⟨k,c,e,z.sameBut hs (L3 y c e)⟩
  ·obtain⟨w',z⟩:=I.cell y c e
   exact⟨w',z.sameBut hs (L3 y c e)⟩
  ·obtain⟨e,n,ne,nf,d⟩:=I.pin p hp
   exact⟨(hs.2 p.1 ne).trans e,n,ne,nf,d⟩
 ·have Qf:X.fn x=true:=by
   rcases hf with z|z
   ·exact z
   ·rw[z]at hk;cases hk
  obtain⟨c,hc⟩:=I.ok.has x (.inl hk);obtain⟨w',z⟩:=I.cell x c hc;refine wpAny_storeName_cell I.ok.kind hk hc z (λh' PB hs=>?_);obtain⟨oc,Zq,V5⟩:=id z;refine h {s with heap:=h'} ⟨I.ok,I.os,I.bare,⟨λb o e n hb hx=>?_,λb o e n hb hx=>?_,I.base.free,λb o e hx=>?_,I.base.uo,I.base.rJ,I.base.uq⟩,⟨m,hn.sameBut hs (Ne.symm (L3 x c hc)),λj y v' e1 e2 e3=>?_⟩,λy c' e=>?_,I.free,I.freeC,λp hp=>?_,tracked ⟨oc,Zq,I.freeC x c hc⟩ hs,by simpa using I.len⟩ ⟨c,hs,.inr hc⟩
  ·exact(hs.2 b (eL (iM (Heap.lt_size e) (I.ok.cab x c Qf hc)))).trans (I.base.keep b o e n hb hx)
  ·obtain⟨sl,e1⟩:=I.base.slot b o e n hb hx
   exact⟨sl,(hs.2 b (eL (iM (Heap.lt_size e) (I.ok.cab x c Qf hc)))).trans e1⟩
  ·obtain⟨o',e1⟩:=I.base.there b o e hx
   exact⟨o',(hs.2 b (eL (iM (Heap.lt_size e) (I.ok.cab x c Qf hc)))).trans e1⟩
  ·by_cases hj:j=i
   ·subst hj
    rw[hi]at e1;cases e1;rw[eV hiσ]at e2;cases e2;exact⟨u,r,.inr ⟨.inl hk,c,hc,PB⟩⟩
   ·rw[c5 (Ne.symm hj)]at e2
    obtain⟨u',r',q⟩:=hl j y v' e1 e2 e3;refine⟨u',r',?_⟩;rcases q with q|⟨k,c',e,z'⟩
    ·exact .inl q
    ·refine .inr ⟨k,c',e,z'.sameBut hs ?_⟩
     rintro rfl
     exact hj (ur hN e1 (I.ok.inj _ _ _ e hc▸hi))
  ·by_cases PD:c'=c
   ·subst PD;exact⟨_,PB⟩
   ·obtain⟨w2,z2⟩:=I.cell y c' e
    exact⟨w2,z2.sameBut hs PD⟩
  ·obtain⟨e,n,ne,nf,d⟩:=I.pin p hp
   refine⟨(hs.2 p.1 ?_).trans e,n,ne,nf,d⟩;intro q;rw[q,Zq]at e;have q':oc=p.2:=ly.inj e;exact d w' (by rw[<- q'];exact V5)
theorem nH{M:Model}{A:Around}{E:Value->Shared->Prop}{i:Nat}{x:Str}{v:V}{u:Value}{Q:Unit->Shared->Prop}(I:Inv X ae σ H s)(hN:X.N.Nodup)(hi:X.N[i]?=some x)(hx:Loc X.env.scope x)(r:RelV v u)
  (h:∀s',Inv X ae (σ.set i (some v)) H s'->Q () s') (hf:X.fn x=true\/X.env.scope.names.lookup x=some .local:=by first|exact .inl rfl|exact .inr rfl|assumption):wpAny M A (storeName X.env x u) Q E s:=
 qA I hN hi hx r (λs' I' _=>h s' I') hf
theorem Inv.Qg{s':Shared}{ch:BM}(I:Inv X ae σ H s)(ho:s'.os=s.os)(u:Un (CA X.stack) ch H H' s.heap s'.heap)(ba:jV X.prog X.w H' s'.heap)(hg:AllBare s'.gens)
  (BE:∀b∈ch,(b∈X.ex\/X.s₀.heap.objs.size<=b)/\b≠X.env.locals/\(∀x c,X.env.cells.lookup x=some c->c≠b)/\∀p∈X.pn++ae,p.1≠b):Inv X ae σ H' s':=by
 obtain⟨h',g',d',t',o'⟩:=s';have e:o'=s.os:=ho;subst e;exact I.call (g':=g') (t':=t') (d':=d') u ba hg BE
end
abbrev XK:=Value->Option Addr->Hp->Prop
abbrev St:=List (Option V)
abbrev VK:=V->Hp->Prop
abbrev TE:=St->Hp->VK->Prop
abbrev TT:=St->Hp->(Bool->Hp->Prop)->Prop
abbrev TA:=St->Hp->(List V->Hp->Prop)->Prop
structure Ends where
 nx:St->Hp->Prop
 rt:VK
 bk:St->Hp->Prop:=λ_ _=>False
 ct:St->Hp->Prop:=λ_ _=>False
abbrev TS:=Ends->St->Hp->Prop
def EP(X:Cx)(ae:dm)(σ:St)(Q:VK)(u:Value)(s':Shared):Prop:=∃v H',Inv X ae σ H' s'/\RelV v u/\Q v H'
def TP(X:Cx)(ae:dm)(σ:St)(Q:Bool->Hp->Prop)(b:Bool)(s':Shared):Prop:=∃H',Inv X ae σ H' s'/\Q b H'
def AP(X:Cx)(ae:dm)(σ:St)(Q:List V->Hp->Prop)(us:B2)(s':Shared):Prop:=∃vs H',Inv X ae σ H' s'/\Vals vs us/\Q vs H'
def SP(X:Cx)(ae:dm)(D:Ends)(f:Flow)(s':Shared):Prop:=
 match f with
 |.next=>∃σ' H',Inv X ae σ' H' s'/\D.nx σ' H'
 |.brk=>∃σ' H',Inv X ae σ' H' s'/\D.bk σ' H'
 |.cont=>∃σ' H',Inv X ae σ' H' s'/\D.ct σ' H'
 |.ret u=>∃v σ' H',Inv X ae σ' H' s'/\RelV v u/\D.rt v H'
def PE(X:Cx)(e:Expr)(t:TE):Prop:=
 ∀(ae:dm)(s:Shared)(σ:St)(H:Hp)(Q:VK),Inv X ae σ H s->t σ H Q->wpAny (model X.prog X.w) X.A (eval e X.env) (EP X ae σ Q) X.xe s
def PT(X:Cx)(e:Expr)(t:TT):Prop:=
 ∀(ae:dm)(s:Shared)(σ:St)(H:Hp)(Q:Bool->Hp->Prop),Inv X ae σ H s->t σ H Q->wpAny (model X.prog X.w) X.A (isTrue e X.env (eval e X.env)) (TP X ae σ Q) X.xe s
def PW(X:Cx)(e:Expr)(t:TT):Prop:=
 ∀(iB:Sem Value)(ae:dm)(s:Shared)(σ:St)(H:Hp)(Q:Bool->Hp->Prop),Inv X ae σ H s->t σ H Q->wpAny (model X.prog X.w) X.A (isTrue e X.env iB) (TP X ae σ Q) X.xe s
theorem PW.pt{X:Cx}{e:Expr}{t:TT}(h:PW X e t):PT X e t:=h _
def PA(X:Cx)(es:Bz)(t:TA):Prop:=
 ∀(pos:Pos)(ae:dm)(s:Shared)(σ:St)(H:Hp)(Q:List V->Hp->Prop),Inv X ae σ H s->t σ H Q->wpAny (model X.prog X.w) X.A (spliced (backTo pos (starEach es X.env))) (AP X ae σ Q) X.xe s
def PS(X:Cx)(st:Stmt)(t:TS):Prop:=
 ∀(ae:dm)(s:Shared)(σ:St)(H:Hp)(D:Ends),Inv X ae σ H s->t D σ H->wpAny (model X.prog X.w) X.A (exec st X.env) (SP X ae D) X.xe s
def j8(X:Cx)(st:Ee)(t:TS):Prop:=
 ∀(ae:dm)(s:Shared)(σ:St)(H:Hp)(D:Ends),Inv X ae σ H s->t D σ H->wpAny (model X.prog X.w) X.A (execs st X.env) (SP X ae D) X.xe s
theorem bO{α:Type}{t:Sem α}{Q Q':α->Shared->Prop}{M:Model}{A:Around}{E:Value->Shared->Prop}{s:Shared}(h:wpAny M A t Q E s)(hQ:∀a s,Q a s->Q' a s):wpAny M A t Q' E s:=wpAny_mono h hQ λ_ _ x=>x
section
variable{X:Cx}
def wX(i:Nat):TE:=λσ H Q=>∃v,σ[i]?=some (some v)/\Q v H
def tC(v:V):TE:=λ_ H Q=>Q v H
theorem dD{i:Nat}{x:Str}{pos:Pos}(hN:X.N[i]?=some x)(hv:rL X.env.scope x)(hd:bZ x:=by decide)(jD:iO x:=by decide):PE X (.Name x pos) (wX i):=by
 intro ae s σ H Q I h;obtain⟨v,e,h⟩:=h;obtain⟨m,hn,hl⟩:=I.loc;obtain⟨u,r,l⟩:=hl i x v hN e hv;have fin:EP X ae σ Q u s:=⟨v,H,I,r,h⟩;rcases l with⟨hk,hm⟩|⟨hk,c,hc,hcell⟩
 ·exact wpAny_Name (wpAny_loadName_local I.ok.kind hk hn hm fin) hd
 ·rcases hk with hk|hk
  ·exact wpAny_Name (wpAny_loadName_cell I.ok.kind hk hc hcell fin) hd
  ·exact wpAny_Name (wpAny_loadName_free I.ok.kind hk hc hcell fin jD) hd
theorem L6{i j pos}:PE X (.Constant (.int i) j pos) (tC (.int i)):=λ_ _ _ H _ I h=>wpAny_Constant_int ⟨.int i,H,I.tok _,⟨_,rfl⟩,h⟩
theorem Qh{b j pos}:PE X (.Constant (.bool b) j pos) (tC (.bl b)):=λ_ _ _ H _ I h=>Constant_bool ⟨.bl b,H,I,rfl,h⟩
theorem L7{j pos}:PE X (.Constant .none j pos) (tC .non):=λ_ _ _ H _ I h=>Constant_none ⟨.non,H,I,rfl,h⟩
theorem wY{x j pos}:PE X (.Constant (.str x) j pos) (tC (.str x)):=λ_ _ _ H _ I h=>Calls.Constant_str ⟨.str x,H,I.tok _,⟨_,rfl⟩,h⟩
def Gl(X:Cx)(x:Str):Prop:=X.env.kindOf x=some .globalImplicit
theorem j9{E:Value->Shared->Prop}{ae:dm}{s:Shared}{σ:St}{H:Hp}{x:Str}{u:Value}{pos:Pos}{Q:Value->Shared->Prop}(I:Inv X ae σ H s)(hg:Gl X x)(hm:X.mg x=some u)(h:Q u s)
  (hd:bZ x:=by decide):wpAny (model X.prog X.w) X.A (eval (.Name x pos) X.env) Q E s:=
 Calls.Name_function_global I.ok.kind hg (Calls.loadGlobal_global (by rw[I.ok.glob];exact I.mod.glob.keeps I.bk) hm h) hd
theorem fR{E:Value->Shared->Prop}{ae:dm}{s:Shared}{σ:St}{H:Hp}{x:Str}{u:Value}{pos:Pos}{Q:Value->Shared->Prop}(I:Inv X ae σ H s)(hg:Gl X x)(hm:X.mg x=none)(hv:bootBuiltins x=some u)(h:Q u s)
  (hn:x ≠ "__name__" := by decide) (hd:bZ x:=by decide):wpAny (model X.prog X.w) X.A (eval (.Name x pos) X.env) Q E s:=by
 obtain⟨mb,h1,h2⟩:=I.mod.blt;exact Calls.Name_function_global I.ok.kind hg (Calls.loadGlobal_builtin (by rw[I.ok.glob];exact I.mod.glob.keeps I.bk) hm (by rw[I.ok.blt];exact h1.keeps I.bk) ((h2 x hn).trans hv) h) hd
theorem rN{x:Str}{v:V}{u:Value}{pos:Pos}(hg:Gl X x)(hm:X.mg x=some u)(r:RelV v u)(hd:bZ x:=by decide):PE X (.Name x pos) (tC v):=
 λ_ _ _ H _ I h=>j9 I hg hm ⟨v,H,I,r,h⟩ hd
theorem GY{x:Str}{v:V}{u:Value}{pos:Pos}(hg:Gl X x)(hm:X.mg x=none)(hv:bootBuiltins x=some u)(r:RelV v u)(hn:x ≠ "__name__" := by decide)(hd:bZ x:=by decide):PE X (.Name x pos) (tC v):=
 λ_ _ _ H _ I h=>fR I hg hm hv ⟨v,H,I,r,h⟩ hn hd
variable{a:Expr}{ta tb:TE}
def PC(X:Cx)(op:CmpOp)(a b:Expr)(t:TE):Prop:=
 ∀(ae:dm)(s:Shared)(σ:St)(H:Hp)(Q:VK),Inv X ae σ H s->t σ H Q ->
  wpAny (model X.prog X.w) X.A (eval a X.env) (λv s₁=>wpAny (model X.prog X.w) X.A (eval b X.env) (λu s₂=>wpAny (model X.prog X.w) X.A (compareOp op v u) (EP X ae σ Q) X.xe s₂) X.xe s₁) X.xe s
def tB(t:TE):TT:=λσ H Q=>t σ H λx H1=>∃c,x=.bl c/\Q c H1
variable{tA Vj:TT}{rest:Bz}
def V6(t u:TT):TT:=λσ H Q=>t σ H λc H1=>if c=true then u σ H1 Q else Q false H1
def tOr(t u:TT):TT:=λσ H Q=>t σ H λc H1=>if c=true then Q true H1 else u σ H1 Q
def V7(t:TT):TT:=λσ H Q=>t σ H λc H1=>Q (!c) H1
theorem GZ(ha:PT X a tA):PW X (.BoolOp .And [a] pos) tA:=by
 intro wh ae s σ H Q I h;refine isTrue_and (bO (ha ae s σ H Q I h) λc s1 e=>?_);cases c with
 |true=>exact isTrue_and_nil e
 |false=>exact e
theorem L8(ha:PT X a tA):PW X (.BoolOp .Or [a] pos) tA:=by
 intro wh ae s σ H Q I h;refine isTrue_or (bO (ha ae s σ H Q I h) λc s1 e=>?_);cases c with
 |false=>exact isTrue_or_nil e
 |true=>exact e
theorem L_(ha:PT X a tA)(hb:PW X (.BoolOp .And (b::rest) pos) Vj):PW X (.BoolOp .And (a::b::rest) pos) (V6 tA Vj):=by
 intro wh ae s σ H Q I h;refine isTrue_and (bO (ha ae s σ H _ I h) λc s1 zz=>?_);obtain⟨H1,I1,q1⟩:=zz;cases c with
 |true=>exact hb wh ae s1 σ H1 Q I1 q1
 |false=>exact⟨H1,I1,q1⟩
theorem Qi(ha:PT X a tA)(hb:PW X (.BoolOp .Or (b::rest) pos) Vj):PW X (.BoolOp .Or (a::b::rest) pos) (tOr tA Vj):=by
 intro wh ae s σ H Q I h;refine isTrue_or (bO (ha ae s σ H _ I h) λc s1 zz=>?_);obtain⟨H1,I1,q1⟩:=zz;cases c with
 |true=>exact⟨H1,I1,q1⟩
 |false=>exact hb wh ae s1 σ H1 Q I1 q1
theorem Ma(ha:PT X a tA):PT X (.UnaryOp .Not a pos) (V7 tA):=by
 intro ae s σ H Q I h;exact isTrue_not (ha ae s σ H (λc H1=>Q (!c) H1) I h)
def Qj(ta tb:TE):TE:=λσ H Q=>ta σ H λx H1=>∃c,x=.bl c/\if c=true then tb σ H1 Q else Q (.bl false) H1
def V8(ta tb:TE):TE:=λσ H Q=>ta σ H λx H1=>∃c,x=.bl c/\if c=true then Q (.bl true) H1 else tb σ H1 Q
def Qk(ta:TE):TE:=λσ H Q=>ta σ H λx H1=>∃c,x=.bl c/\Q (.bl (!c)) H1
theorem Mb{op}{t:TE}(h:PE X a t):PE X (.BoolOp op [a] pos) t:=λae s σ H Q I hw=>BoolOp_one (h ae s σ H Q I hw)
theorem Mc(ha:PE X a ta)(hb:PE X (.BoolOp .And (b::rest) pos) tb):PE X (.BoolOp .And (a::b::rest) pos) (Qj ta tb):=by
 intro ae s σ H Q I h;refine BoolOp_and (bO (ha ae s σ H _ I h) λv s1 zz=>?_);obtain⟨x,H1,I1,r1,q1⟩:=zz;obtain⟨c,rfl,q1⟩:=q1;cases r1;refine wpAny_truthy_bool ?_;cases c with
 |true=>exact hb ae s1 σ H1 Q I1 q1
 |false=>exact⟨.bl false,H1,I1,rfl,q1⟩
theorem Ql(ha:PE X a ta)(hb:PE X (.BoolOp .Or (b::rest) pos) tb):PE X (.BoolOp .Or (a::b::rest) pos) (V8 ta tb):=by
 intro ae s σ H Q I h;refine BoolOp_or (bO (ha ae s σ H _ I h) λv s1 zz=>?_);obtain⟨x,H1,I1,r1,q1⟩:=zz;obtain⟨c,rfl,q1⟩:=q1;cases r1;refine wpAny_truthy_bool ?_;cases c with
 |false=>exact hb ae s1 σ H1 Q I1 q1
 |true=>exact⟨.bl true,H1,I1,rfl,q1⟩
theorem Me(ha:PE X a ta):PE X (.UnaryOp .Not a pos) (Qk ta):=by
 intro ae s σ H Q I h;refine UnaryOp_ (bO (ha ae s σ H _ I h) λv s1 zz=>?_);obtain⟨x,H1,I1,r1,q1⟩:=zz;obtain⟨c,rfl,q1⟩:=q1;cases r1;exact not_of (wpAny_truthy_bool ⟨.bl (!c),H1,I1,rfl,q1⟩)
def tIf(t:TT)(ta tb:TE):TE:=λσ H Q=>t σ H λc H1=>if c=true then ta σ H1 Q else tb σ H1 Q
theorem uu{c:Expr}(hc:PT X c tA)(ha:PE X a ta)(hb:PE X b tb):PE X (.IfExp c a b pos) (tIf tA ta tb):=by
 intro ae s σ H Q I h;refine wpAny_IfExp (bO (hc ae s σ H _ I h) λd s1 zz=>?_);obtain⟨H1,I1,q1⟩:=zz;cases d with
 |true=>exact ha ae s1 σ H1 Q I1 q1
 |false=>exact hb ae s1 σ H1 Q I1 q1
end
def df(K:bu)(H:Hp)(a:Addr)(xs:List V):Prop:=
 Rd H a (.lst xs) \/
  ∃(o:Obj)(its:Array Value)(n:Nat),K.lookup a=some o/\o.cls=.type "list" /\ o.dict=none/\o.data=.seq its n/\its.size<=sizeLine/\Vals xs its.toList
def lV(K:bu)(H:Hp)(a:Addr)(xs:List V):Prop:=
 Rd H a (.tup xs) \/
  ∃(o:Obj)(its:Array Value)(n:Nat),K.lookup a=some o/\o.cls=.type "tuple" /\ o.data=.seq its n/\its.size<=sizeLine/\Vals xs its.toList
def V9:Value->Option V
 |.none=>some .non
 |.bool b=>some (.bl b)
 |.int i _=>some (.int i)
 |.str x _=>some (.str x)
 |.bytes b _=>some (.byt b)
 |.float b _=>some (.flt b)
 |.ref a=>some (.ref a)
 |.type n=>some (.ty n)
 |_=>none
theorem RelV.abs{x:V}{u:Value}(r:RelV x u):V9 u=some x:=by
 cases x with
 |non=>cases r;rfl
 |bl _=>cases r;rfl
 |int _=>obtain⟨t,rfl⟩:=r;rfl
 |str _=>obtain⟨t,rfl⟩:=r;rfl
 |byt _=>obtain⟨t,rfl⟩:=r;rfl
 |flt _=>obtain⟨t,rfl⟩:=r;rfl
 |ref _=>cases r;rfl
 |ty _=>cases r;rfl
theorem RelV.inj{x y:V}{u:Value}(r:RelV x u)(q:RelV y u):x=y:=ly.inj (r.abs.symm.trans q.abs)
theorem Vals.inj:∀{xs ys:List V}{us:B2},Vals xs us->Vals ys us->xs=ys
 |_,_,_,.nil,.nil=>rfl
 |_,_,_,.cons r t,.cons r' t'=>by rw[r.inj r',Vals.inj t t']
section
variable{X:Cx}{σ:St}{xs ys:List V}
theorem df.of{K:bu}(h:H a=some (.lst xs)):df K H a xs:=.inl (.inl h)
theorem lV.of{K:bu}(h:H a=some (.tup xs)):lV K H a xs:=.inl (.inl h)
theorem Inv.list(I:Inv X ae σ H s)(h:df X.K H a xs):∃its:B2,Vals xs its/\PlainL s.heap a its.toArray/\xs.length<=sizeLine:=by
 rcases h with h|⟨o,its,n,hk,hc,hd,hs,hz,r⟩
 ·obtain⟨z,its,n,r,e⟩:=h.ok I.ba
  exact⟨its,r,⟨_,n,e,rfl,rfl,rfl⟩,z⟩
 ·refine⟨its.toList,r,⟨o,n,I.j7 a o hk,hc,hd,by simpa using hs⟩,?_⟩
  have e:=r.length;simp only[Array.length_toList]at e;omega
theorem Inv.tuple(I:Inv X ae σ H s)(h:lV X.K H a xs):∃its:B2,Vals xs its/\IsTup s.heap a its.toArray/\xs.length<=sizeLine:=by
 rcases h with h|⟨o,its,n,hk,hc,hs,hz,r⟩
 ·obtain⟨z,its,r,p⟩:=h.ok I.ba
  exact⟨its,r,p,z⟩
 ·refine⟨its.toList,r,⟨o,I.j7 a o hk,hc,n,by simpa using hs⟩,?_⟩
  have e:=r.length;simp only[Array.length_toList]at e;omega
theorem Inv.CB(I:Inv X ae σ H s)(h:df X.K H a xs)(h':df X.K H a ys):xs=ys:=by
 obtain⟨its,r,⟨o,n,e,_,_,d⟩,_⟩:=I.list h;obtain⟨its',r',⟨o',n',e',_,_,d'⟩,_⟩:=I.list h';rw[e]at e';cases e';rw[d]at d';injection d' with d1 _
 have:its=its':=by simpa using congrArg Array.toList d1
 subst this;exact r.inj r'
theorem Inv.qD(I:Inv X ae σ H s)(h:lV X.K H a xs)(h':lV X.K H a ys):xs=ys:=by
 obtain⟨its,r,⟨o,e,_,n,d⟩,_⟩:=I.tuple h;obtain⟨its',r',⟨o',e',_,n',d'⟩,_⟩:=I.tuple h';rw[e]at e';cases e';rw[d]at d';injection d' with d1 _
 have:its=its':=by simpa using congrArg Array.toList d1
 subst this;exact r.inj r'
end
abbrev Cx.qc(X:Cx)(E:Value->Shared->Prop):Cx:={X with xe:=E}
abbrev Cx.KJ(X:Cx):Cx:=X.qc λ_ _=>False
theorem Cx.Ok.qc{X:Cx}(ok:X.Ok)(E:Value->Shared->Prop):(X.qc E).Ok:=
 ⟨ok.mod,ok.kind,ok.glob,ok.blt,ok.above,ok.inj,ok.has,ok.cab,ok.hd,ok.frames,ok.stk,ok.exf,ok.bs,ok.bsz,ok.noex,ok.exfs,ok.mG,ok.frf⟩
theorem Cx.Ok.iT{X:Cx}{E:Value->Shared->Prop}(ok:(X.qc E).Ok):X.Ok:=
 ⟨ok.mod,ok.kind,ok.glob,ok.blt,ok.above,ok.inj,ok.has,ok.cab,ok.hd,ok.frames,ok.stk,ok.exf,ok.bs,ok.bsz,ok.noex,ok.exfs,ok.mG,ok.frf⟩
section
variable{X:Cx}{σ:St}
theorem Inv.qc(I:Inv X ae σ H s)(E:Value->Shared->Prop):Inv (X.qc E) ae σ H s:=⟨I.ok.qc E,I.os,I.bare,I.base,I.loc,I.cell,I.free,I.freeC,I.pin,I.ba,I.len⟩
theorem Inv.iT(I:Inv (X.qc E) ae σ H s):Inv X ae σ H s:=⟨I.ok.iT,I.os,I.bare,I.base,I.loc,I.cell,I.free,I.freeC,I.pin,I.ba,I.len⟩
theorem SP.iT{D:Ends}{f:Flow}{s':Shared}(h:SP (X.qc E) ae D f s'):SP X ae D f s':=by
 cases f with
 |next=>obtain⟨σ',H',I,q⟩:=h;exact⟨σ',H',I.iT,q⟩
 |brk=>obtain⟨σ',H',I,q⟩:=h;exact⟨σ',H',I.iT,q⟩
 |cont=>obtain⟨σ',H',I,q⟩:=h;exact⟨σ',H',I.iT,q⟩
 |ret u=>obtain⟨v,σ',H',I,r,q⟩:=h;exact⟨v,σ',H',I.iT,r,q⟩
theorem j8.KJ{st:Ee}{t:TS}(h:j8 X.KJ st t):j8 X st t:=λae s σ H D I hw=>
 wpAny_mono (h ae s σ H D (I.qc _) hw) (λ_ _ q=>q.iT) λ_ _ z=>False.elim z
end
section
variable{X:Cx}{st:Stmt}{rest:Ee}{t u:TS}{te:TE}
def CF:TS:=λD σ H=>D.nx σ H
def Qm(t u:TS):TS:=λD σ H=>t {D with nx:=u D} σ H
theorem yP:j8 X [] CF:=λ_ _ σ H _ I h=>wpAny_execs_nil ⟨σ,H,I,h⟩
theorem uv(h1:PS X st t)(h2:j8 X rest u):j8 X (st::rest) (Qm t u):=by
 intro ae s σ H D I h;refine wpAny_execs_cons (bO (h1 ae s σ H {D with nx:=u D} I h) λf s1 q=>?_)
 cases f with
 |next=>
  obtain⟨σ',H',I',q⟩:=q;exact h2 ae s1 σ' H' D I' q
 |ret v=>exact q
 |brk=>exact q
 |cont=>exact q
theorem yQ(h1:PS X st t):j8 X [st] t:=by
 intro ae s σ H D I h;refine wpAny_execs_cons (bO (h1 ae s σ H D I h) λf s1 q=>?_);cases f with
 |next=>exact wpAny_execs_nil q
 |ret v=>exact q
 |brk=>exact q
 |cont=>exact q
def Mf:TS:=λD σ H=>D.bk σ H
def Qn:TS:=λD σ H=>D.ct σ H
theorem G0:PS X (.Pass pos) CF:=λ_ _ σ H _ I h=>wpAny_Pass ⟨σ,H,I,h⟩
theorem CG:PS X (.Break pos) Mf:=λ_ _ σ H _ I h=>wpAny_Break ⟨σ,H,I,h⟩
theorem uw:PS X (.Continue pos) Qn:=λ_ _ σ H _ I h=>wpAny_Continue ⟨σ,H,I,h⟩
theorem Inv.quiet{ae:dm}{σ:St}{H:Hp}{s:Shared}(I:Inv X ae σ H s):interactive X.env=false:=by simp[interactive,I.ok.kind]
def Qp(te:TE):TS:=λD σ H=>te σ H λ_ H1=>D.nx σ H1
theorem rO(he:PE X e te)(hs:swapsWith e none pos.line X.env=pure false:=by rfl):PS X (.Expr e pos) (Qp te):=by
 intro ae s σ H D I h;exact wpAny_Expr_any (bO (he ae s σ H _ I h) λv s1 ⟨x,H1,I1,r1,q1⟩=>⟨σ,H1,I1,q1⟩) I.quiet hs
def V_(te:TE):TS:=λD σ H=>te σ H D.rt
theorem Mg(he:PE X e te):PS X (.Return (some e) pos) (V_ te):=by
 intro ae s σ H D I h;exact wpAny_Return_some (bO (he ae s σ H _ I h) λv s1 ⟨x,H1,I1,r1,q1⟩=>⟨x,σ,H1,I1,r1,q1⟩)
def Qq:TS:=λD _ H=>D.rt .non H
theorem G1:PS X (.Return none pos) Qq:=λ_ _ σ H _ I h=>wpAny_Return_none ⟨.non,σ,H,I,rfl,h⟩
def Wa(c:TT)(t u:TS):TS:=λD σ H=>c σ H λb H1=>if b=true then t D σ H1 else u D σ H1
theorem Qs{c:Expr}{a b:Ee}{tc:TT}(hc:PT X c tc)(ha:j8 X a t)(hb:j8 X b u):PS X (.If c a b pos) (Wa tc t u):=by
 intro ae s σ H D I h;refine wpAny_If (bO (hc ae s σ H _ I h) λd s1 zz=>?_);obtain⟨H1,I1,q1⟩:=zz;cases d with
 |true=>exact ha ae s1 σ H1 D I1 q1
 |false=>exact hb ae s1 σ H1 D I1 q1
end
abbrev TG:=V->St->Hp->(St->Hp->Prop)->Prop
abbrev GL:=List V->St->Hp->(St->Hp->Prop)->Prop
def PG(X:Cx)(target:Expr)(t:TG):Prop:=
 ∀(ae:dm)(s:Shared)(σ:St)(H:Hp)(v:V)(u:Value)(Q:St->Hp->Prop),Inv X ae σ H s->RelV v u->t v σ H Q ->
  wpAny (model X.prog X.w) X.A (assign target X.env u) (λ_ s'=>∃σ' H',Inv X ae σ' H' s'/\Q σ' H') X.xe s
def PF(X:Cx)(ts:Bz)(t:GL):Prop:=
 ∀(ae:dm)(s:Shared)(σ:St)(H:Hp)(vs:List V)(us:B2)(Q:St->Hp->Prop),Inv X ae σ H s->Vals vs us->t vs σ H Q ->
  wpAny (model X.prog X.w) X.A (assignInOrder ((assignEach ts X.env).map (·.2)) us) (λ_ s'=>∃σ' H',Inv X ae σ' H' s'/\Q σ' H') X.xe s
abbrev Mh:=V->V->V->Hp->(Hp->Prop)->Prop
def Qt(X:Cx)(t:Mh):Prop:=
 ∀(ae:dm)(s:Shared)(σ:St)(H:Hp)(o i v:V)(ov iv u:Value)(Q:Hp->Prop),Inv X ae σ H s->RelV o ov->RelV i iv->RelV v u->t o i v H Q ->
  wpAny (model X.prog X.w) X.A (setItem ov iv u) (λ_ s'=>∃H',Inv X ae σ H' s'/\Q H') X.xe s
abbrev Vk:=V->V->Hp->VK->Prop
def Zr(X:Cx)(op:Operator)(t:Vk):Prop:=
 ∀(ae:dm)(s:Shared)(σ:St)(H:Hp)(x y:V)(v u:Value)(Q:VK),Inv X ae σ H s->RelV x v->RelV y u->t x y H Q ->
  wpAny (model X.prog X.w) X.A (inplaceOp op v u) (EP X ae σ Q) X.xe s
section
variable{X:Cx}
def yR(i:Nat):TG:=λv σ H Q=>Q (σ.set i (some v)) H
theorem rP{i:Nat}{x:Str}(hN:X.N.Nodup)(hi:X.N[i]?=some x)(hx:Loc X.env.scope x)(hf:X.fn x=true\/X.env.scope.names.lookup x=some .local:=by first|exact .inl rfl|exact .inr rfl|assumption):PG X (.Name x pos) (yR i):=by
 intro ae s σ H v u Q I r h;exact wpAny_assign_Name (nH I hN hi hx r (λs' I'=>⟨_,H,I',h⟩) hf)
def Qu:GL:=λvs σ H Q=>vs=[]/\Q σ H
def KL(t:TG)(u:GL):GL:=λvs σ H Q=>∃v r,vs=v::r/\t v σ H λσ' H'=>u r σ' H' Q
theorem G2:PF X [] Qu:=by
 intro ae s σ H vs us Q I r h;obtain⟨e,h⟩:=h;subst e;cases r;exact assignInOrder_nil ⟨σ,H,I,h⟩
theorem CH{e:Expr}{es:Bz}{t:TG}{u:GL}(h1:PG X e t)(h2:PF X es u)
  (hs:(assignEach (e::es) X.env).map (·.2)=assign e X.env::(assignEach es X.env).map (·.2):=by rfl):PF X (e::es) (KL t u):=by
 intro ae s σ H vs us Q I r h;obtain⟨v,vr,e1,h⟩:=h;subst e1;cases r with
 |cons r rr=>
  rw[hs];refine assignInOrder_cons (bO (h1 ae s σ H _ _ _ I r h) λ_ s1 zz=>?_);obtain⟨σ1,H1,I1,q1⟩:=zz;exact h2 ae s1 σ1 H1 _ _ Q I1 rr q1
def Mi(K:bu)(n:Nat)(t:GL):TG:=λv σ H Q=>∃a xs,v=.ref a/\lV K H a xs/\xs.length=n/\t xs σ H Q
theorem CI{es:Bz}{k:Nat}{t:GL}{n:Nat}(hc:X.calm=true)(h:PF X es t)
  (hn:(assignEach es X.env).length=n:=by rfl) (Qv:(assignEach es X.env).findIdx? (·.1)=none:=by rfl):PG X (.Tuple es k pos) (Mi X.K n t):=by
 intro ae s σ H v u Q I r hw;obtain⟨a,xs,e1,hq,hl,hw⟩:=hw;subst e1;cases r;obtain⟨its,rv,ht,hz⟩:=I.tuple hq;refine assign_Tuple_tuple (I.ok.hd hc) ht (by simp[hn,<- hl,rv.length]) Qv λh' hx=>?_
 have I1:Inv X ae σ H {s with heap:=h'}:=I.kept (t':=s.toks) λb o e=>hx b o (eL (Heap.lt_size e)) e
 exact h ae _ σ H xs _ Q I1 (by simpa using rv) hw
def Wb(to ti:TE)(t:Mh):TG:=λv σ H Q=>to σ H λo H1=>ti σ H1 λi H2=>t o i v H2 λH3=>Q σ H3
theorem Mj{o i:Expr}{to ti:TE}{t:Mh}(ho:PE X o to)(hi:PE X i ti)(hs:Qt X t)
  (ha:∀v,assign (.Subscript o i pos) X.env v=(do
   let ov <- holding [v] (eval o X.env)
   let iv <- holding [v,ov] (eval i X.env)
   standAt pos
   holding [v,ov,iv] (setItem ov iv v)
   release [v,ov,iv] []):=by intro _;rfl):PG X (.Subscript o i pos) (Wb to ti t):=by
 intro ae s σ H v u Q I r h;rw[ha];refine wpAny_bind (wpAny_holding (bO (ho ae s σ H _ I h) λov s1 zz=>?_));obtain⟨x,H1,I1,r1,q1⟩:=zz;refine wpAny_bind (wpAny_holding (bO (hi ae s1 σ H1 _ I1 q1) λiv s2 zz=>?_));obtain⟨y,H2,I2,r2,q2⟩:=zz;refine wpAny_bind (wpAny_standAt (wpAny_bind (wpAny_holding (bO (hs ae s2 σ H2 x y v ov iv u _ I2 r1 r2 r q2) λ_ s3 zz=>?_))));obtain⟨H3,I3,q3⟩:=zz;exact wpAny_release ⟨σ,H3,I3,q3⟩
def Qw(te:TE)(g:TG):TS:=λD σ H=>te σ H λx H1=>g x σ H1 D.nx
theorem CJ{tg e:Expr}{te:TE}{g:TG}(he:PE X e te)(hg:PG X tg g)(hs:swapsWithSole [tg] e pos.line X.env=pure false:=by rfl)(hw:swappedStores [tg] e X.env=pure none:=by rfl)
  (h1:(assignEach [tg] X.env).map (·.2)=[assign tg X.env]:=by rfl):PS X (.Assign [tg] e pos) (Qw te g):=by
 intro ae s σ H D I h;refine wpAny_Assign_stores (bO (he ae s σ H _ I h) λv s1 ⟨x,H1,I1,r1,q1⟩=>?_) hs hw;rw[h1];exact bO (hg ae s1 σ H1 x v _ I1 r1 q1) λ_ s2 q=>q
theorem wZ{i:Nat}{x:Str}{e:Expr}{te:TE}{cJ:Pos}(hN:X.N.Nodup)(hi:X.N[i]?=some x)(hx:Loc X.env.scope x)(he:PE X e te)(hs:swapsWith e (some (.Name x cJ)) pos.line X.env=pure false:=by rfl)(hf:X.fn x=true\/X.env.scope.names.lookup x=some .local:=by first|exact .inl rfl|exact .inr rfl|assumption) :
  PS X (.Assign [.Name x cJ] e pos) (Qw te (yR i)):=by
 intro ae s σ H D I h;refine wpAny_Assign_Name (bO (he ae s σ H _ I h) λv s1 ⟨y,H1,I1,r1,q1⟩=>?_) hs;exact nH I1 hN hi hx r1 (λs2 I2=>⟨_,H1,I2,q1⟩) hf
def Wc(i:Nat)(te:TE)(ti:Vk):TS:=λD σ H=>∃x,σ[i]?=some (some x)/\te σ H λy H1=>ti x y H1 λz H2=>D.nx (σ.set i (some z)) H2
theorem Ml{i:Nat}{x:Str}{e:Expr}{te:TE}{op:Operator}{ti:Vk}{cJ:Pos}(hN:X.N.Nodup)(hi:X.N[i]?=some x)(hx:Loc X.env.scope x)(he:PE X e te)(ho:Zr X op ti)(hf:X.fn x=true\/X.env.scope.names.lookup x=some .local:=by first|exact .inl rfl|exact .inr rfl|assumption) :
  PS X (.AugAssign (.Name x cJ) op e pos) (Wc i te ti):=by
 intro ae s σ H D I h;obtain⟨v,e1,h⟩:=h;obtain⟨m,hn,hl⟩:=I.loc;have vis:rL X.env.scope x:=by rcases hx with k|k;exact .inl k;exact .inr (.inl k)
 obtain⟨u,r,l⟩:=hl i x v hi e1 vis;refine wpAny_AugAssign_Name ?_;have go:wpAny (model X.prog X.w) X.A (eval e X.env) (λw s₂=>wpAny (model X.prog X.w) X.A (inplaceOp op u w) (λr s₃=>wpAny (model X.prog X.w) X.A (storeName X.env x r) (λ_=>SP X ae D .next) X.xe s₃) X.xe s₂) X.xe s:=by
  refine bO (he ae s σ H _ I h) λw s1 zz=>?_;obtain⟨y,H1,I1,r1,q1⟩:=zz;refine bO (ho ae s1 σ H1 v y u w _ I1 r r1 q1) λz s2 zz=>?_;obtain⟨zv,H2,I2,r2,q2⟩:=zz;exact nH I2 hN hi hx r2 (λs3 I3=>⟨_,H2,I3,q2⟩) hf
 rcases l with⟨hk,hm⟩|⟨hk,c,hc,hcell⟩
 ·exact wpAny_loadName_local I.ok.kind hk hn hm go
 ·rcases hk with hk|hk
  ·exact wpAny_loadName_cell I.ok.kind hk hc hcell go
  ·rcases hx with k|k
   ·have:X.env.scope.names.lookup x=some .free:=hk
    rw[k]at this;cases this
   ·have:X.env.scope.names.lookup x=some .free:=hk
    rw[k]at this;cases this
def ipI(f:Int->Int->Int):Vk:=λx y H Q=>∃i j,x=.int i/\y=.int j/\Q (.int (f i j)) H
theorem Mm:Zr X .Add (ipI λi j=>i+j):=by
 intro ae s σ H x y v u Q I r1 r2 h;obtain⟨i,j,e1,e2,q⟩:=h;subst e1;subst e2;obtain⟨t,rfl⟩:=r1;obtain⟨t',rfl⟩:=r2;exact iadd_int ⟨.int _,H,I.tok _,⟨_,rfl⟩,q⟩
end
section
variable{X:Cx}
def Mn(c:TT)(tb:TS):TS:=λD σ H=>∃W:Nat->St->Hp->Prop,(∃m,W m σ H)/\∀m σ H,W m σ H ->
 c σ H λb H1=>if b=true then ∃N:St->Hp->Prop,(∀σ' H',N σ' H'->∃m',m'<m/\W m' σ' H')/\tb {D with nx:=N,ct:=N,bk:=D.nx} σ H1 else D.nx σ H1
theorem CK{c:Expr}{body:Ee}{tc:TT}{tb:TS}(hp:PassesOwn (model X.prog X.w) X.A X.env X.xe)(hc:PT X c tc)(hb:j8 X body tb):PS X (.While c body [] pos) (Mn tc tb):=by
 intro ae s σ H D I h;obtain⟨W,⟨m0,w0⟩,turn⟩:=h;refine wpAny_While (codeAny_whileLoop (λn s'=>∃σ' H',Inv X ae σ' H' s'/\W n σ' H') ?_ m0 ⟨σ,H,I,w0⟩)
 rintro n s1 ⟨σ1,H1,I1,w1⟩
 refine wpAny_passesOwn hp (bO (hc ae s1 σ1 H1 _ I1 (turn n σ1 H1 w1)) λb s2 zz=>?_);obtain⟨H2,I2,q2⟩:=zz;cases b with
 |true=>
  obtain⟨N,hN,q2⟩:=q2;rw[if_pos rfl];refine wpAny_passesOwn hp (bO (hb ae s2 σ1 H2 _ I2 q2) λf s3 q3=>?_);cases f with
  |next=>
   obtain⟨σ3,H3,I3,n3⟩:=q3;obtain⟨m',hm,w3⟩:=hN σ3 H3 n3;exact⟨m',hm,σ3,H3,I3,w3⟩
  |cont=>
   obtain⟨σ3,H3,I3,n3⟩:=q3;obtain⟨m',hm,w3⟩:=hN σ3 H3 n3;exact⟨m',hm,σ3,H3,I3,w3⟩
  |brk=>exact q3
  |ret v=>exact q3
 |false=>
  rw[if_neg dC];exact wpAny_execs_nil ⟨σ1,H2,I2,q2⟩
end
structure It where
 go:Nat->Hp->Prop
 yld:Nat->Hp->V->Hp->Prop
 stop:Nat->Hp->Prop
def nI(X:Cx)(ae:dm)(H:Hp)(b:Addr):Prop:=
 H b=none/\b≠X.env.locals/\b∉X.fs/\(b∈X.ex\/X.s₀.heap.objs.size<=b)/\(∀x c,X.env.cells.lookup x=some c->c≠b)/\∀p∈X.pn++ae,p.1≠b
theorem Inv.rQ{X:Cx}{ae:dm}{σ:St}{H H':Hp}{s:Shared}{b:Addr}(I:Inv X ae σ H s)(hb:s.heap.objs.size<=b)(hn:H' b=none):nI X ae H' b:=by
 refine⟨hn,yI (iM I.lt hb),I.V0 hb,.inr (gP I.sz hb),λx c e z=>?_,λp hp z=>?_⟩
 ·obtain⟨v,q⟩:=I.cell x c e
  exact absurd (iM q.lt (by rw[z];exact hb)) (rF _)
 ·exact absurd (iM (Heap.lt_size (I.pin p hp).1) (by rw[z];exact hb)) (rF _)
structure Turn(P:Program)(w:World)(K:bu)(tg:Expr)(J:It)(fp:BM)(it:Addr)(tn:Nat->Heap->Prop):Prop where
 mem:it∈fp
 obj:∀i h,tn i h->∀b∈fp,∃o,h.get? b=some o/\∀v,o.data≠.cell v
 keep:∀i h h',tn i h->(∀b∈fp,∀o,h.get? b=some o->h'.get? b=some o)->tn i h'
 item:∀(X:Cx),X.prog=P->X.w=w->X.K=K->X.calm=true->∀(i:Nat)(ae:dm)(s:Shared)(σ:St)(H:Hp)(E:Value->Shared->Prop),Inv X ae σ H s->(∀b∈fp,nI X ae H b)->tn i s.heap->J.go i H ->
  wpAny (model P w) X.A (pyNext (.ref it)) (λr s1=>∃u,r=some u /\
   wpAny (model P w) X.A (letOwnedTupleGo tg (.ref it) u) (λ_ s2=>∃x H',Inv X ae σ H' s2/\RelV x u/\J.yld i H x H'/\tn (i+1) s2.heap/\∀b∈fp,H' b=none) E s1) E s
 done:∀(X:Cx),X.prog=P->X.w=w->X.K=K->X.calm=true->∀(i:Nat)(ae:dm)(s:Shared)(σ:St)(H:Hp)(E:Value->Shared->Prop),Inv X ae σ H s->(∀b∈fp,nI X ae H b)->tn i s.heap->J.stop i H ->
  wpAny (model P w) X.A (pyNext (.ref it)) (λr s1=>r=none/\Inv X ae σ H s1) E s
 self:∀(A:Around)(i:Nat)(s:Shared)(Q:Value->Shared->Prop)(E:Value->Shared->Prop),tn i s.heap->Q (.ref it) s->wpAny (model P w) A (pyIter (.ref it)) Q E s
abbrev TI:=St->Hp->(It->Hp->Prop)->Prop
def Zs(X:Cx)(ae:dm)(σ:St)(tg:Expr)(R:It->Hp->Prop)(Wd:Value)(s2:Shared):Prop:=
 ∃(it:Addr)(fp:BM)(tn:Nat->Heap->Prop)(J:It)(H':Hp),Wd=.ref it/\Inv X ae σ H' s2/\Turn X.prog X.w X.K tg J fp it tn/\tn 0 s2.heap/\(∀b∈fp,nI X ae H' b)/\R J H'
def PI(X:Cx)(tg iter:Expr)(wi:TI):Prop:=
 ∀(ae:dm)(s:Shared)(σ:St)(H:Hp)(R:It->Hp->Prop),Inv X ae σ H s->wi σ H R ->
  wpAny (model X.prog X.w) X.A (eval iter X.env) (λv s1=>wpAny (model X.prog X.w) X.A (pyIter v) (Zs X ae σ tg R) X.xe s1) X.xe s
theorem ux{M:Model}{A:Around}{E:Value->Shared->Prop}{s:Shared}{tg:Expr}{it:Addr}{u:Value}{o:Obj}{n:String}{vs:Array Value}{Q:Unit->Shared->Prop}(ho:s.heap.get? it=some o)(hc:o.cls=.type n)(hd:o.data=.fields vs)
  (hn:["enumerate","zip","dict_itemiterator","dict_reverseitemiterator","odict_iterator","itertools.zip_longest","itertools.pairwise"].contains n=false) (hQ:Q () s):wpAny M A (letOwnedTupleGo tg (.ref it) u) Q E s:=by
 unfold letOwnedTupleGo;cases tg<;>first
  |exact wpAny_pure hQ
  | (cases u<;>first
    |exact wpAny_pure hQ
    | (refine wpAny_bind (wpAny_load ho ?_)
       rw[hc,hd];show wpAny M A (if(["enumerate","zip","dict_itemiterator","dict_reverseitemiterator","odict_iterator","itertools.zip_longest","itertools.pairwise"].contains n&&vs[0]? == some (rawInt _))=true then _ else _) Q E s
       rw[if_neg (by intro h;rw[hn,Ci]at h;cases h)]
       exact wpAny_pure hQ))
def Vl(K:bu)(a:Addr):It:=
 ⟨λi H=>∃xs x,df K H a xs/\xs[i]?=some x,λi H x H'=>H'=H/\∀xs,df K H a xs->xs[i]?=some x,λi H=>∃xs,df K H a xs/\xs.length<=i⟩
def We(K:bu)(a:Addr):It:=
 ⟨λi H=>∃xs x,lV K H a xs/\xs[i]?=some x,λi H x H'=>H'=H/\∀xs,lV K H a xs->xs[i]?=some x,λi H=>∃xs,lV K H a xs/\xs.length<=i⟩
def Qx(lo:Int)(n:Nat):It:=⟨λi _=>i<n,λi H x H'=>H'=H/\x=.int (lo+i),λi _=>n<=i⟩
theorem AH{P:Program}{w:World}{K:bu}{tg:Expr}(a it:Addr):Turn P w K tg (Vl K a) [it] it (λi h=>h.IsListIter it a i) where
 mem:=by simp
 obj:=λi h st b hb=>by
  have e:b=it:=by simpa using hb
  subst e;obtain⟨o,e,c,d⟩:=st;exact⟨o,e,λv z=>by rw[d]at z;cases z⟩
 keep:=λi h h' st k=>st.at λo e=>k it (by simp) o e
 item:=by
  intro X hP hw hK hc i ae s σ H E I hf st hg;subst hP hw hK;obtain⟨xs,x,hq,hx⟩:=hg;obtain⟨its,rv,p,hz⟩:=I.list hq;obtain⟨u,hu,ru⟩:=rv.get hx;obtain⟨f0,f1,f2,f3,f4,f5⟩:=hf it (by simp)
  refine wpAny_pyNext_list_item st p.isList (x:=u) (by simpa using hu) λh' rR sb=>?_
  have I1:Inv X ae σ H {s with heap:=h'}:=I.turned (t':=s.toks) (λb o hb e=>(sb.2 b hb).trans e) f0 f1 f3 f4 f5
  obtain⟨o,e,c,d⟩:=id rR;exact⟨u,rfl,ux (s:={s with heap:=h'}) e c d (by decide) ⟨x,H,I1,ru,⟨rfl,λys hy=>by rw[I.CB hy hq];exact hx⟩,rR,λb hb=>(hf b hb).1⟩⟩
 done:=by
  intro X hP hw hK hc i ae s σ H E I hf st hg;subst hP hw hK;obtain⟨xs,hq,hx⟩:=hg;obtain⟨its,rv,p,hz⟩:=I.list hq;obtain⟨f0,f1,f2,f3,f4,f5⟩:=hf it (by simp)
  have hl:=rv.length;exact wpAny_pyNext_list_end (I.ok.hd hc) st p.isList (by simp;omega) λh' eb=>⟨rfl,I.turned (t':=s.toks) (λb o hb e=>eb b o hb e) f0 f1 f3 f4 f5⟩
 self:=λ_ _ _ _ _ st h=>wpAny_pyIter_listiter st h
theorem w_{P:Program}{w:World}{K:bu}{tg:Expr}(a it:Addr):Turn P w K tg (We K a) [it] it (λi h=>h.IsTupleIter it a i) where
 mem:=by simp
 obj:=λi h st b hb=>by
  have e:b=it:=by simpa using hb
  subst e;obtain⟨o,e,c,d⟩:=st;exact⟨o,e,λv z=>by rw[d]at z;cases z⟩
 keep:=λi h h' st k=>st.at λo e=>k it (by simp) o e
 item:=by
  intro X hP hw hK hc i ae s σ H E I hf st hg;subst hP hw hK;obtain⟨xs,x,hq,hx⟩:=hg;obtain⟨its,rv,p,hz⟩:=I.tuple hq;obtain⟨u,hu,ru⟩:=rv.get hx;obtain⟨f0,f1,f2,f3,f4,f5⟩:=hf it (by simp)
  refine wpAny_pyNext_tuple_item st (show s.heap.IsTuple a its.toArray from p) (x:=u) (by simpa using hu) λh' rR sb=>?_
  have I1:Inv X ae σ H {s with heap:=h'}:=I.turned (t':=s.toks) (λb o hb e=>(sb.2 b hb).trans e) f0 f1 f3 f4 f5
  obtain⟨o,e,c,d⟩:=id rR;exact⟨u,rfl,ux (s:={s with heap:=h'}) e c d (by decide) ⟨x,H,I1,ru,⟨rfl,λys hy=>by rw[I.qD hy hq];exact hx⟩,rR,λb hb=>(hf b hb).1⟩⟩
 done:=by
  intro X hP hw hK hc i ae s σ H E I hf st hg;subst hP hw hK;obtain⟨xs,hq,hx⟩:=hg;obtain⟨its,rv,p,hz⟩:=I.tuple hq;obtain⟨f0,f1,f2,f3,f4,f5⟩:=hf it (by simp)
  have hl:=rv.length;exact wpAny_pyNext_tuple_end (I.ok.hd hc) st (show s.heap.IsTuple a its.toArray from p) (by simp;omega) λh' eb=>⟨rfl,I.turned (t':=s.toks) (λb o hb e=>eb b o hb e) f0 f1 f3 f4 f5⟩
 self:=λ_ _ _ _ _ st h=>wpAny_pyIter_tupleiter st h
theorem xf{P:Program}{w:World}{K:bu}{tg:Expr}(it:Addr)(lo:Int)(n:Nat):Turn P w K tg (Qx lo n) [it] it (λi h=>IsRangeIter h it (lo+(i:Nat)*1) ((n:Int)-(i:Nat)) 1) where
 mem:=by simp
 obj:=λi h st b hb=>by
  have e:b=it:=by simpa using hb
  subst e;exact⟨_,st,λv z=>by
   have z':Data.fields _=Data.cell v:=z;cases z'⟩
 keep:=λi h h' st k=>k it (by simp) _ st
 item:=by
  intro X hP hw hK hc i ae s σ H E I hf st hg;subst hP hw hK;obtain⟨f0,f1,f2,f3,f4,f5⟩:=hf it (by simp)
  have W:=Walks.range (prog:=X.prog) (w:=X.w) (I.ok.hd hc) it lo 1 n;refine W.item i s _ _ hg st λv h' tk hv rR kk=>?_;obtain⟨t,rfl⟩:=hv;have I1:Inv X ae σ H {s with heap:=h',toks:=tk}:=I.turned (λb o hb e=>kk b o (by simpa using hb) e) f0 f1 f3 f4 f5
  refine⟨_,rfl,ux (s:={s with heap:=h',toks:=tk}) (n := "range_iterator") rR rfl rfl (by decide) ⟨.int (lo+i),H,I1,⟨t,?_⟩,⟨rfl,rfl⟩,rR,λb hb=>(hf b hb).1⟩⟩
  rw[Int.mul_one]
 done:=by
  intro X hP hw hK hc i ae s σ H E I hf st hg;subst hP hw hK;obtain⟨f0,f1,f2,f3,f4,f5⟩:=hf it (by simp)
  exact wpAny_pyNext_range_end (I.ok.hd hc) st (by have:n<=i:=hg;omega) λh' eb=>⟨rfl,I.turned (t':=s.toks) (λb o hb e=>eb b o hb e) f0 f1 f3 f4 f5⟩
 self:=λ_ _ _ _ _ st h=>wpAny_pyIter_rangeiter st h
section
variable{X:Cx}{tg:Expr}
def Qy(K:bu)(tl:TE):TI:=λσ H R=>tl σ H λx H1=>∃a,x=.ref a/\(∃xs,df K H1 a xs)/\R (Vl K a) H1
def Wf(K:bu)(tl:TE):TI:=λσ H R=>tl σ H λx H1=>∃a,x=.ref a/\(∃xs,lV K H1 a xs)/\R (We K a) H1
theorem G3{l:Expr}{tl:TE}(hl:PE X l tl):PI X tg l (Qy X.K tl):=by
 intro ae s σ H R I h;refine bO (hl ae s σ H _ I h) λv s1 zz=>?_;obtain⟨x,H1,I1,r1,q1⟩:=zz;obtain⟨a,e,⟨xs,hq⟩,q⟩:=q1;subst e;cases r1;obtain⟨its,rv,p,hz⟩:=I1.list hq;refine wpAny_pyIter_list p.isList ?_;refine⟨s1.heap.objs.size,[s1.heap.objs.size],_,_,H1,rfl,I1.kept (t':=s1.toks) λb o e=>Heap.get?_push_of_some _ e,AH a _,⟨_,Heap.get?_push_size _ rfl,rfl,rfl⟩,λb hb=>?_,q⟩;have e:b=s1.heap.objs.size:=by simpa using hb
 subst e;exact I1.rQ (dj _) (I1.ba.fresh (dj _))
theorem Mp{l:Expr}{tl:TE}(hl:PE X l tl):PI X tg l (Wf X.K tl):=by
 intro ae s σ H R I h;refine bO (hl ae s σ H _ I h) λv s1 zz=>?_;obtain⟨x,H1,I1,r1,q1⟩:=zz;obtain⟨a,e,⟨xs,hq⟩,q⟩:=q1;subst e;cases r1;obtain⟨its,rv,p,hz⟩:=I1.tuple hq;refine wpAny_pyIter_tuple (show s1.heap.IsTuple a its.toArray from p) ?_;refine⟨s1.heap.objs.size,[s1.heap.objs.size],_,_,H1,rfl,I1.kept (t':=s1.toks) λb o e=>Heap.get?_push_of_some _ e,w_ a _,⟨_,Heap.get?_push_size _ rfl,rfl,rfl⟩,λb hb=>?_,q⟩;have e:b=s1.heap.objs.size:=by simpa using hb
 subst e;exact I1.rQ (dj _) (I1.ba.fresh (dj _))
theorem uy{ae:dm}{σ:St}{H:Hp}{s:Shared}{R:It->Hp->Prop}{E:Value->Shared->Prop}{lo hi:Int}{t u v:Tok}{tk:Nat}(I:Inv X ae σ H s)(h1:-(2^62)<=lo)(h2:lo<2^62)(h3:-(2^62)<=hi)(h4:hi<2^62)
  (q:R (Qx lo (hi-lo).toNat) H):wpAny (model X.prog X.w) X.A (pyIter (.ref s.heap.objs.size)) (Zs X ae σ tg R) E {s with heap:=s.heap.push {cls:=.type "range",data:=.fields #[.int lo t,.int hi u,.int 1 v]},toks:=tk}:=by
 refine wpAny_pyIter_range (IsRange.new ..) (small_one h1 h2 h3 h4) ?_;have I1:Inv X ae σ H {s with heap:=s.heap.push {cls:=.type "range",data:=.fields #[.int lo t,.int hi u,.int 1 v]},toks:=tk}:=I.kept λb o e=>Heap.get?_push_of_some _ e
 refine⟨(s.heap.push {cls:=.type "range",data:=.fields #[.int lo t,.int hi u,.int 1 v]}).objs.size,[(s.heap.push {cls:=.type "range",data:=.fields #[.int lo t,.int hi u,.int 1 v]}).objs.size],_,_,H,rfl,
  I1.kept (t':=tk) λb o e=>Heap.get?_push_of_some _ e,xf _ lo (hi-lo).toNat,?_,λb hb=>?_,q⟩
 ·have e1:lo+((0:Nat):Int)*1=lo:=by simp
  have e2:(((hi-lo).toNat:Nat):Int)-((0:Nat):Int)=Builtin.Range.rangeSize lo hi 1:=by rw[rangeSize_one];split<;>omega
  show IsRangeIter _ _ (lo+((0:Nat):Int)*1) ((((hi-lo).toNat:Nat):Int)-((0:Nat):Int)) 1;rw[e1,e2];exact Heap.get?_push_size _ rfl
 ·have e:b=(s.heap.push {cls:=.type "range",data:=.fields #[.int lo t,.int hi u,.int 1 v]}).objs.size:=by simpa using hb
  subst e;exact I1.rQ (dj _) (I1.ba.fresh (dj _))
def Qz(ta:TA):TI:=λσ H R=>ta σ H λvs H1=>∃j:Int,vs=[.int j]/\-(2^62)<=j/\j<2^62/\R (Qx 0 j.toNat) H1
def QA(ta:TA):TI:=λσ H R=>ta σ H λvs H1=>∃i j:Int,vs=[.int i,.int j]/\(-(2^62)<=i/\i<2^62/\-(2^62)<=j/\j<2^62)/\R (Qx i (j-i).toNat) H1
theorem AI{a:Expr}{ta:TA}{p pos:Pos}(hg:Gl X "range")(hm:X.mg "range" = none)(ha:PA X [a] ta)(hs:starEach [a] X.env=[(false,eval a X.env)]:=by rfl):PI X tg (.Call (.Name "range" p) [a] [] pos) (Qz ta):=by
 intro ae s σ H R I h;refine Call_ (fR I hg hm boot_range (wV (bO (ha pos ae s σ H _ I h) λus s1 ⟨vs,H1,I1,r1,q1⟩=>?_) hs rfl));obtain⟨j,e,q1,q2,q⟩:=q1;subst e;cases r1 with
 |cons r rr=>
  cases rr;obtain⟨t,rfl⟩:=r;exact call_range_1 (uy I1 (by omega) (by omega) q1 q2 (by simpa using q))
theorem AJ{a b:Expr}{ta:TA}{p pos:Pos}(hg:Gl X "range")(hm:X.mg "range" = none)(ha:PA X [a,b] ta)(hs:starEach [a,b] X.env=[(false,eval a X.env),(false,eval b X.env)]:=by rfl)(xg:starEach [b] X.env=[(false,eval b X.env)]:=by rfl) :
  PI X tg (.Call (.Name "range" p) [a,b] [] pos) (QA ta):=by
 intro ae s σ H R I h;refine Call_ (fR I hg hm boot_range (wV (bO (ha pos ae s σ H _ I h) λus s1 ⟨vs,H1,I1,r1,q1⟩=>?_) (by rw[hs,xg]) (by rw[xg];rfl)))
 obtain⟨i,j,e,⟨q1,q2,q3,q4⟩,q⟩:=q1;subst e;cases r1 with
 |cons r rr=>
  cases rr with
  |cons r' rr=>
   cases rr;obtain⟨t,rfl⟩:=r;obtain⟨t',rfl⟩:=r';exact call_range_2 (uy I1 q1 q2 q3 q4 q)
def Wg(wi:TI)(g:TG)(tb:TS):TS:=λD σ H=>wi σ H λJ H1=>∃W:Nat->Nat->St->Hp->Prop,(∃m,W 0 m σ H1)/\∀i m σ H,W i m σ H ->
 (J.stop i H/\D.nx σ H)\/(J.go i H/\∃N:St->Hp->Prop,(∀σ' H',N σ' H'->∃m',m'<m/\W (i+1) m' σ' H')/\∀x H',J.yld i H x H'->g x σ H' λσ2 H2=>tb {D with nx:=N,ct:=N,bk:=D.nx} σ2 H2)
def nJ(fp:BM)(h:Heap):dm:=fp.filterMap λb=>(h.get? b).map λo=>(b,o)
theorem hU{fp:BM}{h:Heap}{b:Addr}{o:Obj}(hb:b∈fp)(e:h.get? b=some o):(b,o)∈nJ fp h:=B5.mpr ⟨b,hb,by rw[e];rfl⟩
theorem AK{fp:BM}{h:Heap}{p:Addr×Obj}(hp:p∈nJ fp h):p.1∈fp/\h.get? p.1=some p.2:=by
 obtain⟨b,hb,e⟩:=B5.mp hp;cases q:h.get? b with
 |none=>rw[q]at e;cases e
 |some o=>
  rw[q]at e;have e':(b,o)=p:=ly.inj e;subst e';exact⟨hb,q⟩
theorem Inv.pinned{ae:dm}{σ:St}{H:Hp}{s:Shared}{fp:BM}(I:Inv X ae σ H s)(hf:∀b∈fp,nI X ae H b)(ho:∀b∈fp,∃o,s.heap.get? b=some o/\∀v,o.data≠.cell v):Inv X (ae++nJ fp s.heap) σ H s:=
 I.yO λp hp=>(fk.mp hp).elim (λz=>I.pin p (p9 _ z)) λz=>by
  obtain⟨hb,e⟩:=AK z;obtain⟨f0,f1,f2,_⟩:=hf p.1 hb;obtain⟨o,e',d⟩:=ho p.1 hb;rw[e]at e';cases e';exact⟨e,f0,f1,f2,d⟩
theorem Inv.j_{ae pl:dm}{σ:St}{H:Hp}{s:Shared}(I:Inv X (ae++pl) σ H s):Inv X ae σ H s:=I.yO λp hp=>I.pin p (p9 _ (JX _ hp))
theorem Mq{iter:Expr}{body:Ee}{wi:TI}{g:TG}{tb:TS}{pos:Pos}(hp:PassesOwn (model X.prog X.w) X.A X.env X.xe)(hc:X.calm=true)(hi:PI X tg iter wi)(hg:PG X tg g)(hb:j8 X body tb)
  (hs:∀x,foldedSetIterable iter X.env x=pure x:=by intro _;rfl):PS X (.For tg iter body [] pos) (Wg wi g tb):=by
 intro ae s σ H D I h;refine wpAny_For (bO (hi ae s σ H _ I h) λv s1 h1=>bO h1 λWd s2 h2=>?_) hs;obtain⟨it,fp,tn,J,H2,e,I2,T,QC,f2,W,⟨m0,w0⟩,turn⟩:=h2;subst e;have xh:∀{H':Hp},(∀b∈fp,H' b=none)->∀b∈fp,nI X ae H' b:=λhn b hb=>⟨hn b hb,(f2 b hb).2⟩;refine codeAny_forLoop_any (λn s'=>∃i σ' H',Inv X ae σ' H' s'/\tn i s'.heap/\(∀b∈fp,H' b=none)/\W i n σ' H') ?_ m0 ⟨0,σ,H2,I2,QC,λb hb=>(f2 b hb).1,w0⟩
 rintro n s3 ⟨i,σ3,H3,I3,st3,fr3,w3⟩
 rcases turn i n σ3 H3 w3 with⟨stop,qn⟩|⟨go,N,hN,step⟩
 ·refine wpAny_passesOwn hp (bO (T.done X rfl rfl rfl hc i ae s3 σ3 H3 X.xe I3 (xh fr3) st3 stop) λr s4 zz=>?_)
  obtain⟨hr,I4⟩:=zz;subst hr;exact wpAny_execs_nil ⟨σ3,H3,I4,qn⟩
 ·refine wpAny_passesOwn hp (bO (T.item X rfl rfl rfl hc i ae s3 σ3 H3 X.xe I3 (xh fr3) st3 go) λr s4 zz=>?_)
  obtain⟨u,hr,h4⟩:=zz;subst hr;refine wpAny_passesOwn hp (bO h4 λ_ s5 zz=>?_);obtain⟨x,H5,I5,r5,y5,G4,Vm⟩:=zz;have I5':=I5.pinned (xh Vm) (T.obj _ _ G4);refine wpAny_passesOwn hp (bO (hg _ s5 σ3 H5 x u _ I5' r5 (step x H5 y5)) λ_ s6 zz=>?_);obtain⟨σ6,H6,I6,q6⟩:=zz;refine wpAny_passesOwn hp (bO (hb _ s6 σ6 H6 _ I6 q6) λf s7 q7=>?_);have again:∀{σ7:St}{H7:Hp},Inv X (ae++nJ fp s5.heap) σ7 H7 s7->N σ7 H7->∃m,m<n/\∃i σ' H',Inv X ae σ' H' s7/\tn i s7.heap/\(∀b∈fp,H' b=none)/\W i m σ' H':=λ{σ7 H7} I7 n7=>by
   obtain⟨m',hm,w7⟩:=hN σ7 H7 n7;refine⟨m',hm,i+1,σ7,H7,I7.j_,T.keep _ _ _ G4 λb hb o e=>(I7.pin (b,o) (p9 _ (p9 _ (hU hb e)))).1,λb hb=>?_,w7⟩;obtain⟨o,e,d⟩:=T.obj _ _ G4 b hb;exact(I7.pin (b,o) (p9 _ (p9 _ (hU hb e)))).2.1
  cases f with
  |next=>obtain⟨σ7,H7,I7,n7⟩:=q7;exact again I7 n7
  |cont=>obtain⟨σ7,H7,I7,n7⟩:=q7;exact again I7 n7
  |brk=>obtain⟨σ7,H7,I7,q7⟩:=q7;exact⟨σ7,H7,I7.j_,q7⟩
  |ret v=>obtain⟨x7,σ7,H7,I7,r7,q7⟩:=q7;exact⟨x7,σ7,H7,I7.j_,r7,q7⟩
end
abbrev R2:=V->V->Hp->VK->Prop
def gi(X:Cx)(f:Value->Value->Sem Value)(r:R2):Prop:=
 ∀(ae:dm)(s:Shared)(σ:St)(H:Hp)(x y:V)(v u:Value)(Q:VK),Inv X ae σ H s->RelV x v->RelV y u->r x y H Q ->
  wpAny (model X.prog X.w) X.A (f v u) (EP X ae σ Q) X.xe s
def Wh(X:Cx)(f:Value->Sem Value)(r:V->Hp->VK->Prop):Prop:=
 ∀(ae:dm)(s:Shared)(σ:St)(H:Hp)(x:V)(v:Value)(Q:VK),Inv X ae σ H s->RelV x v->r x H Q ->
  wpAny (model X.prog X.w) X.A (f v) (EP X ae σ Q) X.xe s
def fm(X:Cx)(f:Value)(r:List V->Hp->VK->Prop):Prop:=
 ∀(ae:dm)(s:Shared)(σ:St)(H:Hp)(xs:List V)(us:B2)(Q:VK),Inv X ae σ H s->Vals xs us->r xs H Q ->
  wpAny (model X.prog X.w) X.A (call f us) (EP X ae σ Q) X.xe s
def Wi(X:Cx)(r:V->Hp->(Bool->Hp->Prop)->Prop):Prop:=
 ∀(ae:dm)(s:Shared)(σ:St)(H:Hp)(x:V)(v:Value)(Q:Bool->Hp->Prop),Inv X ae σ H s->RelV x v->r x H Q ->
  wpAny (model X.prog X.w) X.A (truthy v) (TP X ae σ Q) X.xe s
def CL(r:R2)(ta tb:TE):TE:=λσ H Q=>ta σ H λx H1=>tb σ H1 λy H2=>r x y H2 Q
def Zt(r:V->Hp->VK->Prop)(ta:TE):TE:=λσ H Q=>ta σ H λx H1=>r x H1 Q
def rI(C:Int->Int->Prop)(g:Int->Int->V):R2:=λx y H Q=>∃i j,x=.int i/\y=.int j/\C i j/\Q (g i j) H
def BG(g:Int->Int->V):R2:=λx y H Q=>∃i j,x=.int i/\y=.int j/\Q (g i j) H
def rU(g:Int->V):V->Hp->VK->Prop:=λx H Q=>∃i,x=.int i/\Q (g i) H
section
variable{X:Cx}{a c:Expr}{ta tb tc:TE}
theorem Mr(ha:PE X a ta)(hb:PE X b tb){ae:dm}{s:Shared}{σ:St}{H:Hp}{R:V->V->Hp->Prop}(I:Inv X ae σ H s)
  (h:ta σ H λx H1=>tb σ H1 λy H2=>R x y H2) {Q:Value->Shared->Prop} {f:Value->Value->Sem Value}
  (hf:∀v u s2 x y H2,Inv X ae σ H2 s2->RelV x v->RelV y u->R x y H2->wpAny (model X.prog X.w) X.A (f v u) Q X.xe s2) :
  wpAny (model X.prog X.w) X.A (eval a X.env) (λv s₁=>wpAny (model X.prog X.w) X.A (eval b X.env) (λu s₂=>wpAny (model X.prog X.w) X.A (f v u) Q X.xe s₂) X.xe s₁) X.xe s:=by
 refine bO (ha ae s σ H _ I h) λv s1 zz=>?_;obtain⟨x,H1,I1,r1,q1⟩:=zz;refine bO (hb ae s1 σ H1 _ I1 q1) λu s2 zz=>?_;obtain⟨y,H2,I2,r2,q2⟩:=zz;exact hf v u s2 x y H2 I2 r1 r2 q2
theorem lW{op:Operator}{r:R2}(ho:gi X (binaryOp op) r)(ha:PE X a ta)(hb:PE X b tb):PE X (.BinOp a op b pos) (CL r ta tb):=by
 intro ae s σ H Q I h;exact wpAny_BinOp (Mr ha hb I h λv u s2 x y H2 I2 rx ry q=>ho ae s2 σ H2 x y v u Q I2 rx ry q)
theorem QD{op:UnaryOp}{r:V->Hp->VK->Prop}(ho:Wh X (unaryOp op) r)(ha:PE X a ta):PE X (.UnaryOp op a pos) (Zt r ta):=by
 intro ae s σ H Q I h;exact UnaryOp_ (bO (ha ae s σ H _ I h) λv s1 ⟨x,H1,I1,r1,q1⟩=>ho ae s1 σ H1 x v Q I1 r1 q1)
theorem Vn{f:Value->Value->Sem Value}{C:Int->Int->Prop}{g:Int->Int->Int}
  (rule:∀(i j:Int)(t u:Tok)(s:Shared)(Q:Value->Shared->Prop)(E:Value->Shared->Prop),C i j->Q (.int (g i j) s.toks) {s with toks:=s.toks+1}->wpAny (model X.prog X.w) X.A (f (.int i t) (.int j u)) Q E s) :
  gi X f (rI C λi j=>.int (g i j)):=by
 intro ae s σ H x y v u Q I rx ry h;obtain⟨i,j,rfl,rfl,hc,q⟩:=h;obtain⟨t,rfl⟩:=rx;obtain⟨t',rfl⟩:=ry;exact rule i j t t' s _ _ hc ⟨.int (g i j),H,I.tok _,⟨_,rfl⟩,q⟩
theorem QE{f:Value->Value->Sem Value}{g:Int->Int->Int}
  (rule:∀(i j:Int)(t u:Tok)(s:Shared)(Q:Value->Shared->Prop)(E:Value->Shared->Prop),Q (.int (g i j) s.toks) {s with toks:=s.toks+1}->wpAny (model X.prog X.w) X.A (f (.int i t) (.int j u)) Q E s) :
  gi X f (BG λi j=>.int (g i j)):=by
 intro ae s σ H x y v u Q I rx ry h;obtain⟨i,j,rfl,rfl,q⟩:=h;obtain⟨t,rfl⟩:=rx;obtain⟨t',rfl⟩:=ry;exact rule i j t t' s _ _ ⟨.int (g i j),H,I.tok _,⟨_,rfl⟩,q⟩
theorem G5{f:Value->Value->Sem Value}{g:Int->Int->Bool}
  (rule:∀(i j:Int)(t u:Tok)(s:Shared)(Q:Value->Shared->Prop)(E:Value->Shared->Prop),Q (.bool (g i j)) s->wpAny (model X.prog X.w) X.A (f (.int i t) (.int j u)) Q E s) :
  gi X f (BG λi j=>.bl (g i j)):=by
 intro ae s σ H x y v u Q I rx ry h;obtain⟨i,j,rfl,rfl,q⟩:=h;obtain⟨t,rfl⟩:=rx;obtain⟨t',rfl⟩:=ry;exact rule i j t t' s _ _ ⟨.bl (g i j),H,I,rfl,q⟩
def QF(i j:Int):Prop:=0<j/\j<1073741824
def QG(i j:Int):Prop:=0<=j/\j<=1000000/\i.natAbs<2^64
def Ms(i j:Int):Prop:=(-(2^64)<i/\i<2^64)\/(-(2^64)<j/\j<2^64)
theorem Ms.ok{i j:Int}(h:Ms i j):IntMulOk i j:=by
 rcases h with⟨h1,h2⟩|⟨h1,h2⟩
 ·exact .of_left (intBits_le_64 h1 h2)
 ·exact .of_right (intBits_le_64 h1 h2)
theorem Mt:gi X (binaryOp .Add) (BG λi j=>.int (i+j)):=QE λ_ _ _ _ _ _ _ q=>add_int q
theorem Mu:gi X (binaryOp .Sub) (BG λi j=>.int (i-j)):=QE λ_ _ _ _ _ _ _ q=>sub_int q
theorem G6:gi X (binaryOp .FloorDiv) (rI QF λi j=>.int (i/j)):=Vn λi j _ _ _ _ _ hc q=>by
 have h1:(0:Int)<j:=hc.1;have h2:j<1073741824:=hc.2;exact floordiv_int (by omega) (by rw[Int.fdiv_eq_ediv_of_nonneg i (by omega)];exact q) (.inl (PyProof.noPylong_small (by omega)))
theorem Mv:gi X (binaryOp .Mod) (rI (λ_ j=>0<j) λi j=>.int (i % j)):=Vn λi j _ _ _ _ _ hc q=>by
 have h1:(0:Int)<j:=hc;exact mod_int' (by omega) (by rw[Int.fmod_eq_emod_of_nonneg i (by omega)];exact q)
theorem Mw:gi X (binaryOp .Pow) (rI QG λi j=>.int (i^j.toNat)):=Vn λ_ _ _ _ _ _ _ hc q=>pow_int_small hc.1 hc.2.1 hc.2.2 q
theorem unI{f:Value->Sem Value}{g:Int->Int}
  (rule:∀(i:Int)(t:Tok)(s:Shared)(Q:Value->Shared->Prop)(E:Value->Shared->Prop),Q (.int (g i) s.toks) {s with toks:=s.toks+1}->wpAny (model X.prog X.w) X.A (f (.int i t)) Q E s) :
  Wh X f (rU λi=>.int (g i)):=by
 intro ae s σ H x v Q I rx h;obtain⟨i,rfl,q⟩:=h;obtain⟨t,rfl⟩:=rx;exact rule i t s _ _ ⟨.int (g i),H,I.tok _,⟨_,rfl⟩,q⟩
theorem Mx:Wh X (unaryOp .USub) (rU λi=>.int (-i)):=unI λ_ _ _ _ _ q=>neg_int q
end
section
variable{X:Cx}{a c:Expr}{ta tb tc:TE}
theorem iU{ae:dm}{σ:St}{H:Hp}{s:Shared}{Q:VK}{k k':Bool}(I:Inv X ae σ H s)(q:Q (.bl k) H)(e:k=k'):EP X ae σ Q (.bool k') s:=by
 subst e;exact⟨.bl k,H,I,rfl,q⟩
theorem QH:gi X (compareOp .Lt) (BG λi j=>.bl (decide (i<j))):=G5 λ_ _ _ _ _ _ _ q=>lt_int q
theorem QI:gi X (compareOp .LtE) (BG λi j=>.bl (decide (i<=j))):=G5 λ_ _ _ _ _ _ _ q=>le_int q
theorem QJ:gi X (compareOp .Gt) (BG λi j=>.bl (decide (j<i))):=G5 λ_ _ _ _ _ _ _ q=>gt_int q
theorem QK:gi X (compareOp .GtE) (BG λi j=>.bl (decide (j<=i))):=G5 λ_ _ _ _ _ _ _ q=>ge_int q
theorem AL:gi X (compareOp .In) (λx y H Q=>∃i j,x=.str i/\y=.str j/\Q (.bl (!(Builtin.Str.occurrences j i 0 j.length 1).isEmpty)) H):=by
 intro ae s σ H x y v u Q I rx ry h;obtain⟨i,j,rfl,rfl,q⟩:=h;obtain⟨t,rfl⟩:=rx;obtain⟨t',rfl⟩:=ry;exact in_str (iU I q rfl)
theorem My:gi X (compareOp .Is) (λx y H Q=>y=.non/\Q (.bl (decide (x=.non))) H):=by
 intro ae s σ H x y v u Q I rx ry h;obtain⟨rfl,q⟩:=h;cases ry;refine is_none_gen (iU I q ?_);cases x<;>first
  |(cases rx;rfl)
  |(obtain⟨t,rfl⟩:=rx;rfl)
theorem G7:gi X (compareOp .IsNot) (λx y H Q=>y=.non/\Q (.bl (!decide (x=.non))) H):=by
 intro ae s σ H x y v u Q I rx ry h;obtain⟨rfl,q⟩:=h;cases ry;refine isnot_none_gen (iU I q ?_);cases x<;>first
  |(cases rx;rfl)
  |(obtain⟨t,rfl⟩:=rx;rfl)
theorem rT:gi X (compareOp .NotIn) (λx y H Q=>∃i j,x=.str i/\y=.str j/\Q (.bl (!(!(Builtin.Str.occurrences j i 0 j.length 1).isEmpty))) H):=by
 intro ae s σ H x y v u Q I rx ry h;obtain⟨i,j,rfl,rfl,q⟩:=h;obtain⟨t,rfl⟩:=rx;obtain⟨t',rfl⟩:=ry;exact notIn_str (iU I q rfl)
theorem gi.or{f:Value->Value->Sem Value}{r r':R2}(h:gi X f r)(h':gi X f r'):gi X f (λx y H Q=>r x y H Q\/r' x y H Q):=by
 intro ae s σ H x y v u Q I rx ry q;rcases q with q|q
 ·exact h ae s σ H x y v u Q I rx ry q
 ·exact h' ae s σ H x y v u Q I rx ry q
theorem kc{op:CmpOp}{r:R2}(ho:gi X (compareOp op) r)(ha:PE X a ta)(hb:PE X b tb)(hm:behindInMarks op b=false):PE X (.Compare a [op] [b] pos) (CL r ta tb):=by
 intro ae s σ H Q I h;exact wpAny_Compare1 (Mr ha hb I h λv u s2 x y H2 I2 rx ry q=>ho ae s2 σ H2 x y v u Q I2 rx ry q) hm
def QM(t:TE):TT:=λσ H Q=>t σ H λx H'=>∃k,x=.bl k/\Q k H'
theorem kg{op:CmpOp}{r:R2}(ho:gi X (compareOp op) r)(ha:PE X a ta)(hb:PE X b tb)(hm:behindInMarks op b=false):PT X (.Compare a [op] [b] pos) (QM (CL r ta tb)):=by
 intro ae s σ H Q I h;refine wpAny_isTrue_Compare1 (bO (ha ae s σ H _ I h) λv s1 ⟨x,H1,I1,r1,q1⟩=>bO (hb ae s1 σ H1 _ I1 q1) λu s2 ⟨y,H2,I2,r2,q2⟩=>
  bO (ho ae s2 σ H2 x y v u _ I2 r1 r2 q2) λc s3 ⟨z,H3,I3,r3,k,e,q3⟩=>?_) hm
 subst e;cases r3;exact wpAny_truthy_bool ⟨H3,I3,q3⟩
def Mz(K:bu)(x:V)(H:Hp)(k:Bool):Prop:=
 match x with
 |.non=>k=false
 |.bl b=>k=b
 |.int i=>k=(i != 0)
 |.str y=>y.length<=sizeLine/\k=((y.length:Int) != 0)
 |.byt y=>y.size<=sizeLine/\k=((y.size:Int) != 0)
 |.ref p=>(∃xs,df K H p xs/\k=!xs.isEmpty)\/(∃xs,lV K H p xs/\k=!xs.isEmpty)\/∃aF,H p=some (.dK aF)/\k=!aF.isEmpty
 |_=>False
theorem xj{κ:Type}{aF:List (κ×V)}{vs:List (κ×Value)}(r:KV aF vs):(!vs.isEmpty)=!aF.isEmpty:=by
 cases r<;>rfl
theorem nK{xs:List V}{its:B2}(r:Vals xs its):(!its.toArray.isEmpty)=!xs.isEmpty:=by
 cases r<;>simp
theorem lA:(sizeLine:Nat)<2^63:=by rw[sizeLine_eq];decide
theorem MA:Wi X (λx H Q=>∃k,Mz X.K x H k/\Q k H):=by
 intro ae s σ H x v Q I rx h;obtain⟨k,e,q⟩:=h;have hl:=lA;have hs:sizeLine=16777216:=sizeLine_eq;cases x with
 |non=>
  cases rx;have e':k=false:=e;subst e';exact truthy_none ⟨H,I,q⟩
 |bl b=>
  cases rx;have e':k=b:=e;subst e';exact wpAny_truthy_bool ⟨H,I,q⟩
 |int i=>
  obtain⟨t,rfl⟩:=rx;have e':k=(i != 0):=e;subst e';exact PySem.P.truthy_int ⟨H,I,q⟩
 |str y=>
  obtain⟨t,rfl⟩:=rx;obtain⟨hy,e'⟩:y.length<=sizeLine/\k=((y.length:Int) != 0):=e;subst e';exact PySem.P.truthy_str (by omega) ⟨H,I.tok _,q⟩
 |byt y=>
  obtain⟨t,rfl⟩:=rx;obtain⟨hy,e'⟩:y.size<=sizeLine/\k=((y.size:Int) != 0):=e;subst e';exact PySem.W.truthy_bytes (by omega) ⟨H,I.tok _,q⟩
 |ref p=>
  cases rx;have e':(∃xs,df X.K H p xs/\k=!xs.isEmpty)\/(∃xs,lV X.K H p xs/\k=!xs.isEmpty)\/∃aF,H p=some (.dK aF)/\k=!aF.isEmpty:=e;rcases e' with⟨xs,hx,e'⟩|⟨xs,hx,e'⟩|⟨aF,hx,e'⟩
  ·subst e'
   obtain⟨its,r,pl,hz⟩:=I.list hx;have ck:=r.length;exact wpAny_truthy_list pl.isList (by simp only[b_];omega) ⟨H,I.tok _,by rw[nK r];exact q⟩
  ·subst e'
   obtain⟨its,r,pl,hz⟩:=I.tuple hx;have ck:=r.length;exact truthy_tuple pl (by simp only[b_];omega) ⟨H,I.tok _,by rw[nK r];exact q⟩
  ·subst e'
   obtain⟨hz,hS,vs,r,m⟩:aF.length<=sizeLine/\(p == sysModules)=false/\∃vs,KV aF vs/\s.heap.DictOf (bx X.prog X.w) p vs:=I.ba p _ hx;have ck:aF.length=vs.length:=Paired.length r;exact wpAny_truthy_dict hS m (by omega) ⟨H,I.tok _,by rw[xj r];exact q⟩
 |_=>exact(show False from e).elim
theorem CM(ha:PE X a ta)(he:∀iB,isTrue a X.env iB=(do let v <- iB;standAt a.pos;holding [v] (truthy v))) :
  PT X a (λσ H Q=>ta σ H λx H'=>∃k,Mz X.K x H' k/\Q k H'):=by
 intro ae s σ H Q I h;exact isTrue_plain (bO (ha ae s σ H _ I h) λv s1 ⟨x,H1,I1,r1,q1⟩=>MA ae s1 σ H1 x v Q I1 r1 q1) (he _)
theorem xl:gi X (binaryOp .Add) (λx y H Q=>∃i j,x=.str i/\y=.str j/\i.length+j.length<=sizeLine/\Q (.str (i++j)) H):=by
 intro ae s σ H x y v u Q I rx ry h;obtain⟨i,j,rfl,rfl,hz,q⟩:=h;obtain⟨t,rfl⟩:=rx;obtain⟨t',rfl⟩:=ry;exact add_str (λt' tk=>⟨.str (i++j),H,I.tok _,⟨_,rfl⟩,q⟩) hz
theorem vals1{x:V}{us:B2}(r:Vals [x] us):∃u,us=[u]/\RelV x u:=by
 cases r with
 |cons r1 r2=>cases r2;exact⟨_,rfl,r1⟩
theorem vals2{x y:V}{us:B2}(r:Vals [x,y] us):∃u w',us=[u,w']/\RelV x u/\RelV y w':=by
 cases r with
 |cons r1 r2=>
  cases r2 with
  |cons r3 r4=>cases r4;exact⟨_,_,rfl,r1,r3⟩
theorem CN:fm X (.builtin "abs") (λxs H Q=>∃i,xs=[.int i]/\Q (.int (if i<0 then -i else i)) H):=by
 intro ae s σ H xs us Q I r h;obtain⟨i,rfl,q⟩:=h;obtain⟨u,rfl,t,rfl⟩:=vals1 r;exact call_abs_int λu tk=>⟨.int (if i<0 then -i else i),H,I.tok _,⟨_,rfl⟩,q⟩
theorem rV:fm X (.type "str") (λxs H Q=>∃i,xs=[.int i]/\i.natAbs.log2<1920/\Q (.str (toString i)) H):=by
 intro ae s σ H xs us Q I r h;obtain⟨i,rfl,hz,q⟩:=h;obtain⟨u,rfl,t,rfl⟩:=vals1 r;exact PySem.P.str_of_int hz ⟨.str _,H,I.tok _,⟨_,rfl⟩,q⟩
def QN(K:bu)(x:V)(H:Hp)(n:Nat):Prop:=
 match x with
 |.str y=>y.length<=sizeLine/\n=y.length
 |.byt y=>y.size<=sizeLine/\n=y.size
 |.ref p=>(∃xs,df K H p xs/\n=xs.length)\/∃xs,lV K H p xs/\n=xs.length
 |_=>False
theorem nM:fm X (.builtin "len") (λxs H Q=>∃x n,xs=[x]/\QN X.K x H n/\Q (.int n) H):=by
 intro ae s σ H xs us Q I r h;obtain⟨x,n,rfl,e,q⟩:=h;obtain⟨u,rfl,rx⟩:=vals1 r;have hl:=lA;have hs:sizeLine=16777216:=sizeLine_eq;cases x with
 |str y=>
  obtain⟨t,rfl⟩:=rx;obtain⟨hy,e'⟩:y.length<=sizeLine/\n=y.length:=e;subst e';exact len_str (by omega) ⟨.int _,H,I.tok _,⟨_,rfl⟩,q⟩
 |byt y=>
  obtain⟨t,rfl⟩:=rx;obtain⟨hy,e'⟩:y.size<=sizeLine/\n=y.size:=e;subst e';exact PySem.W.len_bytes (by omega) ⟨.int _,H,I.tok _,⟨_,rfl⟩,q⟩
 |ref p=>
  cases rx;have e':(∃xs,df X.K H p xs/\n=xs.length)\/∃xs,lV X.K H p xs/\n=xs.length:=e;rcases e' with⟨xs,hx,e'⟩|⟨xs,hx,e'⟩
  ·subst e'
   obtain⟨its,r',pl,hz⟩:=I.list hx;have ck:=r'.length;exact Calls.call_len_list pl.isList (by simp only[b_];omega) ⟨.int xs.length,H,I.tok _,⟨_,by simp only[b_];rw[ck]⟩,q⟩
  ·subst e'
   obtain⟨its,r',pl,hz⟩:=I.tuple hx;have ck:=r'.length;exact len_tuple pl (by simp only[b_];omega) ⟨.int xs.length,H,I.tok _,⟨_,by simp only[b_];rw[ck]⟩,q⟩
 |_=>exact(show False from e).elim
end
structure xm(h:Heap)(x dx C:Addr)(mA:Str->D1):Prop where
 obj:h.get? x=some (tU C dx)
 ns:h.Ns1 dx mA
 ne:dx≠x
theorem AM{h:Heap}{dx:Addr}{mA:Str->D1}(n:h.Ns1 dx mA):∃od,h.get? dx=some od/\∀name,yo name od=some (mA name):=by
 obtain⟨o,es,ep,ho,hd,hk,_,hm⟩:=n;refine⟨o,ho,λname=>?_⟩;have e:=hm name;unfold nsFind findBy at e;rw[<- Array.find?_toList]at e;unfold yo;rw[hd];dsimp only;split
 ·rename_i y q
  rw[q]at e;exact congrArg some e
 ·rename_i q
  rw[q]at e;have a:es.toList.any (·.refKey)=false:=by
   rw[List.any_eq_false];intro y hy;obtain⟨z,t,Wj⟩:=hk y (Array.mem_toList_iff.mp hy);simp[DictEntry.refKey,Wj]
  have a':¬ es.toList.any (·.refKey)=true:=by rw[a];exact dC
  rw[if_neg a'];exact congrArg some e
theorem xm.look{h:Heap}{x dx C:Addr}{mA:Str->D1}(I:xm h x dx C mA):∃od,PySem.W.InstAt h x (tU C dx) C (some od)/\∀name,yo name od=some (mA name):=
 let⟨od,ho,hl⟩:=AM I.ns
 ⟨od,⟨I.obj,rfl,rfl,ho⟩,hl⟩
section
variable{prog:Program}{K:bu}{mA:Str->D1}{name:Str}{v:Value}
theorem get_map{expr:Bool}{Q:Value->Shared->Prop}(X:K.In s.heap)(I:xm s.heap x dx C mA)(hg:BK K C name=true)(hh:yp K C=true)
  (ha:gE K (.ref C) name=some none) (hv:mA name=some v) (hv':JP v=true) (h:Q v {s with toks:=s.toks+1}) :
  wpAny (model prog w) A (getAttr (.ref x) name expr) Q E s:=by
 obtain⟨od,J,hl⟩:=I.look;exact PySem.W.get_value X J (BP hg).1 (PySem.W.findObj_own hh ha rfl (by rw[hl,hv])) hv' h
theorem CO{pl:Sem Bool}{Q:Value×B2->Shared->Prop}(X:K.In s.heap)(I:xm s.heap x dx C mA)(hg:BK K C name=true)
  (hf:gE K (.ref C) name=some (some (.ref f))) (ht:BL K (.ref f)=true) (hv:mA name=none) (h:Q (.ref f,[.ref x]) s) :
  wpAny (model prog w) A (getMethod (.ref x) name pl) Q E s:=by
 obtain⟨od,J,hl⟩:=I.look;exact PySem.W.method_fn X J (BP hg).1 (BP hg).2 hf (beq_iff_eq.mp ht) (by show(yo name od).map (·.isSome)=some false;rw[hl,hv];rfl) h
theorem G8{ns:Bi}{Q:Unit->Shared->Prop}(X:K.In s.heap)(I:xm s.heap x dx C mA)
  (hs:gE K (.ref C) "__setattr__" = some (some (.builtin "object.__setattr__"))) (hp:BQ K C=true) (ht:BR K C name=some none) (hh:yp K C=true)
  (hw:PySem.Within mA ns) (hsz:ns.length<=sizeLine)
  (h:∀h',xm h' x dx C (λy=>if y=name then some v else mA y)->Heap.SameBut dx s.heap h'->Q () {s with heap:=h',toks:=s.toks+2}) :
  wpAny (model prog w) A (setAttr (.ref x) name v) Q E s:=by
 obtain⟨od,J,hl⟩:=I.look;refine PySem.W.set_plain X J hs (PySem.W.osa_open (s:={s with toks:=s.toks+1}) (r:=none) X J hp ht λb=>?_)
 obtain⟨cd,hc,V1⟩:=PySem.W.any_some hh;have hx:s.heap.get? x=some ⟨.ref C,some dx,.plain,#[]⟩:=I.obj;refine wpAny_bind (wpAny_pure (wpAny_bind (wpAny_bind (wpAny_loadPart hx (wpAny_bind (PySem.W.Looks.here (s:={s with toks:=s.toks+1}) (PySem.W.looks_clsIn X hc) ?_))))))
 rw[V1];refine wpAny_pure (a:=some dx) (wpAny_bind (wpAny_pure (wpAny_bind ?_)));refine wpAny_nsSet1 (s:={s with toks:=s.toks+1}) I.ns λh' Vo xg=>?_
 obtain⟨oD,esD,epD,hoD,hdD,hcD⟩:=Vo.count (PySem.Within.cons name v hw);refine wpAny_bind (wpAny_lookBehind hoD (by rw[hdD];exact pastItsLine_dict (gP hcD (by rw[dP];omega))) ?_)
 exact wpAny_pure (h _ ⟨(xg.2 _ (Ne.symm I.ne)).trans I.obj,Vo,I.ne⟩ xg)
theorem CP{R:Result->Shared->Prop}{vs:B2}{kw:List (Str×Value)}(X:K.In s.heap)(hm:BN K C=true)
  (hi:gE K (.ref C) "__init__" = some (some (.ref f))) (hf:PySem.W.typeIn K (.ref f)=some (.type "function"))
  (h:codeAny (model prog w) (A.under (.builtin "type.__call__" ⟨.ref C::vs,kw⟩)) (.call (.ref f) ⟨.ref (s.heap.objs.size+1)::vs,kw⟩) (PySem.W.InitBack (s.heap.objs.size+1) R)
   {s with heap:=(s.heap.push rA).push (tU C s.heap.objs.size)}) :
  codeAny (model prog w) A (.call (.ref C) ⟨vs,kw⟩) R s:=by
 obtain⟨hh,g,d,t,os⟩:=s;exact PySem.W.make_core (PySem.W.makes_of X hm) (PySem.W.looks_findIn X hi) (λself=>PySem.W.bind_fn X self hf) (.inl rfl) h
end
def dF(f:Str)(v:V):List (Str×V)->List (Str×V)
 |[]=>[(f,v)]
 |(g,x)::r=>if g=f then(g,v)::r else(g,x)::dF f v r
theorem lX(f g:Str)(v:V):∀fs:List (Str×V),(dF f v fs).lookup g=if g=f then some v else fs.lookup g
 |[]=>by
  show mz g [(f,v)]=_;by_cases h:g=f
  ·have hb:(g == f)=true:=beq_iff_eq.mpr h
   simp only[mz,hb,if_pos h]
  ·have hb:(g == f)=false:=beq_eq_false_iff_ne.mpr h
   simp only[mz,hb,if_neg h]
 |(k,x)::r=>by
  have ih:=lX f g v r;rw[show dF f v ((k,x)::r)=(if k=f then(k,v)::r else(k,x)::dF f v r)from rfl]
  by_cases hk:k=f
  ·rw[if_pos hk]
   by_cases h:g=k
   ·have hb:(g == k)=true:=beq_iff_eq.mpr h
    simp only[mz,hb,if_pos (h.trans hk)]
   ·have hb:(g == k)=false:=beq_eq_false_iff_ne.mpr h
    simp only[mz,hb,if_neg (λe:g=f=>h (e.trans hk.symm))]
  ·rw[if_neg hk]
   by_cases h:g=k
   ·have hb:(g == k)=true:=beq_iff_eq.mpr h
    simp only[mz,hb,if_neg (λe:g=f=>hk (h.symm.trans e))]
   ·have hb:(g == k)=false:=beq_eq_false_iff_ne.mpr h
    simp only[mz,hb];exact ih
theorem lB(f:Str)(v:V):∀fs:List (Str×V),f∈(dF f v fs).map (·.1)/\∀g,g∈fs.map (·.1)->g∈(dF f v fs).map (·.1)
 |[]=>⟨by simp[dF],λg h=>by simp at h⟩
 |(k,x)::r=>by
  obtain⟨i1,i2⟩:=lB f v r;rw[show dF f v ((k,x)::r)=(if k=f then(k,v)::r else(k,x)::dF f v r)from rfl]
  by_cases hk:k=f
  ·rw[if_pos hk]
   subst hk;exact⟨by simp,λg h=>by simpa using h⟩
  ·rw[if_neg hk]
   refine⟨?_,λg h=>?_⟩
   ·rw[dz]
    exact eF _ i1
   ·rw[dz]at h ⊢
    rcases bA.mp h with e|e
    ·exact bA.mpr (.inl e)
    ·exact eF _ (i2 g e)
theorem lY(f:Str)(v:V):∀fs:List (Str×V),(dF f v fs).length<=fs.length+1
 |[]=>by simp[dF]
 |(k,x)::r=>by
  have ih:=lY f v r;rw[show dF f v ((k,x)::r)=(if k=f then(k,v)::r else(k,x)::dF f v r)from rfl]
  by_cases hk:k=f
  ·rw[if_pos hk,dP,dP];omega
  ·rw[if_neg hk,dP,dP];omega
theorem iP.some_of{v:V}{o:D1}(r:iP (some v) o):∃u,o=some u/\RelV v u:=by
 cases o with
 |none=>exact(show False from r).elim
 |some u=>exact⟨u,rfl,r⟩
theorem iP.none_of{o:D1}(r:iP none o):o=none:=by
 cases o with
 |none=>rfl
 |some u=>exact(show False from r).elim
theorem AN{v:V}{u:Value}(r:RelV v u):JP u=true:=by
 cases v with
 |non=>cases(show u=Value.none from r);rfl
 |bl b=>cases(show u=Value.bool b from r);rfl
 |int i=>obtain⟨t,e⟩:=(show ∃t,u=Value.int i t from r);cases e;rfl
 |str x=>obtain⟨t,e⟩:=(show ∃t,u=Value.str x t from r);cases e;rfl
 |byt b=>obtain⟨t,e⟩:=(show ∃t,u=Value.bytes b t from r);cases e;rfl
 |flt b=>obtain⟨t,e⟩:=(show ∃t,u=Value.float b t from r);cases e;rfl
 |ref a=>cases(show u=Value.ref a from r);rfl
 |ty n=>cases(show u=Value.type n from r);rfl
section
variable{fs qz:List (Str×V)}
theorem kh(ba:jV P w H h)(e:H a=some (.ins C dx fs)):∃mA,xm h a dx C mA/\(∀f,iP (fs.lookup f) (mA f))/\PySem.Within mA (fs.map (·.1))/\fs.length<=1000/\H dx=some (.own a):=by
 obtain⟨d,z,ne,ob,mA,n,r,q⟩:=(show b7 P w H h a (.ins C dx fs)from ba a _ e);exact⟨mA,⟨ob,n,ne⟩,r,q,z,d⟩
end
structure qe(K:bu)(C:Addr):Prop where
 pg:BK K C Str.empty=true
 hd:yp K C=true
 po:BQ K C=true
 sa:gE K (.ref C) "__setattr__" = some (some (.builtin "object.__setattr__"))
theorem qe.get{K:bu}{C:Addr}(c:qe K C)(f:Str):BK K C f=true:=c.pg
def eO(K:bu)(C:Addr)(f:Str):Prop:=gE K (.ref C) f=some none
theorem eO.QO{K:bu}{C:Addr}{f:Str}(n:eO K C f):BR K C f=some none:=by
 unfold BR;rw[show gE K (.ref C) f=some none from n];rfl
structure Meth(K:bu)(C:Addr)(m:Str)(f:Addr):Prop where
 at_:gE K (.ref C) m=some (some (.ref f))
 fn:BL K (.ref f)=true
 kp:pX K (.ref f)=true
section
variable{X:Cx}{σ:St}{fs:List (Str×V)}{f:Str}{v:V}
theorem nN{b:Bool}{Q:Value->Shared->Prop}(I:Inv X ae σ H s)(e:H a=some (.ins C dx fs))(c:qe X.K C)(n:eO X.K C f)(l:fs.lookup f=some v)
  (h:∀u s',Inv X ae σ H s'->RelV v u->Q u s'):wpAny (model X.prog X.w) A (getAttr (.ref a) f b) Q E s:=by
 obtain⟨mA,O,r,_,_,_⟩:=kh I.ba e;obtain⟨u,hu,ru⟩:=iP.some_of (v:=v) (o:=mA f) (by rw[<- l];exact r f)
 exact get_map I.j7 O (c.get f) c.hd n hu (AN ru) (h u _ (I.tok _) ru)
theorem nO{m:Str}{g:Addr}{pl:Sem Bool}{Q:Value×B2->Shared->Prop}(I:Inv X ae σ H s)(e:H a=some (.ins C dx fs))(c:qe X.K C)(k:Meth X.K C m g)(l:fs.lookup m=none)
  (h:Q (.ref g,[.ref a]) s):wpAny (model X.prog X.w) A (getMethod (.ref a) m pl) Q E s:=by
 obtain⟨mA,O,r,_,_,_⟩:=kh I.ba e;have hn:mA m=none:=iP.none_of (by rw[<- l];exact r m)
 exact CO I.j7 O (c.get m) k.at_ k.fn hn h
theorem nP{y:V}{u:Value}{Q:Unit->Shared->Prop}(I:Inv X ae σ H s)(e:H a=some (.ins C dx fs))(c:qe X.K C)(n:eO X.K C f)(hl:fs.length<1000)(ry:RelV y u)
  (h:∀s',Inv X ae σ (upd H a (.ins C dx (dF f y fs))) s'->Q () s'):wpAny (model X.prog X.w) A (setAttr (.ref a) f u) Q E s:=by
 obtain⟨mA,O,r,wi,_,ho⟩:=kh I.ba e;have hz:(fs.map (·.1)).length<=sizeLine:=by rw[cD,sizeLine_eq];omega
 refine G8 I.j7 O c.sa c.po n.QO c.hd wi hz λh' O' sb=>h _ ?_;have hd:∃o,h'.get? dx=some o:=let⟨o,_,_,e',_⟩:=O'.ns;⟨o,e'⟩;refine I.write (x:=a) (e:=dx) (by rw[e];exact True.intro) (.inr ho) (λb q hb z=>(sb.2 b hb).trans z) hd ?_
 refine⟨by rw[au O.ne];exact ho,?_,O.ne,O'.obj,_,O'.ns,λg=>?_,λg hg=>?_⟩
 ·have:=lY f y fs;omega
 ·show iP ((dF f y fs).lookup g) (if g=f then some u else mA g)
  rw[lX];by_cases q:g=f
  ·rw[if_pos q,if_pos q];exact ry
  ·rw[if_neg q,if_neg q];exact r g
 ·by_cases q:g=f
  ·rw[q];exact(lB f y fs).1
  ·refine(lB f y fs).2 g (wi g λz=>hg ?_)
   show(if g=f then some u else mA g)=none
   rw[if_neg q];exact z
theorem Inv.made(I:Inv X ae σ H s):Inv X ae σ (upd (upd H s.heap.objs.size (.own (s.heap.objs.size+1))) (s.heap.objs.size+1) (.ins C s.heap.objs.size []))
  {s with heap:=(s.heap.push rA).push (tU C s.heap.objs.size)}:=by
 have e1:(s.heap.push rA).get? s.heap.objs.size=some rA:=Heap.get?_push_size s.heap rfl;have e2:((s.heap.push rA).push (tU C s.heap.objs.size)).get? (s.heap.objs.size+1)=some (tU C s.heap.objs.size):=by
  have:=Heap.get?_push_size (s.heap.push rA) (o:=tU C s.heap.objs.size) rfl
  rwa [Heap.size_push]at this
 have e3:(s.heap.push rA).Ns s.heap.objs.size (λ_=>none):=⟨rA,#[],_,e1,rfl,(λe he=>absurd he (by simp)),λ_=>rfl⟩
 have I1:=I.laid (a:=s.heap.objs.size) (o:=.own (s.heap.objs.size+1)) (h':=s.heap.push rA) (t':=s.toks) (λb u q=>Heap.get?_push_of_some _ q) (dj _) ⟨_,e1⟩;refine I1.laid (a:=s.heap.objs.size+1) (o:=.ins C s.heap.objs.size []) (t':=s.toks) (λb u q=>Heap.get?_push_of_some _ q) (Cp (Heap.size_push _ _)) ?_;have ne:s.heap.objs.size≠s.heap.objs.size+1:=eL (wQ _);refine⟨by rw[au ne,ah],iN _,ne,e2,λ_=>none,(Heap.Ns1.of_empty e3).at λo q=>Heap.get?_push_of_some _ q,λ_=>True.intro,λy hy=>absurd rfl hy⟩
theorem G9{prog:Program}{w:World}{env:Env}{e:Expr}{f:Str}{pos:Pos}{s:Shared}{Q:Value->Shared->Prop}(hb:attributeBase e f env (eval e env)=eval e env)
  (h:wpAny (model prog w) A (eval e env) (λo s₁=>wpAny (model prog w) A (getAttr o f true) Q E s₁) E s):wpAny (model prog w) A (eval (.Attribute e f pos) env) Q E s:=
 Attribute_any_ h (by rw[arm_eval_Attribute,hb])
end
def Wk(K:bu)(ta:TE)(f:Str):TE:=λσ H Q=>ta σ H λx H1=>∃a C dx fs v,x=.ref a/\H1 a=some (.ins C dx fs)/\qe K C/\eO K C f/\fs.lookup f=some v/\Q v H1
def QP(K:bu)(ta tv:TE)(f:Str):TS:=λD σ H=>tv σ H λy H1=>ta σ H1 λx H2=>∃a C dx fs,x=.ref a/\H2 a=some (.ins C dx fs)/\qe K C/\eO K C f/\fs.length<1000 /\
 D.nx σ (upd H2 a (.ins C dx (dF f y fs)))
def QQ(X:Cx)(op:Operator)(rd:V->V->Hp->VK->Prop):Prop:=
 ∀(ae:dm)(s:Shared)(σ:St)(H:Hp)(x y:V)(u v:Value)(Q:VK),Inv X ae σ H s->RelV x u->RelV y v->rd x y H Q->wpAny (model X.prog X.w) X.A (inplaceOp op u v) (EP X ae σ Q) X.xe s
def G_(K:bu)(ta tv:TE)(rd:V->V->Hp->VK->Prop)(f:Str):TS:=λD σ H=>ta σ H λx H1=>∃a C dx fs v,x=.ref a/\H1 a=some (.ins C dx fs)/\qe K C/\eO K C f/\fs.lookup f=some v /\
 tv σ H1 λy H2=>rd v y H2 λz H3=>∃Vp qz,H3 a=some (.ins C Vp qz)/\qz.length<1000/\D.nx σ (upd H3 a (.ins C Vp (dF f z qz)))
section
variable{X:Cx}{value:Expr}{f:Str}{cJ mH:Pos}{ta tv:TE}
theorem CQ(he:PE X e ta)(hb:attributeBase e f X.env (eval e X.env)=eval e X.env):PE X (.Attribute e f pos) (Wk X.K ta f):=by
 intro ae s σ H Q I h;refine G9 hb (bO (he ae s σ H _ I h) λu s1 zz=>?_);obtain⟨x,H1,I1,rx,a,C,dx,fs,v,ex,ea,c,n,l,q⟩:=zz;subst ex
 obtain rfl:u=Value.ref a:=rx
 exact nN I1 ea c n l λu' s2 I2 ru=>⟨v,H1,I2,ru,q⟩
theorem xn(ha:PE X o ta)(hv:PE X value tv)(hs:swapsWith value (some (.Attribute o f cJ)) pos.line X.env=pure false):PS X (.Assign [.Attribute o f cJ] value pos) (QP X.K ta tv f):=by
 intro ae s σ H D I h;refine plainObj_wpAny_Assign_Attribute (bO (hv ae s σ H _ I h) λu s1 ⟨y,H1,I1,ry,q⟩=>bO (ha ae s1 σ H1 _ I1 q) λov s2 ⟨x,H2,I2,rx,a,C,dx,fs,ex,ea,c,n,l,q2⟩=>?_) hs;subst ex
 obtain rfl:ov=Value.ref a:=rx
 exact nP I2 ea c n l ry λs3 I3=>⟨σ,_,I3,q2⟩
theorem AO{op:Operator}{rd:V->V->Hp->VK->Prop}(ha:PE X o ta)(hv:PE X value tv)(hop:QQ X op rd):PS X (.AugAssign (.Attribute o f mH) op value pos) (G_ X.K ta tv rd f):=by
 intro ae s σ H D I h;refine wpAny_AugAssign_AttributeAny (bO (ha ae s σ H _ I h) λov s1 zz=>?_);obtain⟨x,H1,I1,rx,a,C,dx,fs,v,ex,ea,c,n,l,q⟩:=zz;subst ex
 obtain rfl:ov=Value.ref a:=rx
 refine nN I1 ea c n l λu s2 I2 ru=>bO (hv ae s2 σ H1 _ I2 q) λw3 s3 ⟨y,H2,I3,ry,q3⟩=>bO (hop ae s3 σ H2 v y u w3 _ I3 ru ry q3) λw4 s4 zz=>?_;obtain⟨z,H3,I4,rz,Vp,qz,ea',l',q4⟩:=zz;exact nP I4 ea' c n l' rz λs5 I5=>⟨σ,_,I5,q4⟩
def Wl:V->V->Hp->VK->Prop:=λx y H Q=>∃i j,x=.int i/\y=.int j/\Q (.int (i+j)) H
theorem MB:QQ X .Add Wl:=by
 rintro ae s σ H x y u v Q I rx ry ⟨i,j,rfl,rfl,q⟩
 obtain⟨t,rfl⟩:=(show ∃t,u=Value.int i t from rx);obtain⟨t',rfl⟩:=(show ∃t',v=Value.int j t' from ry);exact PyProof.Rows.iadd_int ⟨.int (i+j),H,I.tok _,⟨_,rfl⟩,q⟩
end
section
variable{X:Cx}{σ:St}{Q:Value->Shared->Prop}{c:Value}{b:Bool}
inductive jo(K:bu)(H:Hp):V->Value->Prop where
 |non:jo K H .non (.type "NoneType")
 |bl (x:Bool):jo K H (.bl x) (.type "bool")
 |int (i:Int):jo K H (.int i) (.type "int")
 |str (x:Str):jo K H (.str x) (.type "str")
 |flt (x:UInt64):jo K H (.flt x) (.type "float")
 |lst {a:Addr} {xs:List V} (e:H a=some (.lst xs)):jo K H (.ref a) (.type "list")
 |jh {a:Addr} {o:Obj} {xs:List V} (e:H a=some (.jh o (.lst xs))):jo K H (.ref a) (.type "list")
 |tup {a:Addr} {xs:List V} (e:lV K H a xs):jo K H (.ref a) (.type "tuple")
 |dK {a:Addr} {aF:List (Key×V)} (e:H a=some (.dK aF)):jo K H (.ref a) (.type "dict")
 |dT {a:Addr} {aF:List (List Key×V)} (e:H a=some (.dT aF)):jo K H (.ref a) (.type "dict")
 |ins {a C dx:Addr} {fs:List (Str×V)} (e:H a=some (.ins C dx fs)) (cl:qe K C) (ha:gE K (.ref C) "__class__" = some (some (.builtin "object.__class__")))
   (hn:yq K (.builtin "object.__class__") "__get__" = some (some (.builtin "getset_descriptor.__get__"))) (KN:yr K (.builtin "object.__class__")=some true)
   (hm:yt K C (.type "object")=some true):jo K H (.ref a) (.ref C)
theorem qE{x:V}{u t:Value}(I:Inv X ae σ H s)(rx:RelV x u)(ty:jo X.K H x t)(e:rB X.K t c=some b)(h:∀tk,Q (.bool b) {s with toks:=tk}) :
  wpAny (model X.prog X.w) A (call (.builtin "isinstance") [u,c]) Q E s:=by
 cases ty with
 |non=>cases(show u=Value.none from rx);exact nA PySem.W.kitx_none I.j7 True.intro e (λz=>nomatch z) h
 |bl y=>cases(show u=Value.bool y from rx);exact nA PySem.W.kitx_bool I.j7 True.intro e (λz=>nomatch z) h
 |int i=>obtain⟨t,q⟩:=(show ∃t,u=Value.int i t from rx);cases q;exact nA PySem.W.kitx_int I.j7 True.intro e (λz=>nomatch z) h
 |str y=>obtain⟨t,q⟩:=(show ∃t,u=Value.str y t from rx);cases q;exact nA PySem.W.kitx_str I.j7 True.intro e (λz=>nomatch z) h
 |flt y=>obtain⟨t,q⟩:=(show ∃t,u=Value.float y t from rx);cases q;exact nA PySem.W.kitx_float I.j7 True.intro e (λz=>nomatch z) h
 | @lst a xs ea=>
  cases(show u=Value.ref a from rx);obtain⟨_,_,n,_,h1⟩:=(show b7 X.prog X.w H s.heap a (.lst xs)from I.ba a _ ea);exact nA JQ I.j7 ⟨_,h1,rfl⟩ e (λz=>nomatch z) h
 | @jh a ob xs ea=>
  cases(show u=Value.ref a from rx);obtain⟨_,_,_,n,_,h1⟩:=(show b7 X.prog X.w H s.heap a (.jh ob (.lst xs))from I.ba a _ ea);exact nA JQ I.j7 ⟨_,h1,rfl⟩ e (λz=>nomatch z) h
 | @tup a xs ea=>
  cases(show u=Value.ref a from rx);obtain⟨_,_,p,_⟩:=I.tuple ea;obtain⟨o,h1,h2,_⟩:=p;exact nA PySem.W.kitx_tuple I.j7 ⟨o,h1,h2⟩ e (λz=>nomatch z) h
 | @dK a aF ea=>
  cases(show u=Value.ref a from rx);obtain⟨_,_,vs,_,p⟩:=(show b7 X.prog X.w H s.heap a (.dK aF)from I.ba a _ ea);obtain⟨o,es,ep,h1,h2,_⟩:=p;exact nA JR I.j7 ⟨o,h1,h2.1⟩ e (λz=>nomatch z) h
 | @dT a aF ea=>
  cases(show u=Value.ref a from rx);obtain⟨_,_,xs,_,o,es,ep,h1,h2,_⟩:=(show b7 X.prog X.w H s.heap a (.dT aF)from I.ba a _ ea);exact nA JR I.j7 ⟨o,h1,h2.1⟩ e (λz=>nomatch z) h
 | @ins a C dx fs ea cl ha hn KN hm=>
  cases(show u=Value.ref a from rx);obtain⟨mA,O,_⟩:=kh I.ba ea;obtain⟨od,J,_⟩:=O.look;exact nA (JS (cl.get _) cl.hd ha hn KN hm) I.j7 J e (λz=>nomatch z) h
end
structure bH(k:Nat)(A:Around):Prop where
 hd:A.handled=none
 dp:A.depth+3*k+5<recursionLimit
 un:A.units+16*k+200<cLine
theorem bH.mono{j k:Nat}{A:Around}(r:bH k A)(h:j<=k):bH j A:=⟨r.hd,by have:=r.dp;omega,by have:=r.un;omega⟩
theorem bH.deeper{k:Nat}{A:Around}(r:bH (k+1) A)(env:Env):bH k (A.deeper env):=
 ⟨r.hd,by have:=r.dp;show A.depth+1+3*k+5<_;omega,by have:=r.un;show A.units+3+16*k+200<_;omega⟩
theorem xo{A:Around}{C:Addr}{us:B2}{kw:List (Str×Value)}:(A.under (.builtin "type.__call__" ⟨.ref C::us,kw⟩)).depth=A.depth+1:=by
 first|rfl|simp[Around.under,Code.weight,Code.isCreation,Code.isGuard,Code.isCaller,Code.frames,Code.isFrame,guardIds]
theorem xq{A:Around}{C:Addr}{us:B2}{kw:List (Str×Value)}:(A.under (.builtin "type.__call__" ⟨.ref C::us,kw⟩)).units=A.units+1:=by
 first|rfl|simp[Around.under,Code.cUnits,Code.frames,Code.isFrame]
theorem bH.make{k:Nat}{A:Around}(r:bH (k+1) A)(C:Addr)(us:B2)(kw:List (Str×Value)):bH k (A.under (.builtin "type.__call__" ⟨.ref C::us,kw⟩)):=
 ⟨r.hd,by have:=r.dp;rw[xo];omega,by have:=r.un;rw[xq];omega⟩
theorem bH.depth{k:Nat}{A:Around}(r:bH k A):A.depth<recursionLimit:=by have:=r.dp;omega
theorem bH.units{k:Nat}{A:Around}(r:bH k A):A.units+64<cLine:=by have:=r.un;omega
def Ha:TA:=λ_ H Q=>Q [] H
def QR(ta:TE)(tr:TA):TA:=λσ H Q=>ta σ H λx H1=>tr σ H1 λxs H2=>Q (x::xs) H2
section
variable{X:Cx}{te:TE}{t:TA}
theorem cK:PA X [] Ha:=λ_ _ _ _ H Q I h=>Calls.spliced_nil ⟨[],H,I,.nil,h⟩
theorem aV(ha:PE X e te)(hr:PA X es t)(hs:starEach (e::es) X.env=(false,eval e X.env)::starEach es X.env:=by rfl):PA X (e::es) (QR te t):=by
 intro pos ae s σ H Q I h;rw[hs];show wpAny _ _ (spliced ((false,eval e X.env)::backTo pos (starEach es X.env))) _ _ s;refine Calls.spliced_cons (bO (ha ae s σ H _ I h) λu s1 zz=>?_);obtain⟨x,H1,I1,r1,q1⟩:=zz;exact bO (hr pos ae s1 σ H1 _ I1 q1) λus s2 ⟨xs,H2,I2,r2,q2⟩=>⟨x::xs,H2,I2,.cons r1 r2,q2⟩
def Wm(t:TA):TE:=λσ H Q=>t σ H λxs H1=>xs.length<=sizeLine/\∀p,H1 p=none->Q (.ref p) (upd H1 p (.tup xs))
def Wn(t:TA):TE:=λσ H Q=>t σ H λxs H1=>xs.length<=sizeLine/\∀p,H1 p=none->Q (.ref p) (upd H1 p (.lst xs))
theorem CS{x1}(h:PA X es t):PE X (.Tuple es x1 pos) (Wm t):=by
 intro ae s σ H Q I hq;refine wpAny_Tuple_spliced (bO (h pos ae s σ H _ I hq) λus s1 ⟨xs,H1,I1,r,z,q⟩=>⟨by rw[<- r.length];exact z,?_⟩)
 have hf:H1 s1.heap.objs.size=none:=I1.ba.fresh (dj _);refine⟨.ref s1.heap.objs.size,upd H1 s1.heap.objs.size (.tup xs),I1.laid (t':=s1.toks) (λb u e=>Heap.get?_push_of_some _ e) (dj _) ?_,rfl,q _ hf⟩;exact⟨z,us,r,⟨_,Heap.get?_push_size _ rfl,rfl,_,rfl⟩⟩
theorem CT(h:PA X es t):PE X (.List es pos) (Wn t):=by
 intro ae s σ H Q I hq;refine wpAny_List_spliced (bO (h pos ae s σ H _ I hq) λus s1 ⟨xs,H1,I1,r,z,q⟩=>⟨by rw[<- r.length];exact z,?_⟩)
 have hf:H1 s1.heap.objs.size=none:=I1.ba.fresh (dj _);refine⟨.ref s1.heap.objs.size,upd H1 s1.heap.objs.size (.lst xs),I1.laid (t':=s1.toks) (λb u e=>Heap.get?_push_of_some _ e) (dj _) ?_,rfl,q _ hf⟩;exact⟨z,us,0,r,Heap.get?_push_size _ rfl⟩
end
abbrev Sp:=List V->Hp->VK->XK->Prop
abbrev CU:=List Env->Hp->Shared->XK->Value->Shared->Prop
structure xr(P:Program)(w:World)(K:bu)(mg:Str->D1)(base:Heap)(A:Around)(outer:List Env)(s:Shared)(H:Hp):Prop where
 frames:A.frames=some outer
 mod:Mod K mg base
 bs:∀b o,base.get? b=some o->s.heap.get? b=some o/\H b=none
 bsz:base.objs.size<=s.heap.objs.size
 mG:s.heap.FunFrames base outer
 frf:∀b∈CA outer,H b=none
 ba:jV P w H s.heap
 bare:AllBare s.gens
def CE(outer:List Env)(P:Program)(w:World)(H:Hp)(s:Shared)(Q:VK)(u:Value)(s':Shared):Prop:=
 ∃v H',s'.os=s.os/\AllBare s'.gens/\Un (CA outer) [] H H' s.heap s'.heap/\jV P w H' s'.heap/\RelV v u/\Q v H'
def CR(CX:CU)(outer:List Env)(P:Program)(w:World)(H:Hp)(s:Shared)(Q:VK)(E:XK)(r:Result)(s':Shared):Prop:=
 match r with
 |.ok (.ret u)=>CE outer P w H s Q u s'
 |.ok _=>False
 |.error e=>CX outer H s E e s'
structure dO(P:Program)(w:World)(K:bu)(mg:Str->D1)(base:Heap)(CX:CU)(k:Nat)(f:Addr)(fd:FuncData)(ps:Bi)(sp:Sp):Prop where
 len:∀vs H Q E,sp vs H Q E->vs.length=ps.length
 run:∀(A:Around)(outer:List Env)(s:Shared)(H:Hp)(args:Args)(us:B2)(vs:List V)(Q:VK)(E:XK),bH k A->xr P w K mg base A outer s H->BindsTo s fd args (ps.zip us)->Vals vs us->sp vs H Q E ->
  codeAny (model P w) A (.call (.ref f) args) (CR CX outer P w H s Q E) s
theorem dO.imp{P:Program}{w:World}{K:bu}{mg:Str->D1}{base:Heap}{CX:CU}{k:Nat}{f:Addr}{fd:FuncData}{ps:Bi}{sp Zu:Sp}(F:dO P w K mg base CX k f fd ps sp)
  (h:∀vs H Q E,Zu vs H Q E->sp vs H Q E):dO P w K mg base CX k f fd ps Zu:=
 ⟨λvs H Q E q=>F.len vs H Q E (h _ _ _ _ q),λA outer s H args us vs Q E hr he hb hv hs=>F.run A outer s H args us vs Q E hr he hb hv (h _ _ _ _ hs)⟩
theorem xr.make{P:Program}{w:World}{K:bu}{mg:Str->D1}{base:Heap}{A:Around}{outer:List Env}{s:Shared}{H:Hp}(e:xr P w K mg base A outer s H)(C:Addr)(us:B2)(kw:List (Str×Value)) :
  xr P w K mg base (A.under (.builtin "type.__call__" ⟨.ref C::us,kw⟩)) outer s H:=⟨by first|exact e.frames|(simpa[Around.under,Code.envs,Code.isFrame,pushEnvs]using e.frames),e.mod,e.bs,e.bsz,e.mG,e.frf,e.ba,e.bare⟩
section
variable{X:Cx}{σ:St}{s':Shared}
theorem Inv.QT(I:Inv X ae σ H s):xr X.prog X.w X.K X.mg X.base X.A X.stack s H:=
 ⟨I.ok.frames,I.ok.mod,I.bs,gP I.ok.bsz I.sz,I.stack,I.yM,I.ba,I.bare⟩
theorem Inv.after{Q:VK}{u:Value}(I:Inv X ae σ H s)(h:CE X.stack X.prog X.w H s Q u s'):EP X ae σ Q u s':=by
 obtain⟨v,H',os,bare,un,ba,r,q⟩:=h;obtain⟨hh,g,d,t,os'⟩:=s'
 obtain rfl:os'=s.os:=os
 exact⟨v,H',I.call (h':=hh) (g':=g) (d':=d) (t':=t) (ch:=[]) un ba bare (λb z=>absurd z (by simp)),r,q⟩
end
def KO(sp:Sp)(gF:List V)(E:XK)(t:TA):TE:=λσ H Q=>t σ H λvs H1=>sp (vs++gF) H1 Q E
def yS(C:Addr)(m:Str)(sp:Sp)(gF:List V)(E:XK)(ta:TE)(t:TA):TE:=λσ H Q=>ta σ H λx H1=>∃a dx fs,x=.ref a/\H1 a=some (.ins C dx fs)/\fs.lookup m=none /\
 t σ H1 λvs H2=>sp (x::(vs++gF)) H2 Q E
def QU(C:Addr)(sp:Sp)(gF:List V)(E:XK)(t:TA):TE:=λσ H Q=>t σ H λvs H1=>∀x dx,H1 x=none->H1 dx=none->dx≠x ->
 sp (.ref x::(vs++gF)) (upd (upd H1 dx (.own x)) x (.ins C dx [])) (λv H2=>v=.non/\Q (.ref x) H2) E
def Binds(K:bu)(fd:FuncData)(ps:Bi)(ds:B2):Prop:=
 ∀(s:Shared)(us:B2),K.In s.heap->(us++ds).length=ps.length->BindsTo s fd ⟨us,[]⟩ (ps.zip (us++ds))
theorem Binds.all{K:bu}{fd:FuncData}{ps:Bi}(h:∀us:B2,us.length=ps.length->bindArgs fd ⟨us,[]⟩=pure (ps.zip us)):Binds K fd ps []:=λs us _ hl=>by
 rw[cY]at hl ⊢;exact .of_eq (h us hl)
def Passes(CX:CU)(X:Cx)(E:XK):Prop:=∀(ae:dm)(σ:St)(H:Hp)(s:Shared)(e:Value)(s':Shared),Inv X ae σ H s->CX X.stack H s E e s'->X.xe e s'
section
variable{X:Cx}{CX:CU}{k:Nat}{fd:FuncData}{ps:Bi}{sp:Sp}{gF:List V}{ds:B2}{E:XK}{x m:Str}{cL:Pos}{ta:TE}{t:TA}
theorem rW{ae:dm}{σ:St}{H:Hp}{s:Shared}{Q:VK}{us:B2}{vs:List V}(F:dO X.prog X.w X.K X.mg X.base CX k f fd ps sp)(hr:bH k X.A)(hb:Binds X.K fd ps ds)(hd:Vals gF ds)(hx:Passes CX X E)
  (I:Inv X ae σ H s) (r:Vals vs us) (h:sp (vs++gF) H Q E):wpAny (model X.prog X.w) X.A (call (.ref f) us) (EP X ae σ Q) X.xe s:=by
 have r2:Vals (vs++gF) (us++ds):=r.append hd;have hl:(us++ds).length=ps.length:=by rw[<- r2.length];exact F.len _ _ _ _ h
 refine wpAny_call (codeAny_mono (F.run X.A X.stack s H ⟨us,[]⟩ (us++ds) (vs++gF) Q E hr I.QT (hb s us I.j7 hl) r2 h) λr s' hq=>?_);cases r with
 |error e=>exact hx ae σ H s e s' I hq
 |ok fl=>
  cases fl with
  |ret u=>exact I.after hq
  |next=>exact False.elim hq
  |brk=>exact False.elim hq
  |cont=>exact False.elim hq
theorem Hb(F:dO X.prog X.w X.K X.mg X.base CX k f fd ps sp)(hr:bH k X.A)(hg:Gl X x)(hm:X.mg x=some (.ref f))(hk:pX X.K (.ref f)=true)(hb:Binds X.K fd ps ds)(hd:Vals gF ds)(hx:Passes CX X E)
  (ha:PA X (e::es) t) (nQ:bZ x:=by decide) (he:starEach (e::es) X.env=(false,eval e X.env)::starEach es X.env:=by rfl) (hpl:(backTo pos (starEach es X.env)).any (·.1)=false:=by rfl) :
  PE X (.Call (.Name x p) (e::es) [] pos) (KO sp gF E t):=by
 intro ae s σ H Q I h;refine wpAny_Call_Name_kw (j9 I hg hm ?_ nQ);refine BS (h₀:=X.base) I.ok.mod.kin hk (bO (ha pos ae s σ H _ I h) λus s1 ⟨vs,H1,I1,r,q⟩=>⟨I1.j7,?_⟩) he hpl;exact rW F hr hb hd hx I1 r q
theorem CW(F:dO X.prog X.w X.K X.mg X.base CX k f fd ps sp)(hr:bH k X.A)(hg:Gl X x)(hm:X.mg x=some (.ref f))(hk:pX X.K (.ref f)=true)(hb:Binds X.K fd ps ds)(hd:Vals gF ds)(hx:Passes CX X E)
  (nQ:bZ x:=by decide):PE X (.Call (.Name x p) [] [] pos) (KO sp gF E Ha):=by
 intro ae s σ H Q I h;refine wpAny_Call_Name_kw (j9 I hg hm ?_ nQ);exact BU I.j7 hk (rW (us:=[]) F hr hb hd hx I .nil h)
theorem Hc{pl:Sem Bool}(he:PE X o ta)(c:qe X.K C)(hm:Meth X.K C m f)(F:dO X.prog X.w X.K X.mg X.base CX k f fd ps sp)(hr:bH k X.A)(hb:Binds X.K fd ps ds)(hd:Vals gF ds)(hx:Passes CX X E)(ha:PA X (e::es) t)
  (Qv:starEach (e::es) X.env=(false,eval e X.env)::starEach es X.env:=by rfl) (hpl:(backTo pos (starEach es X.env)).any (·.1)=false:=by rfl)
  (ht:eval (.Call (.Attribute o m cL) (e::es) [] pos) X.env=(do
   let ov <- eval o X.env
   standAt cL.atName
   let(f,first) <- holding [ov] (getMethod ov m pl)
   callWith pos f first (backTo pos (starEach (e::es) X.env)) (backToKw pos (keywordEach [] X.env))):=by rfl) :
  PE X (.Call (.Attribute o m cL) (e::es) [] pos) (yS C m sp gF E ta t):=by
 intro ae s σ H Q I h;refine JT (pl:=pl) (bO (he ae s σ H _ I h) λu s1 ⟨x,H1,I1,rx,a,dx,fs,ex,ea,l,q⟩=>?_) ht;subst ex
 obtain rfl:u=Value.ref a:=rx
 refine nO I1 ea c hm l ?_;refine BS (first:=[.ref a]) (h₀:=X.base) I.ok.mod.kin hm.kp (bO (ha pos ae s1 σ H1 _ I1 q) λus s2 ⟨vs,H2,I2,r,q2⟩=>⟨I2.j7,?_⟩) Qv hpl
 exact rW (us:=.ref a::us) (vs:=.ref a::vs) F hr hb hd hx I2 (.cons rfl r) q2
theorem CY{pl:Sem Bool}(he:PE X o ta)(c:qe X.K C)(hm:Meth X.K C m f)(F:dO X.prog X.w X.K X.mg X.base CX k f fd ps sp)(hr:bH k X.A)(hb:Binds X.K fd ps ds)(hd:Vals gF ds)(hx:Passes CX X E)
  (ht:eval (.Call (.Attribute o m cL) [] [] pos) X.env=(do
   let ov <- eval o X.env
   standAt cL.atName
   let(f,first) <- holding [ov] (getMethod ov m pl)
   callWith pos f first (backTo pos (starEach [] X.env)) (backToKw pos (keywordEach [] X.env))):=by rfl) :
  PE X (.Call (.Attribute o m cL) [] [] pos) (yS C m sp gF E ta Ha):=by
 intro ae s σ H Q I h;refine JT (pl:=pl) (bO (he ae s σ H _ I h) λu s1 ⟨x,H1,I1,rx,a,dx,fs,ex,ea,l,q⟩=>?_) ht;subst ex
 obtain rfl:u=Value.ref a:=rx
 refine nO I1 ea c hm l ?_;exact BU (first:=[.ref a]) I1.j7 hm.kp (rW (us:=[.ref a]) (vs:=[.ref a]) F hr hb hd hx I1 (.cons rfl .nil) q)
structure Mk(K:bu)(C f:Addr):Prop where
 makes:BN K C=true
 init:gE K (.ref C) "__init__" = some (some (.ref f))
 fn:BL K (.ref f)=true
 kp:pX K (.ref C)=true
theorem CZ{ae:dm}{σ:St}{H:Hp}{s:Shared}{Q:VK}{us:B2}{vs:List V}(M:Mk X.K C f)(F:dO X.prog X.w X.K X.mg X.base CX k f fd ps sp)(hr:bH (k+1) X.A)(hb:Binds X.K fd ps ds)(hd:Vals gF ds)
  (hx:Passes CX X E) (I:Inv X ae σ H s) (r:Vals vs us)
  (h:∀x dx,H x=none->H dx=none->dx≠x->sp (.ref x::(vs++gF)) (upd (upd H dx (.own x)) x (.ins C dx [])) (λv H2=>v=.non/\Q (.ref x) H2) E) :
  wpAny (model X.prog X.w) X.A (call (.ref C) us) (EP X ae σ Q) X.xe s:=by
 have hq:=h (s.heap.objs.size+1) s.heap.objs.size (I.ba.fresh (Nat.le_succ _)) (I.ba.fresh (dj _)) (eL (wQ _));have I2:=Inv.made (C:=C) I;have r2:Vals (V.ref (s.heap.objs.size+1)::(vs++gF)) (Value.ref (s.heap.objs.size+1)::(us++ds)):=.cons rfl (r.append hd);have hl:(Value.ref (s.heap.objs.size+1)::us++ds).length=ps.length:=by
  have e:=r2.length;rw[F.len _ _ _ _ hq]at e;exact e.symm
 refine wpAny_call (CP (f:=f) I.j7 M.makes M.init (beq_iff_eq.mp M.fn) (codeAny_mono (F.run _ X.stack _ _ ⟨Value.ref (s.heap.objs.size+1)::us,[]⟩ (Value.ref (s.heap.objs.size+1)::(us++ds)) _ _ E (hr.make C us [])
  (I2.QT.make C us []) (hb _ (Value.ref (s.heap.objs.size+1)::us) I2.j7 hl) r2 hq) λr s' xu=>?_))
 cases r with
 |error e=>exact hx ae σ _ _ e s' I2 xu
 |ok fl=>
  cases fl with
  |ret u=>
   obtain⟨v,H',I3,rv,ev,q3⟩:=I2.after xu;subst ev;exact⟨rv,⟨V.ref (s.heap.objs.size+1),H',I3,rfl,q3⟩⟩
  |next=>exact False.elim xu
  |brk=>exact False.elim xu
  |cont=>exact False.elim xu
theorem rX(M:Mk X.K C f)(F:dO X.prog X.w X.K X.mg X.base CX k f fd ps sp)(hr:bH (k+1) X.A)(hg:Gl X x)(hm:X.mg x=some (.ref C))(hb:Binds X.K fd ps ds)(hd:Vals gF ds)(hx:Passes CX X E)
  (ha:PA X (e::es) t) (nQ:bZ x:=by decide) (he:starEach (e::es) X.env=(false,eval e X.env)::starEach es X.env:=by rfl) (hpl:(backTo pos (starEach es X.env)).any (·.1)=false:=by rfl) :
  PE X (.Call (.Name x p) (e::es) [] pos) (QU C sp gF E t):=by
 intro ae s σ H Q I h;refine wpAny_Call_Name_kw (j9 I hg hm ?_ nQ);refine BS (h₀:=X.base) I.ok.mod.kin M.kp (bO (ha pos ae s σ H _ I h) λus s1 ⟨vs,H1,I1,r,q⟩=>⟨I1.j7,?_⟩) he hpl;exact CZ M F hr hb hd hx I1 r q
end
section
variable{X:Cx}{CX:CU}{k:Nat}{fd:FuncData}{ps ks:Bi}{sp:Sp}{E:XK}{x m:Str}{cL aaa:Pos}{kws:List Keyword}{te ta:TE}{t tk:TA}{nm:Option Str}
variable{g:B2->B2->B2}{gV:List V->List V->List V}
end
structure h_(N P:Bi)(sc:Scope):Prop where
 kind:sc.kind=.function
 co:sc.isCoroutine=false
 gen:sc.isGenerator=false
 nd:N.Nodup
 pre:N.take P.length=P
 par:∀x∈P,sc.names.lookup x=some .local\/sc.names.lookup x=some .cell
 nofree:∀y∈sc.names,y.2≠.free
theorem qF{kindOf:Str->Option NameKind}{x:Str}:∀{binds:List (Str×Value)}{m:Str->D1},(∀v,(x,v)∉binds)->bindL kindOf binds m x=m x
 |[],_,_=>rfl
 |(n,v)::r,m,h=>by
  unfold bindL;rw[qF λw hw=>h w (eF _ hw)];split
  ·have:x≠n:=by rintro rfl;exact h v er
   simp[this]
  ·rfl
theorem qG{kindOf:Str->Option NameKind}{x:Str}:∀{binds:List (Str×Value)}{m:Str->D1},(∀v,(x,v)∉binds)->bindC kindOf binds m x=m x
 |[],_,_=>rfl
 |(n,v)::r,m,h=>by
  unfold bindC;rw[qG λw hw=>h w (eF _ hw)];split
  ·rfl
  ·have:x≠n:=by rintro rfl;exact h v er
   simp[this]
theorem qH{kindOf:Str->Option NameKind}{x:Str}{v:Value}:∀{P:Bi}{vs:B2}{i:Nat}{m:Str->D1},P.Nodup->P[i]?=some x->vs[i]?=some v->kindOf x=some .local ->
  bindL kindOf (P.zip vs) m x=some v
 |[],_,_,_,_,h,_,_=>by simp at h
 |_::_,[],_,_,_,_,h,_=>by simp at h
 |p::P,w::vs,0,m,nd,h1,h2,hk=>by
  simp at h1 h2;subst h1;subst h2;show bindL kindOf ((p,w)::P.zip vs) m p=_;unfold bindL;rw[qF λv hv=>(j4.mp nd).1 (yu hv).1,if_pos hk];simp
 |p::P,w::vs,i+1,m,nd,h1,h2,hk=>by
  show bindL kindOf ((p,w)::P.zip vs) m x=_;unfold bindL;exact qH (i:=i) (j4.mp nd).2 (by simpa using h1) (by simpa using h2) hk
theorem qI{kindOf:Str->Option NameKind}{x:Str}{v:Value}:∀{P:Bi}{vs:B2}{i:Nat}{m:Str->D1},P.Nodup->P[i]?=some x->vs[i]?=some v->kindOf x≠some .local ->
  bindC kindOf (P.zip vs) m x=some v
 |[],_,_,_,_,h,_,_=>by simp at h
 |_::_,[],_,_,_,_,h,_=>by simp at h
 |p::P,w::vs,0,m,nd,h1,h2,hk=>by
  simp at h1 h2;subst h1;subst h2;show bindC kindOf ((p,w)::P.zip vs) m p=_;unfold bindC;rw[qG λv hv=>(j4.mp nd).1 (yu hv).1,if_neg hk];simp
 |p::P,w::vs,i+1,m,nd,h1,h2,hk=>by
  show bindC kindOf ((p,w)::P.zip vs) m x=_;unfold bindC;exact qI (i:=i) (j4.mp nd).2 (by simpa using h1) (by simpa using h2) hk
def start(N:Bi)(vs:List V):St:=vs.map some++bX (N.length-vs.length) none
def qg(CX:CU)(P:Program)(w:World)(K:bu)(mg:Str->D1)(base:Heap)(N:Bi)(qual:Str)(scope:Scope)(f:Addr)(cd:Value)(A:Around)(outer:List Env)(s:Shared)(H:Hp)(E:XK):Cx where
 prog:=P
 w:=w
 K:=K
 mg:=mg
 base:=base
 A:=A.deeper (envOfC qual scope s.heap.objs.size f cd)
 N:=N
 s₀:=s
 H₀:=H
 env:=envOfC qual scope s.heap.objs.size f cd
 outer:=outer
 stack:=envOfC qual scope s.heap.objs.size f cd::outer
 ex:=[]
 calm:=true
 fn:=λ_=>true
 pn:=[]
 xe:=λe s'=>wpAny (model P w) (A.deeper (envOfC qual scope s.heap.objs.size f cd)) (leaving (envOfC qual scope s.heap.objs.size f cd) e) (λ_ QV=>CX outer H s E e QV) (λe' QV=>CX outer H s E e' QV) s'
theorem uz{sc:Scope}{n:Nat}{x:Str}(h:sc.names.lookup x=some .cell):∃c,(cellsFrom n sc.names []).lookup x=some c:=by
 have q:=JU sc.names n [] (.inl h);exact Ct.mp q
theorem AQ{CX:CU}{P:Program}{w:World}{K:bu}{mg:Str->D1}{base:Heap}{N ps:Bi}{qual:Str}{scope:Scope}{f:Addr}{cd:Value}{A:Around}{outer:List Env}{s s1:Shared}{H:Hp}{E:XK}{us:B2}{vs:List V}
  (S:h_ N ps scope) (hd:A.handled=none) (e0:xr P w K mg base A outer s H) (hl:vs.length=ps.length) (r:Vals vs us)
  (x:InCallC s s.heap.objs.size (bindL (envOfC qual scope s.heap.objs.size f cd).kindOf (ps.zip us) λ_=>none) (cellsFrom (s.heap.objs.size+1) scope.names []) (bindC (envOfC qual scope s.heap.objs.size f cd).kindOf (ps.zip us) λ_=>none) s1) :
  Inv (qg CX P w K mg base N qual scope f cd A outer s H E) [] (start N vs) H s1:=by
 have hpl:ps.length<=N.length:=by have:=congrArg wL S.pre;rw[p_]at this;omega
 obtain⟨h1,tk,rfl,hk⟩:=x.done;have QW:∀b:Addr,b∉(qg CX P w K mg base N qual scope f cd A outer s H E).ex:=λb z=>absurd (show b∈([]:BM)from z) (by simp)
 refine⟨⟨e0.mod,S.kind,rfl,rfl,dj _,λy z c h1 h2=>?_,λy hy=>?_,λy c _ h=>?_,λ_=>hd,Around.frames_deeper e0.frames,.inr ⟨rfl,rfl⟩,λb z=>absurd z (QW b),e0.bs,e0.bsz,λb _ _=>QW b,λb z=>absurd z (QW b),e0.mG,e0.frf⟩,
  rfl,e0.bare,Un.kept hk,⟨_,x.toInCall.ns,λi y v h1 h2 h3=>?_⟩,λy c h=>⟨_,x.cell y c h⟩,e0.ba.fresh (dj _),λy c h=>?_,λp hp=>absurd (show p∈([]:dm)from hp) (by simp),e0.ba.kept hk,?_⟩
 ·exact name_of_addr x.apart (PySem.mem_of_lookup h1) (PySem.mem_of_lookup h2)
 ·have hy:scope.names.lookup y=some .cell\/scope.names.lookup y=some .free:=hy
  rcases hy with hy|hy
  ·exact uz hy
  ·exact absurd rfl (S.nofree _ (PySem.mem_of_lookup hy))
 ·exact Co (x.above y c (PySem.mem_of_lookup h))
 ·have hi:i<vs.length:=by
   unfold start at h2;by_cases hi:i<vs.length
   ·exact hi
   ·rw[fQ (by simpa using hi)]at h2
    rw[BX]at h2;split at h2<;>cases h2
  have ha:vs[i]?=some v:=by
   unfold start at h2;rw[gO (by simpa using hi),eG]at h2
   cases e:vs[i]? with
   |none=>rw[e]at h2;cases h2
   |some a=>rw[e]at h2;cases h2;rfl
  obtain⟨u,hu,rv⟩:=r.get ha;have hp:ps[i]?=some y:=by
   rw[<- S.pre,List.getElem?_take_of_lt (by omega)];exact h1
  have Zv:ps.Nodup:=by rw[<- S.pre];exact S.nd.sublist (List.take_sublist _ _)
  refine⟨u,rv,?_⟩;rcases S.par y (jB hp)with k|k
  ·exact .inl ⟨k,qH Zv hp hu k⟩
  ·obtain⟨c,e⟩:=uz (n:=s.heap.objs.size+1) k
   refine .inr ⟨.inl k,c,e,?_⟩;have q:=x.cell y c e;rw[qI Zv hp hu (by show scope.names.lookup y≠_;rw[k];decide)]at q
   exact q
 ·exact e0.ba.fresh (Co (x.above y c (PySem.mem_of_lookup h)))
 ·unfold start
  show _=N.length;rw[cC,cD,rC];omega
theorem QX{CX:CU}{P:Program}{w:World}{K:bu}{mg:Str->D1}{base:Heap}{k:Nat}{f:Addr}{name qual:Str}{params:Arguments}{body:Ee}{scope:Scope}{dV kV doc pm jW ct oc:Value}{an od:Option Addr}
  {C0:Array D1} {N ps:Bi} {sp:Sp} (lk:K.lookup f=some ⟨oc,od,.func (Aw name qual params body scope dV kV doc pm an jW ct),C0⟩) (jD:BV K jW qual=true) (S:h_ N ps scope)
  (len:∀vs H Q E,sp vs H Q E->vs.length=ps.length)
  (C1:∀(A:Around)(outer:List Env)(s:Shared)(H:Hp)(vs:List V)(Q:VK)(E:XK),bH k (A.deeper (envOfC qual scope s.heap.objs.size f jW))->sp vs H Q E ->
   ∃t,j8 (qg CX P w K mg base N qual scope f jW A outer s H E) body t/\t {nx:=λ_ H'=>Q .non H',rt:=Q} (start N vs) H) :
  dO P w K mg base CX (k+1) f (Aw name qual params body scope dV kV doc pm an jW ct) ps sp:=by
 refine⟨len,λA outer s H args us vs Q E hr e0 hb r PH=>?_⟩;have hl:=len _ _ _ _ PH;have KX:K.In s.heap:=e0.mod.kin.keeps λb o e=>(e0.bs b o e).1;have lim:s.heap.NoLimit:=e0.mod.nolimit.keeps λb o e=>(e0.bs b o e).1;have QY:∀y∈ps.zip us,scope.names.lookup y.1=some .local\/(scope.names.lookup y.1=some .cell/\((cellsFrom (s.heap.objs.size+1) scope.names []).lookup y.1).isSome=true):=λ⟨n,v⟩ hy=>by
  rcases S.par n (yu hy).1 with q|q
  ·exact .inl q
  ·exact .inr ⟨q,JU _ _ _ (.inl q)⟩
 refine codeAny_call_function hr.depth (KX _ _ lk) rfl S.co S.gen rfl (PySem.W.codeRec_of KX jD) (hb _ _ _ _ ?_);refine wpAny_newFunctionEnv_cells S.kind QY λenv he s1 x=>?_;subst he;refine⟨lim.keeps x.toInCall.keep,codeAny_func ?_⟩;obtain⟨t,ht,hq⟩:=C1 A outer s H vs Q E (hr.deeper _) PH;have I:Inv (qg CX P w K mg base N qual scope f jW A outer s H E) [] (start N vs) H s1:=AQ S hr.hd e0 hl r x;refine wpAny_mono (ht [] s1 (start N vs) H _ I hq) (λfl s' hs=>?_) λe s' hs=>hs;have fin:∀{σ':St}{H':Hp}{v:V}{u:Value},Inv (qg CX P w K mg base N qual scope f jW A outer s H E) [] σ' H' s'->RelV v u->Q v H'->CE outer P w H s Q u s':=
  λ{σ' H' v u} J rv q=>⟨v,H',J.os,J.bare,J.base,J.ba,rv,q⟩
 cases fl with
 |ret u=>
  obtain⟨v,σ',H',J,rv,q⟩:=hs;exact fin J rv q
 |next=>
  obtain⟨σ',H',J,q⟩:=hs;exact fin (v:=V.non) (u:=Value.none) J rfl q
 |brk=>
  obtain⟨_,_,_,q⟩:=hs;exact False.elim q
 |cont=>
  obtain⟨_,_,_,q⟩:=hs;exact False.elim q
section
variable{X:Cx}{x:Str}{t:TA}{id T:String}{r:List V->Hp->VK->Prop}
def Wo(r:List V->Hp->VK->Prop)(t:TA):TE:=λσ H Q=>t σ H λvs H1=>r vs H1 Q
theorem gQ(hc:fm X (.builtin id) r)(hg:Gl X x)(hm:X.mg x=none)(hv:bootBuiltins x=some (.builtin id))(ha:PA X (e::es) t)(hn:x ≠ "__name__" := by decide)(nQ:bZ x:=by decide)
  (he:starEach (e::es) X.env=(false,eval e X.env)::starEach es X.env:=by rfl) (hpl:(backTo pos (starEach es X.env)).any (·.1)=false:=by rfl):PE X (.Call (.Name x p) (e::es) [] pos) (Wo r t):=by
 intro ae s σ H Q I h;refine wpAny_Call_Name_kw (fR I hg hm hv ?_ hn nQ);exact Kv (bO (ha pos ae s σ H _ I h) λus s1 ⟨vs,H1,I1,r1,q1⟩=>hc ae s1 σ H1 vs us Q I1 r1 q1) he hpl
theorem gR(hc:fm X (.type T) r)(hg:Gl X x)(hm:X.mg x=none)(hv:bootBuiltins x=some (.type T))(ha:PA X (e::es) t)(hn:x ≠ "__name__" := by decide)(nQ:bZ x:=by decide)
  (he:starEach (e::es) X.env=(false,eval e X.env)::starEach es X.env:=by rfl) (hpl:(backTo pos (starEach es X.env)).any (·.1)=false:=by rfl):PE X (.Call (.Name x p) (e::es) [] pos) (Wo r t):=by
 intro ae s σ H Q I h;refine wpAny_Call_Name_kw (fR I hg hm hv ?_ hn nQ);exact wV (bO (ha pos ae s σ H _ I h) λus s1 ⟨vs,H1,I1,r1,q1⟩=>hc ae s1 σ H1 vs us Q I1 r1 q1) he hpl
end
end L2
namespace HT
open PySem PyProof.Rows
section
open PySem.SeqAt
open PySem.AutoSeq1 (wpAny_loadPart')
open PySem.MeetsSeq PySem.MeetsSeq2 PySem.MeetsSeq3
end
section
variable{prog:Program}{w:World}{A:Around}{E:Value->Shared->Prop}{s:Shared}
def gf(n d:Nat):D2->Nat
 |none=>d
 |some v=>if v<0 then(v+(n:Int)).toNat else min v.toNat n
end
end HT
namespace L2
open PySem PySem.Spec PyProof.Rows
abbrev TO:=St->Hp->(D2->Hp->Prop)->Prop
def PO(X:Cx)(e:Option Expr)(t:TO):Prop:=
 ∀(ae:dm)(s:Shared)(σ:St)(H:Hp)(Q:D2->Hp->Prop),Inv X ae σ H s->t σ H Q ->
  wpAny (model X.prog X.w) X.A (evalPart e X.env) (λu s'=>∃o H',Inv X ae σ H' s'/\IsPart u o/\Q o H') X.xe s
def Hd:TO:=λ_ H Q=>Q none H
def QZ(t:TE):TO:=λσ H Q=>t σ H λx H1=>∃i,x=.int i/\Q (some i) H1
variable{X:Cx}
section
variable{e:Expr}{te:TE}{lo hi:Option Expr}{tl th:TO}{pos p2:Pos}
theorem Hf:PO X none Hd:=by
 intro ae s σ H Q I h;rw[evalPart_none];exact wpAny_pure ⟨none,H,I,.none,h⟩
theorem Hg(h:PE X e te):PO X (some e) (QZ te):=by
 intro ae s σ H Q I hw;rw[evalPart_some];refine bO (h ae s σ H _ I hw) λu s1 zz=>?_;obtain⟨x,H1,I1,r1,q1⟩:=zz;obtain⟨i,rfl,q⟩:=q1;obtain⟨t,rfl⟩:=r1;exact⟨some i,H1,I1,.int i t,q⟩
def KP(X:Cx)(r:V->D2->D2->Hp->VK->Prop):Prop:=
 ∀(ae:dm)(s:Shared)(σ:St)(H:Hp)(x:V)(v vl vu:Value)(lo hi:D2)(sl:Addr)(Q:VK),Inv X ae σ H s->RelV x v->s.heap.IsSliceOf sl vl vu .none->IsPart vl lo->IsPart vu hi->r x lo hi H Q ->
  ∃T id,typeLookup (.type T) "__getitem__" = pure (some (.builtin id))/\s.TypeIs v T/\wpAny (model X.prog X.w) X.A (getItem v (.ref sl)) (EP X ae σ Q) X.xe s
theorem KP.or{r r':V->D2->D2->Hp->VK->Prop}(h:KP X r)(h':KP X r'):KP X (λx lo hi H Q=>r x lo hi H Q\/r' x lo hi H Q):=by
 intro ae s σ H x v vl vu lo hi sl Q I rx hs pl pu q;rcases q with q|q
 ·exact h ae s σ H x v vl vu lo hi sl Q I rx hs pl pu q
 ·exact h' ae s σ H x v vl vu lo hi sl Q I rx hs pl pu q
def tSl(r:V->D2->D2->Hp->VK->Prop)(te:TE)(tl th:TO):TE:=λσ H Q=>te σ H λx H1=>tl σ H1 λl H2=>th σ H2 λu H3=>r x l u H3 Q
theorem C2{r:V->D2->D2->Hp->VK->Prop}(hr:KP X r)(he:PE X e te)(hl:PO X lo tl)(hu:PO X hi th):PE X (.Subscript e (.Slice lo hi none p2) pos) (tSl r te tl th):=by
 intro ae s σ H Q I h;refine Subscript_ (bO (he ae s σ H _ I h) λv s1 zz=>?_);obtain⟨x,H1,I1,r1,q1⟩:=zz;refine wpAny_Slice (bO (hl ae s1 σ H1 _ I1 q1) λvl s2 ⟨l,H2,I2,pl,q2⟩=>bO (hu ae s2 σ H2 _ I2 q2) λvu s3 zz=>?_);obtain⟨u,H3,I3,pu,q3⟩:=zz;rw[evalPart_none];refine wpAny_pure ?_;have I4:Inv X ae σ H3 {s3 with heap:=s3.heap.push {cls:=.type "slice",data:=.fields #[vl,vu,.none]}}:=I3.kept (t':=s3.toks) λb ob q=>Heap.get?_push_of_some _ q
 obtain⟨T,id,hT,ht,hg⟩:=hr ae {s3 with heap:=s3.heap.push {cls:=.type "slice",data:=.fields #[vl,vu,.none]}} σ H3 x v vl vu l u s3.heap.objs.size Q I4 r1 (Heap.IsSliceOf.new ..) pl pu q3
 show wpAny (model X.prog X.w) X.A (subscriptTail e (.Slice lo hi none p2) v (.ref s3.heap.objs.size)) (EP X ae σ Q) X.xe {s3 with heap:=s3.heap.push {cls:=.type "slice",data:=.fields #[vl,vu,.none]}}
 exact tail_any (ops:=[.ref s3.heap.objs.size,v]) ht hT hg (by with_unfolding_all rfl)
def AR(xs:List V)(lo hi:D2):List V:=(xs.drop (HT.gf xs.length 0 lo)).take (HT.gf xs.length xs.length hi-HT.gf xs.length 0 lo)
theorem uA(xs:List V)(lo hi:D2):(AR xs lo hi).length<=xs.length:=by
 unfold AR;rw[p_,mC];omega
end
def Hh(n:Nat)(i:Int):Option Nat:=if 0<=i then(if i<n then some i.toNat else none)else if -(n:Int)<=i then some (i+n).toNat else none
def C3{α:Type}(xs:List α)(i:Int):Option α:=(Hh xs.length i).bind λj=>xs[j]?
theorem yT{n:Nat}{i:Int}{j:Nat}(h:Hh n i=some j):seqIndex? i n=some j/\j<n/\-(n:Int)<=i/\i<n:=by
 unfold Hh at h;by_cases h0:0<=i
 ·rw[if_pos h0]at h
  by_cases h1:i<n
  ·rw[if_pos h1]at h
   have e:i.toNat=j:=ly.inj h;exact⟨by rw[seqIndex_of h0 h1,e],by omega,by omega,h1⟩
  ·rw[if_neg h1]at h;cases h
 ·rw[if_neg h0]at h
  by_cases h1:-(n:Int)<=i
  ·rw[if_pos h1]at h
   have e:(i+n).toNat=j:=ly.inj h;exact⟨by rw[seqIndex_neg (by omega) h1,e],by omega,h1,by omega⟩
  ·rw[if_neg h1]at h;cases h
theorem rY{α:Type}{xs:List α}{i:Int}{v:α}(h:C3 xs i=some v):∃j,seqIndex? i xs.length=some j/\xs[j]?=some v/\j<xs.length/\-(xs.length:Int)<=i/\i<xs.length:=by
 unfold C3 at h;cases e:Hh xs.length i with
 |none=>rw[e]at h;cases h
 |some j=>
  rw[e]at h;obtain⟨h1,h2,h3,h4⟩:=yT e;exact⟨j,h1,h,h2,h3,h4⟩
def ji(b:Expr):Prop:=∀o i,subscripted b false o i=operate [o,i] (getItem o i)
def Hi(X:Cx)(r:R2):Prop:=
 ∀(value slice:Expr)(ae:dm)(s:Shared)(σ:St)(H:Hp)(x y:V)(v u:Value)(Q:VK),Inv X ae σ H s->RelV x v->RelV y u->r x y H Q ->
  subscripted slice false v u=operate [v,u] (getItem v u)->wpAny (model X.prog X.w) X.A (subscriptTail value slice v u) (EP X ae σ Q) X.xe s
def AS(X:Cx)(id:String)(r:V->List V->Hp->VK->Prop):Prop:=
 ∀(ae:dm)(s:Shared)(σ:St)(H:Hp)(x:V)(xs:List V)(v:Value)(us:B2)(Q:VK),Inv X ae σ H s->RelV x v->Vals xs us->r x xs H Q ->
  wpAny (model X.prog X.w) X.A (call (.builtin id) (v::us)) (EP X ae σ Q) X.xe s
section
variable{a b:Expr}{ta tb:TE}{pos:Pos}
theorem Hi.or{r r':R2}(h:Hi X r)(h':Hi X r'):Hi X (λx y H Q=>r x y H Q\/r' x y H Q):=by
 intro value slice ae s σ H x y v u Q I rx ry q hs;rcases q with q|q
 ·exact h value slice ae s σ H x y v u Q I rx ry q hs
 ·exact h' value slice ae s σ H x y v u Q I rx ry q hs
theorem KQ{r:R2}(hr:Hi X r)(ha:PE X a ta)(hb:PE X b tb)(hs:ji b):PE X (.Subscript a b pos) (CL r ta tb):=by
 intro ae s σ H Q I h;exact Subscript_ (Mr ha hb I h λv u s2 x y H2 I2 rx ry q=>hr a b ae s2 σ H2 x y v u Q I2 rx ry q (hs _ _))
def Q0(K:bu):R2:=λx y H Q=>∃p xs i v,x=.ref p/\y=.int i/\df K H p xs/\C3 xs i=some v/\Q v H
def Q2(K:bu):R2:=λx y H Q=>∃p xs i v,x=.ref p/\y=.int i/\lV K H p xs/\C3 xs i=some v/\Q v H
def Q3:R2:=λx y H Q=>∃z i c,x=.str z/\y=.int i/\z.length<=sizeLine/\C3 z.cps.toList i=some c/\Q (.str ⟨#[c]⟩) H
theorem yU:Hi X (Q0 X.K):=by
 intro value slice ae s σ H x y v u Q I rx ry h hs;obtain⟨p,xs,i,z,rfl,rfl,hq,he,q⟩:=h;cases rx;obtain⟨t,rfl⟩:=ry;obtain⟨its,r,pl,hz⟩:=I.list hq;obtain⟨j,h1,h2,h3,h4,h5⟩:=rY he;obtain⟨w,ew,xw⟩:=r.get h2;have hl:=r.length;have hn:=lA;have fin:EP X ae σ Q w s:=⟨z,H,I,xw,q⟩;by_cases h0:0<=i
 ·have hj:i.toNat=j:=by
   rw[seqIndex_of h0 h5]at h1;exact ly.inj h1
  exact item_listR pl.isList h0 (by omega) (by rw[hj];simpa using ew) fin hs
 ·have hj:(i+(its.toArray.size:Int)).toNat=j:=by
   rw[seqIndex_neg (by omega) h4]at h1
   rw[b_,<- hl];exact ly.inj h1
  exact subscriptTail_builtinR (x:=w) pl.isList.typeIs slot_list_getitem.lookup
   (wpAny_getItem_list_neg (Q:=λr s'=>r=w/\EP X ae σ Q r s') pl.isList (by omega) (by rw[b_]<;>omega) (by omega) (by rw[hj];simpa using ew) ⟨rfl,fin⟩) hs
theorem MC:Hi X (Q2 X.K):=by
 intro value slice ae s σ H x y v u Q I rx ry h hs;obtain⟨p,xs,i,z,rfl,rfl,hq,he,q⟩:=h;cases rx;obtain⟨t,rfl⟩:=ry;obtain⟨its,r,pl,hz⟩:=I.tuple hq;obtain⟨j,h1,h2,h3,h4,h5⟩:=rY he;obtain⟨w,ew,xw⟩:=r.get h2;have hl:=r.length;have hn:=lA;have fin:EP X ae σ Q w s:=⟨z,H,I,xw,q⟩;exact subscriptTail_builtinR (x:=w) pl.typeIs slot_tuple_getitem.lookup
  (getItem_tuple (j:=j) (Q:=λr s'=>r=w/\EP X ae σ Q r s') pl (by omega) (by omega) (by rw[b_,<- hl];exact h1) (by simpa using ew) ⟨rfl,fin⟩) hs
theorem MD:Hi X Q3:=by
 intro value slice ae s σ H x y v u Q I rx ry h hs;obtain⟨z,i,c,rfl,rfl,hz,he,q⟩:=h;obtain⟨t,rfl⟩:=rx;obtain⟨t',rfl⟩:=ry;obtain⟨j,h1,h2,h3,h4,h5⟩:=rY he;have hl:z.cps.toList.length=z.length:=by simp[Str.length]
 rw[hl]at h1 h4 h5;have hn:=lA;exact tail_any (typeIs_str s z t) slot_str_getitem.lookup (getItem_str (c:=c) (by
  have e1:decide (i < -(2^63:Int))=false:=decide_eq_false (by omega)
  have e2:decide (i ≥ 2^63)=false:=decide_eq_false (by omega)
  rw[e1,e2,Kh]) (by rw[h1];simpa using h2) ⟨.str ⟨#[c]⟩,H,I.tok _,⟨_,rfl⟩,q⟩) hs
def Zw(K:bu):R2:=λx y H Q=>Q0 K x y H Q\/Q2 K x y H Q\/Q3 x y H Q
theorem ME:Hi X (Zw X.K):=yU.or (MC.or MD)
theorem xx(its:B2)(n j:Nat)(u:Value):Obj.mapSeq (·.setIfInBounds j u) {cls:=.type "list",data:=.seq its.toArray n}={cls:=.type "list",data:=.seq (its.set j u).toArray n}:=by
 simp[Obj.mapSeq]
theorem Inv.lst{ae:dm}{σ:St}{H:Hp}{s:Shared}{p:Addr}{xs:List V}(I:Inv X ae σ H s)(h:H p=some (.lst xs)) :
  ∃(its:B2)(n:Nat),Vals xs its/\s.heap.get? p=some {cls:=.type "list",data:=.seq its.toArray n}/\xs.length<=sizeLine:=by
 obtain⟨z,its,n,r,e⟩:=I.ba p _ h;exact⟨its,n,r,e,z⟩
theorem Inv.MF{ae:dm}{σ:St}{H:Hp}{s:Shared}{p:Addr}{xs ys:List V}{its its':B2}{n n':Nat}{f:Obj->Obj}(I:Inv X ae σ H s)(h:H p=some (.lst xs))
  (ho:s.heap.get? p=some {cls:=.type "list",data:=.seq its.toArray n}) (hf:f {cls:=.type "list",data:=.seq its.toArray n}={cls:=.type "list",data:=.seq its'.toArray n'}) (r:Vals ys its') (hz:ys.length<=sizeLine) (t:Nat) :
  Inv X ae σ (upd H p (.lst ys)) {s with heap:=s.heap.update p f,toks:=t}:=by
 have e:(s.heap.update p f).get? p=some {cls:=.type "list",data:=.seq its'.toArray n'}:=by
  rw[Heap.get?_update_self f ho (by rw[hf]<;>rfl),hf]
 refine I.write (x:=p) (e:=p) (by rw[h];trivial) (.inl rfl) (λb u hb q=>(Heap.get?_update_other _ _ (Ne.symm hb)).trans q) ⟨_,e⟩ ?_
 exact⟨hz,its',n',r,e⟩
def Q4:V->V->V->Hp->(Hp->Prop)->Prop:=λo i v H Q=>∃p xs k j,o=.ref p/\i=.int k/\H p=some (.lst xs)/\Hh xs.length k=some j/\Q (upd H p (.lst (xs.set j v)))
theorem set_list:Qt X Q4:=by
 intro ae s σ H o i v ov iv u Q I ro ri rv h;obtain⟨p,xs,k,j,rfl,rfl,hp,hj,q⟩:=h;cases ro;obtain⟨t,rfl⟩:=ri;obtain⟨its,n,r,ho,hz⟩:=I.lst hp;obtain⟨h1,h2,h3,h4⟩:=yT hj;have hl:=r.length;have hn:=lA;have I':Inv X ae σ (upd H p (.lst (xs.set j v))) {s with heap:=s.heap.update p (Obj.mapSeq (·.setIfInBounds j u))}:=
  I.MF hp ho (xx its n j u) (r.set rv j) (by rw[eW];exact hz) s.toks
 by_cases h0:0<=k
 ·have hk:k.toNat=j:=by
   rw[seqIndex_of h0 h4]at h1;exact ly.inj h1
  exact PySem.W.ki_setAt ho h0 (by omega) (by rw[b_,<- hl];exact h4) (by rw[hk];exact⟨_,I',q⟩)
 ·have hk:(k+(its.toArray.size:Int)).toNat=j:=by
   rw[seqIndex_neg (by omega) h3]at h1
   rw[b_,<- hl];exact ly.inj h1
  exact PySem.W.ki_setBack ho (by omega) (by rw[b_,<- hl];exact h3) (by omega) (by rw[hk];exact⟨_,I',q⟩)
theorem rZ(lo hi:D2)(n:Nat):(sliceBounds lo hi none n).1=((HT.gf n 0 lo:Nat):Int)/\(sliceBounds lo hi none n).2.1=((HT.gf n n hi:Nat):Int)/\(sliceBounds lo hi none n).2.2=1:=by
 refine⟨?_,?_,rfl⟩
 ·cases lo with
  |none=>simp[sliceBounds,HT.gf]
  |some i=>
   simp only[sliceBounds,HT.gf,Ks,show(1:Int) > 0 by decide,if_true]
   by_cases h:i<0
   ·simp only[h,if_true]<;>omega
   ·simp only[h,if_false]<;>omega
 ·cases hi with
  |none=>simp[sliceBounds,HT.gf]
  |some i=>
   simp only[sliceBounds,HT.gf,Ks,show(1:Int) > 0 by decide,if_true]
   by_cases h:i<0
   ·simp only[h,if_true]<;>omega
   ·simp only[h,if_false]<;>omega
theorem qh(its:B2)(lo hi:D2):slicePick its.toArray lo hi none=((its.drop (HT.gf its.length 0 lo)).take (HT.gf its.length its.length hi-HT.gf its.length 0 lo)).toArray:=by
 obtain⟨h1,h2,h3⟩:=rZ lo hi its.toArray.size;unfold slicePick;rw[h1,h2,h3];simp only[sliceRange_one,pick_run,b_]<;>rfl
def Q5(K:bu):V->D2->D2->Hp->VK->Prop:=λx lo hi H Q=>∃a xs,x=.ref a/\df K H a xs/\∀p,H p=none->Q (.ref p) (upd H p (.lst (AR xs lo hi)))
theorem Hj:KP X (Q5 X.K):=by
 intro ae s σ H x v vl vu lo hi sl Q I rx hs pl pu h;obtain⟨a,xs,rfl,hx,q⟩:=h;cases rx;obtain⟨its,r,ht,hz⟩:=I.list hx;have ck:=r.length;refine⟨"list",_,slot_list_getitem.lookup,ht.isList.typeIs,?_⟩;refine wpAny_getItem_list_slice ht.isList hs pl pu .none (by simp) ?_ (by rw[b_]<;>omega)
 rw[qh,<- ck];refine⟨.ref s.heap.objs.size,_,I.laid (t':=s.toks) (o:=.lst (AR xs lo hi)) (λb ob q=>Heap.get?_push_of_some _ q) (dj _) ?_,rfl,q _ (I.ba.fresh (dj _))⟩;exact⟨gP (uA xs lo hi) hz,_,0,(r.drop (HT.gf xs.length 0 lo)).take (HT.gf xs.length xs.length hi-HT.gf xs.length 0 lo),Heap.get?_push_size _ rfl⟩
def eE:V->Bool
 |.non=>true
 |.bl _=>true
 |.int _=>true
 |.str _=>true
 |_=>false
def C4:V->V->Bool
 |.non,.non=>true
 |.bl a,.bl b=>a == b
 |.bl a,.int b=>(if a then 1 else 0) == b
 |.int a,.bl b=>a == (if b then 1 else 0)
 |.int a,.int b=>a == b
 |.str a,.str b=>a == b
 |_,_=>false
theorem xy{A:Around}{s:Shared}{y x:V}{u v:Value}(ry:RelV y u)(rx:RelV x v)(fy:eE y=true)(fx:eE x=true):SeqAt.EqAt A s u v (C4 y x):=by
 cases y with
 |non=>
  cases ry;cases x with
  |non=>cases rx;exact SeqAt.EqAt.same _
  |bl b=>cases rx;exact SeqAt.EqAt.none_bool b
  |int b=>obtain⟨t,rfl⟩:=rx;exact SeqAt.EqAt.none_int b t
  |str b=>obtain⟨t,rfl⟩:=rx;exact SeqAt.EqAt.none_str b t
  |_=>exact absurd (show false=true from fx) dC
 |bl a=>
  cases ry;cases x with
  |non=>cases rx;exact SeqAt.EqAt.bool_none a
  |bl b=>cases rx;exact SeqAt.EqAt.bool_bool a b
  |int b=>obtain⟨t,rfl⟩:=rx;exact SeqAt.EqAt.bool_int a b t
  |str b=>obtain⟨t,rfl⟩:=rx;exact SeqAt.EqAt.bool_str a b t
  |_=>exact absurd (show false=true from fx) dC
 |int a=>
  obtain⟨t',rfl⟩:=ry;cases x with
  |non=>cases rx;exact SeqAt.EqAt.int_none a t'
  |bl b=>cases rx;exact SeqAt.EqAt.int_bool a t' b
  |int b=>obtain⟨t,rfl⟩:=rx;exact SeqAt.EqAt.int_int a t' b t
  |str b=>obtain⟨t,rfl⟩:=rx;exact SeqAt.EqAt.int_str a t' b t
  |_=>exact absurd (show false=true from fx) dC
 |str a=>
  obtain⟨t',rfl⟩:=ry;cases x with
  |non=>cases rx;exact SeqAt.EqAt.str_none a t'
  |bl b=>cases rx;exact SeqAt.EqAt.str_bool a t' b
  |int b=>obtain⟨t,rfl⟩:=rx;exact SeqAt.EqAt.str_int a t' b t
  |str b=>obtain⟨t,rfl⟩:=rx;exact SeqAt.EqAt.str_str a t' b t
  |_=>exact absurd (show false=true from fx) dC
 |_=>exact absurd (show false=true from fy) dC
def xA(x:V)(u:Value):Bool:=match u with
 |.none=>C4 .non x
 |.bool b=>C4 (.bl b) x
 |.int i _=>C4 (.int i) x
 |.str z _=>C4 (.str z) x
 |_=>false
theorem C5{x y:V}{u:Value}(r:RelV y u)(f:eE y=true):xA x u=C4 y x:=by
 cases y with
 |non=>cases r;rfl
 |bl b=>cases r;rfl
 |int i=>obtain⟨t,rfl⟩:=r;rfl
 |str z=>obtain⟨t,rfl⟩:=r;rfl
 |_=>exact absurd (show false=true from f) dC
theorem ki{x:V}:∀{xs:List V}{us:B2},Vals xs us->xs.all eE=true->us.any (xA x)=xs.any λy=>C4 y x
 |_,_,.nil,_=>rfl
 |y::xs,u::us,.cons r t,f=>by
  rw[fF,dc]at f;rw[nB,nB,C5 r f.1,ki t f.2]
theorem iV{A:Around}{s:Shared}{x:V}{v:Value}(rx:RelV x v)(fx:eE x=true):∀{xs:List V}{us:B2},Vals xs us->xs.all eE=true->∀u∈us,SeqAt.EqAt A s u v (xA x u)
 |_,_,.nil,_=>λu hu=>by cases hu
 |y::xs,u::us,.cons r t,f=>λu' hu=>by
  rw[fF,dc]at f;rcases bA.mp hu with rfl|hu
  ·rw[C5 r f.1];exact xy r rx f.1 fx
  ·exact iV rx fx t f.2 u' hu
def Wq(x:V)(xs:List V):Bool:=xs.any λy=>C4 y x
def Vq(K:bu)(neg:Bool):R2:=λx y H Q=>∃p xs,y=.ref p/\(df K H p xs\/lV K H p xs)/\eE x=true/\xs.all eE=true/\Q (.bl (if neg then !Wq x xs else Wq x xs)) H
theorem AU:gi X (compareOp .In) (Vq X.K false):=by
 intro ae s σ H x y v u Q I rx ry h;obtain⟨p,xs,rfl,hq,fx,fs,q⟩:=h;cases ry;rcases hq with hq|hq
 ·obtain⟨its,r,pl,hz⟩:=I.list hq
  refine SeqAt.in_listAt (xA x) pl.isList (λw hw=>iV rx fx r fs w (by simpa using hw)) ⟨.bl _,H,I,rfl,?_⟩
  rw[show its.toArray.any (xA x)=its.any (xA x) by simp,ki r fs]
  exact q
 ·obtain⟨its,r,pl,hz⟩:=I.tuple hq
  refine SeqAt.in_tupleAt (xA x) pl (λw hw=>iV rx fx r fs w (by simpa using hw)) ⟨.bl _,H,I,rfl,?_⟩
  rw[show its.toArray.any (xA x)=its.any (xA x) by simp,ki r fs]
  exact q
theorem r6:gi X (compareOp .NotIn) (Vq X.K true):=by
 intro ae s σ H x y v u Q I rx ry h;obtain⟨p,xs,rfl,hq,fx,fs,q⟩:=h;cases ry;rcases hq with hq|hq
 ·obtain⟨its,r,pl,hz⟩:=I.list hq
  refine SeqAt.notIn_listAt (xA x) pl.isList (λw hw=>iV rx fx r fs w (by simpa using hw)) ⟨.bl _,H,I,rfl,?_⟩
  rw[show its.toArray.any (xA x)=its.any (xA x) by simp,ki r fs]
  exact q
 ·obtain⟨its,r,pl,hz⟩:=I.tuple hq
  refine SeqAt.notIn_tupleAt (xA x) pl (λw hw=>iV rx fx r fs w (by simpa using hw)) ⟨.bl _,H,I,rfl,?_⟩
  rw[show its.toArray.any (xA x)=its.any (xA x) by simp,ki r fs]
  exact q
theorem ia:fm X (.type "list") (λxs H Q=>∃p ys,xs=[.ref p]/\(df X.K H p ys\/lV X.K H p ys)/\∀l,H l=none->Q (.ref l) (upd H l (.lst ys))):=by
 intro ae s σ H xs us Q I r h;obtain⟨p,ys,rfl,hq,q⟩:=h;obtain⟨u,rfl,rx⟩:=vals1 r;cases rx;have fin:∀(its:B2),Vals ys its->ys.length<=sizeLine->∀(h':Heap)(c':Nat),(∀b o',s.heap.get? b=some o'->h'.get? b=some o') ->
   h'.get? s.heap.objs.size=some {cls:=.type "list",dict:=none,data:=.seq its.toArray c',slots:=#[]}->EP X ae σ Q (.ref s.heap.objs.size) {s with heap:=h'}:=λits r' hz h' c' kp e=>
  ⟨.ref s.heap.objs.size,_,I.laid (t':=s.toks) kp (dj _) (show b7 X.prog X.w _ h' _ (.lst ys)from⟨hz,its,c',r',e⟩),rfl,q _ (I.ba.fresh (dj _))⟩
 rcases hq with hq|hq
 ·obtain⟨its,r',pl,hz⟩:=I.list hq
  have ck:=r'.length;obtain⟨o,ho,hc,n,hd⟩:=pl.isList;exact call_list_seq p (.inl rfl) ho hc hd (λh' c' kp e=>fin its r' hz h' c' kp e) (by simp only[b_]<;>omega)
 ·obtain⟨its,r',pl,hz⟩:=I.tuple hq
  have ck:=r'.length;obtain⟨o,ho,hc,n,hd⟩:=pl;exact call_list_seq p (.inr rfl) ho hc hd (λh' c' kp e=>fin its r' hz h' c' kp e) (by simp only[b_]<;>omega)
def Zx(K:bu)(T:String)(x:V)(H:Hp):Prop:=match x with
 |.str _=>T = "str"
 |.int _=>T = "int"
 |.ref p=>(T = "list" /\ ∃xs,df K H p xs)\/(T = "tuple" /\ ∃o,K.lookup p=some o/\o.cls=.type "tuple" /\ o.dict=none) \/
   (T = "dict" /\ ((∃aF,H p=some (.dK aF))\/∃aF,H p=some (.dT aF)))\/(T = "set" /\ ∃S n,H p=some (.set S n))
 |_=>False
theorem MG{ae:dm}{σ:St}{H:Hp}{s:Shared}{T:String}{x:V}{v:Value}(I:Inv X ae σ H s)(r:RelV x v)(ty:Zx X.K T x H) :
  s.TypeIs v T/\∀a,v=.ref a->∃ob,s.heap.get? a=some ob/\ob.dict=none:=by
 cases x with
 |str z=>
  obtain⟨t,rfl⟩:=r;cases(show T = "str"from ty);exact⟨typeIs_str s z t,λ_ e=>nomatch e⟩
 |int i=>
  obtain⟨t,rfl⟩:=r;cases(show T = "int"from ty);exact⟨typeIs_int s i t,λ_ e=>nomatch e⟩
 |ref p=>
  cases r;rcases ty with⟨rfl,xs,hq⟩|⟨rfl,o,hk,hc,hd⟩|⟨rfl,hk⟩|⟨rfl,S,n,hk⟩
  ·obtain⟨its,_,pl,_⟩:=I.list hq
   refine⟨pl.isList.typeIs,λa e=>?_⟩;cases e;obtain⟨o,n,e,c,hd,_⟩:=pl;exact⟨o,e,hd⟩
  ·refine⟨⟨o,I.j7 p o hk,hc⟩,λa e=>?_⟩
   cases e;exact⟨o,I.j7 _ o hk,hd⟩
  ·have z:∃o,s.heap.get? p=some o/\o.ExactDict:=by
    rcases hk with⟨aF,hk⟩|⟨aF,hk⟩
    ·obtain⟨_,_,_,_,o,_,_,e,ex,_⟩:=I.ba p _ hk
     exact⟨o,e,ex⟩
    ·obtain⟨_,_,_,_,o,_,_,e,ex,_⟩:=I.ba p _ hk
     exact⟨o,e,ex⟩
   obtain⟨o,e,ex⟩:=z;refine⟨⟨o,e,ex.1⟩,λa e2=>?_⟩;cases e2;exact⟨o,e,ex.2.1⟩
  ·obtain⟨o,_,_,_,e,ex,_⟩:=I.ba p _ hk
   refine⟨⟨o,e,ex.1⟩,λa e2=>?_⟩;cases e2;exact⟨o,e,ex.2.1⟩
 |_=>exact False.elim ty
def Zy(K:bu)(T:String)(r:V->List V->Hp->VK->Prop)(to:TE)(t:TA):TE:=λσ H Q=>to σ H λx H1=>Zx K T x H1/\t σ H1 λxs H2=>r x xs H2 Q
variable{o e:Expr}{es:Bz}{to:TE}{t:TA}{name:Str}{cL dq:Pos}{T id:String}{r:V->List V->Hp->VK->Prop}
theorem C6(pa:PlainAttrs T)(slot:Slot T name id)(Wr:typeOf (.builtin id)=pure (.type "method_descriptor"))(hm:AS X id r)(ho:PE X o to)(ha:PA X (e::es) t)
  (Q6:attributeBase o name X.env (eval o X.env)=eval o X.env:=by rfl)
  (Ws:((backTo dq (starEach (e::es) X.env)).all (λx=>!x.1)&&(backToKw dq (keywordEach [] X.env)).all (λx=>x.1.isSome)
   && decide ((e::es).length+([]:List Keyword).length+(if([]:List Keyword).isEmpty then 0 else 1)<30))=true:=by rfl)
  (nR:(cL.endLine == dq.line)=true:=by rfl) (hs:starEach (e::es) X.env=(false,eval e X.env)::starEach es X.env:=by rfl) (MH:(backTo dq (starEach es X.env)).any (·.1)=false:=by rfl) :
  PE X (.Call (.Attribute o name cL) (e::es) [] dq) (Zy X.K T r to t):=by
 intro ae s σ H Q I h;refine wpAny_Call_method_late Q6 Ws nR rfl (bO (ho ae s σ H _ I h) λv s1 zz=>?_);obtain⟨x,H1,I1,r1,ty,q1⟩:=zz;obtain⟨h1,h2⟩:=MG I1 r1 ty;refine⟨T,id,pa,slot,Wr,h1,h2,?_⟩;have hA:=ha dq ae s1 σ H1 _ I1 q1;rw[hs]at hA ⊢;refine Calls.callWith_builtin (by show(false ||(backTo dq (starEach es X.env)).any (·.1))=false;rw[MH]<;>rfl) (Calls.evalArgs_plain ?_)
 exact bO hA λus s2 ⟨vs,H2,I2,r2,q2⟩=>hm ae s2 σ H2 x vs v us Q I2 r1 r2 q2
end
def MtM(X:Cx)(id:String)(r:V->List V->Hp->VK->Prop):Prop:=
 ∀(ae:dm)(s:Shared)(σ:St)(H:Hp)(x:V)(xs:List V)(v:Value)(us:B2)(Q:VK),Inv X ae σ H s->RelV x v->Vals xs us->r x xs H Q ->
  wpAny (model X.prog X.w) X.A (call (.builtin id) (v::us)) (EP X ae σ Q) X.xe s
theorem Vals.one:∀{x:V}{us:B2},Vals [x] us->∃u,us=[u]/\RelV x u
 |_,_,.cons r .nil=>⟨_,rfl,r⟩
theorem Vals.two:∀{x y:V}{us:B2},Vals [x,y] us->∃u v,us=[u,v]/\RelV x u/\RelV y v
 |_,_,_,.cons r (.cons q .nil)=>⟨_,_,rfl,r,q⟩
theorem Vals.rep{xs:List V}{us:B2}(h:Vals xs us):∀k:Nat,Vals (bX k xs).flatten (bX k us).flatten
 |0=>.nil
 |k+1=>by
  rw[rD,rD,wM,wM];exact Vals.append h (Vals.rep h k)
theorem foldl_rep(its:B2):∀(k:Nat)(c8:B2),
  B6 (λx1 x2=>x1++x2) c8.toArray (bX k its.toArray)=(c8++(bX k its).flatten).toArray
 |0,c8=>by simp
 |k+1,c8=>by
  have e:c8.toArray++its.toArray=(c8++its).toArray:=by simp
  have e2:(c8++its)++(bX k its).flatten=c8++(bX (k+1) its).flatten:=by
   rw[rD,wM,dN]
  rw[<- e2,<- foldl_rep its k (c8++its),<- e,rD,B7]
section
variable{ae:dm}{σ:St}{H:Hp}{s:Shared}{l b:Addr}{xs ys zs:List V}
theorem Inv.Wt{its its':B2}{n:Nat}{f:Array Value->Array Value}{t':Nat}(I:Inv X ae σ H s)(hH:H l=some (.lst xs))
  (e:s.heap.get? l=some {cls:=.type "list",data:=.seq its.toArray n}) (hf:f its.toArray=its'.toArray) (hv:Vals ys its') (hz:ys.length<=sizeLine) :
  Inv X ae σ (upd H l (.lst ys)) {s with heap:=s.heap.update l (Obj.mapSeq f),toks:=t'}:=by
 have q:=PySem.IsL.update e f;rw[hf]at q;refine I.write (x:=l) (e:=l) (by rw[hH];exact trivial) (.inl rfl) (λb' u hb hu=>(Heap.get?_update_other s.heap (Obj.mapSeq f) (Ne.symm hb)).trans hu) ⟨_,q⟩ ?_
 exact⟨hz,its',_,hv,q⟩
theorem Inv.AV{its:B2}{t':Nat}(I:Inv X ae σ H s)(hv:Vals ys its)(hz:ys.length<=sizeLine) :
  Inv X ae σ (upd H s.heap.objs.size (.lst ys)) {s with heap:=s.heap.push {cls:=.type "list",data:=.seq its.toArray},toks:=t'}:=
 I.laid (λ_ _ q=>Heap.get?_push_of_some _ q) (dj _) ⟨hz,its,0,hv,Heap.get?_push_size _ rfl⟩
theorem Inv.fresh(I:Inv X ae σ H s):H s.heap.objs.size=none:=I.ba.fresh (dj _)
theorem Inv.Hk(I:Inv X ae σ H s)(hH:H l=some (.lst xs)):xs.length<=sizeLine/\∃(its:B2)(n:Nat),Vals xs its/\xs.length=its.length/\s.heap.get? l=some {cls:=.type "list",data:=.seq its.toArray n}:=by
 obtain⟨z,its,n,r,e⟩:=I.ba l _ hH;exact⟨z,its,n,r,r.length,e⟩
theorem C7{n:Nat}(h:n<=sizeLine):Builtin.List.listTooLong n=false:=by
 unfold Builtin.List.listTooLong;exact decide_eq_false (by omega)
end
section
def Hl:V->List V->Hp->VK->Prop:=λx vs H Q=>∃l xs y,x=.ref l/\vs=[y]/\H l=some (.lst xs)/\xs.length<sizeLine/\Q .non (upd H l (.lst (xs++[y])))
theorem lC:MtM X "list.append" Hl:=by
 intro ae s σ H x vs v us Q I rx rv h;obtain⟨l,xs,y,rfl,rfl,hH,hz,q⟩:=h;cases rx;obtain⟨u,rfl,ru⟩:=rv.one;obtain⟨z,its,n,r,hl,e⟩:=I.Hk hH;refine call_meets F.slot_list_append ⟨_,e,rfl⟩ F.entry_list_append (F.args_list_append_2 _ _) (PySem.list_append l its.toArray n u (by rw[b_];omega)) ⟨e,?_⟩
 refine⟨.non,_,I.Wt (its':=its++[u]) hH e (by simp) (r.append (.cons ru .nil)) ?_,rfl,q⟩
 rw[cC,BY];omega
def Q7:R2:=λx y H Q=>∃l b xs zs,x=.ref l/\y=.ref b/\H l=some (.lst xs)/\H b=some (.lst zs)/\xs.length+zs.length<=sizeLine/\∀p,H p=none->Q (.ref p) (upd H p (.lst (xs++zs)))
theorem C8:gi X (binaryOp .Add) Q7:=by
 intro ae s σ H x y v u Q I rx ry h;obtain⟨l,b,xs,zs,rfl,rfl,hH,hB,hz,q⟩:=h;cases rx;cases ry;obtain⟨z,its,n,r,hl,e⟩:=I.Hk hH;obtain⟨z2,Q8,n2,r2,PJ,e2⟩:=I.Hk hB;refine PySem.P.add_list e e2 ?_ (by rw[b_,b_];omega)
 have ea:its.toArray++Q8.toArray=(its++Q8).toArray:=by simp
 rw[ea];exact⟨.ref _,_,I.AV (t':=s.toks) (r.append r2) (by rw[cC];omega),rfl,q _ I.fresh⟩
def Q9:R2:=λx y H Q=>∃l k xs,x=.ref l/\y=.int k/\H l=some (.lst xs)/\-(2^63)<=k/\k<2^63/\xs.length*k.toNat<=sizeLine /\
 ∀p,H p=none->Q (.ref p) (upd H p (.lst (bX k.toNat xs).flatten))
theorem len_rep{α:Type}(xs:List α)(k:Nat):(bX k xs).flatten.length=k*xs.length:=by
 induction k with
 |zero=>simp
 |succ k ih=>rw[rD,wM,cC,ih,Kp,Nat.add_comm]
theorem C9:gi X (binaryOp .Mult) Q9:=by
 intro ae s σ H x y v u Q I rx ry h;obtain⟨l,k,xs,rfl,rfl,hH,h1,h2,hz,q⟩:=h;cases rx;obtain⟨t,rfl⟩:=ry;obtain⟨z,its,n,r,hl,e⟩:=I.Hk hH;have ck:its.toArray.size*k.toNat<=sizeLine:=by rw[b_,<- hl];exact hz
 have Wu:¬ its.toArray.size*k.toNat > (2^63-1)/8:=by
  have:(sizeLine:Nat)<=(2^63-1)/8:=by decide
  omega
 have Wv:¬ (!Builtin.List.listFitsIndex k)=true:=by
  rw[fitsIndex_both h1 h2];exact dC
 have Q_:¬ Builtin.List.listTooLong (its.toArray.size*k.toNat)=true:=by
  rw[C7 ck];exact dC
 have Ww:B6 (λx1 x2=>x1++x2) #[] (bX (if its.toArray.isEmpty=true then 0 else k.toNat) its.toArray)=(bX k.toNat its).flatten.toArray:=by
  have f0:∀m:Nat,B6 (λx1 x2=>x1++x2) #[] (bX m its.toArray)=(bX m its).flatten.toArray:=λm=>by
   have:=foldl_rep its m []
   rw[rE]at this;exact this
  rw[f0];cases its with
  |nil=>simp
  |cons a r'=>rw[if_neg (by simp)]
 refine wpAny_binaryOp_repeat_ref (T := "list") (U := "int") (by decide) ⟨_,e,rfl⟩ (λs'=>typeIs_int s' k t) noFill_list_mul F.fills_int_mul F.slot_int_rmul repeat_list F.slot_int_index.lookup
  (call_meets F.slot_int_rmul (typeIs_int s k t) F.entry_int_rmul (F.args_int_rmul_2 _ _) (int___rmul___int_list k t l its.toArray n)
   ⟨e,rfl,⟨_,e,rfl⟩,call_meets F.slot_list_mul ⟨_,e,rfl⟩ F.entry_list_mul (F.args_list_mul_2 _ _) (AutoListH.list___mul___list_int_3 l its.toArray n k t Wv Wu Q_) ⟨e,?_⟩⟩)
 rw[Ww];exact⟨.ref _,_,I.AV (t':=s.toks) (r.rep k.toNat) (by rw[len_rep,Nat.mul_comm];exact hz),rfl,q _ I.fresh⟩
end
section
variable{prog:Program}{w:World}{A:Around}{E:Value->Shared->Prop}{s:Shared}
set_option maxRecDepth 100000 in
end
section
end
end L2
namespace Att
open PySem PySem.W PySem.Calls PyProof.Rows
theorem mJ{P:Params}{h:Heap}:∀(ns:Dx)(vs:B2),WellAll P h vs (ns.map WData.int)->IntsAre vs ns:=by
 intro ns
 induction ns with
 |nil=>
  intro vs w;rw[BZ]at w;cases w;exact .nil
 |cons n ns ih=>
  intro vs w;rw[dz]at w;cases w with
  |cons a b=>
   cases a;exact .cons _ _ (ih _ b)
theorem AW{l:OpenLaw}{n:Nat}(hn:l.most=some n){P:Params}{h:Heap}{args:List WData}{vals:B2}
  (Hm:l.row.toRowW.claim.pre args=true) (Wx:WellAll P h vals args) :
  ∃a vs ns,vals=[Value.ref a]/\args=[WData.list (ns.map WData.int)]/\h.get? a=some {cls:=.type "list",data:=.seq vs.toArray}/\IntsAre vs ns/\ns.length<=n:=by
 have Wy:WShape.hasAll [] args [.list .int]=true:=(pre_splitW Hm).1;have hc:l.pre.holds [] {args:=args}=true:=(pre_splitW Hm).2;obtain⟨d,r,rfl,h1,h2⟩:=hasAllW_cons Wy
 obtain rfl:=hasAllW_nil h2
 obtain⟨xs,rfl,h3⟩:=hasW_list h1;obtain⟨ns,rfl⟩:=items_int h3;have ck:ns.length<=n:=by
  unfold OpenLaw.pre at hc;have h4:(WTm.not (.lt (.lit (.int (n:Int))) (.len (.arg 0)))).holds [] {args:=[.list (ns.map .int)]}=true:=by
   have h4:=(holds_andW hc).1;rw[hn]at h4;exact h4
  have h5:=condW_of h4 (w_not (w_lt w_lit (w_len_list (w_arg rfl))));rw[cD]at h5;refine Nat.le_of_not_lt λq=>?_;have q':(n:Int)<((ns.length:Nat):Int):=by omega
  first
   |(rw[decide_eq_true q']at h5;exact absurd h5 (by decide))
   |(simp at h5;omega)
 cases Wx with
 |cons w1 w2=>
  cases w2;cases w1 with
  |list ho C_=>exact⟨_,_,ns,rfl,rfl,ho,mJ ns _ C_,ck⟩
theorem AX(l:OpenLaw)(args:List WData):l.row.toRowW.claim.post args (.bool true) args=true:=
 postW_of (r:=l.row.toRowW) (X:=(true == true))
  (show WShape.has [] (.bool true) .bool=true by first|rfl|decide|simp[WShape.has,WShape.arms,WShape.armsAll])
  (show(WTm.eq .res (.lit (.bool true))).value [] {args:=args,res:=some (.bool true),after:=args}=some (.bool (true == true))from w_eq_bool (w_res rfl) w_lit) rfl
section
variable{prog:Program}{w:World}{A:Around}{E:Value->Shared->Prop}{s:Shared}{K:Frag}
end
end Att
namespace L2
open PySem PySem.Spec PyProof.Rows
theorem qJ:∀{vs:B2}{ns:Dx},IntsAre vs ns->Vals (ns.map V.int) vs
 |_,_,.nil=>.nil
 |_,_,.cons n t h=>.cons ⟨t,rfl⟩ (qJ h)
def MI(H:Hp):Prop:=∀b,H b=none\/∃o xs,H b=some (.jh o (.lst xs))
theorem Dc{P:Program}{w:World}{K:bu}{mg mb:Str->D1}{CX:CU}{k:Nat}{fa a:Addr}{fd:FuncData}{x:Str}{sp:Sp}{s₁:Shared}{vs:B2}{ns:Dx}
  (KX:K.In s₁.heap) (wF:s₁.heap.Ns mainGlobals mg) (hb:s₁.heap.Ns builtinsNs mb) (hbb:∀x:Str,x ≠ "__name__" -> mb x=bootBuiltins x) (Wz:s₁.heap.NoLimit) (hg:s₁.gens=#[])
  (ha:s₁.heap.get? a=some {cls:=.type "list",data:=.seq vs.toArray}) (hi:IntsAre vs ns) (hl:ns.length<=sizeLine) (hr:bH k callerA)
  (F:∀base:Heap,K.In base->base.Ns mainGlobals mg->dO P w K mg base CX k fa fd [x] sp) (Ra:∀(s:Shared)(u:Value),BindsTo s fd ⟨[u],[]⟩ [(x,u)])
  (PH:∀H:Hp,MI H->df K H a (ns.map V.int)->sp [.ref a] H (λv _=>v=.bl true) λ_ _ _=>False)
  (hCX:∀H e s',CX [] H s₁ (λ_ _ _=>False) e s'->False) :
  codeAny (model P w) callerA (.call (.ref fa) ⟨[.ref a],[]⟩) (λr s'=>r=.ok (.ret (.bool true))/\OldK s₁.heap s'.heap/\s'.os=s₁.os/\AllBare s'.gens) s₁:=by
 have rv:=qJ hi;have WA:=hi.length;have core:∀H:Hp,MI H->df K H a (ns.map V.int)->jV P w H s₁.heap->(∀b,H b≠none->b=a)->(H a≠none->K.lookup a=none) ->
   codeAny (model P w) callerA (.call (.ref fa) ⟨[.ref a],[]⟩) (λr s'=>r=.ok (.ret (.bool true))/\OldK s₁.heap s'.heap/\s'.os=s₁.os/\AllBare s'.gens) s₁:=by
  intro H hO hS ba hA hK;have yV:∀{b:Addr}{o:Obj},s₁.heap.get? b=some o->H b=none->(rK s₁.heap H).get? b=some o:=λe n=>Cz e n;have QW:∀{b:Addr}{o:Obj}{es:Array DictEntry}{ep:Nat},s₁.heap.get? b=some o->o.data=.dict es ep->H b=none:=λ{b o es ep} e d=>by
   cases q:H b with
   |none=>rfl
   |some u=>
    have e':b=a:=hA b (by rw[q];simp)
    subst e';rw[ha]at e;cases e;have d':Data.seq vs.toArray _=Data.dict es ep:=d;cases d'
  have Vr:∀{b:Addr}{m:Str->D1},s₁.heap.Ns b m->(rK s₁.heap H).Ns b m:=λ{b m} ⟨o,es,ep,e,d,r⟩=>⟨o,es,ep,yV e (QW e d),d,r⟩;have Zz:K.In (rK s₁.heap H):=λb o e=>yV (KX b o e) (by
   cases q:H b with
   |none=>rfl
   |some u=>
    have e':b=a:=hA b (by rw[q];simp)
    subst e';rw[hK (by rw[q];simp)]at e;cases e)
  have hM:Mod K mg (rK s₁.heap H):=⟨Zz,Vr wF,⟨mb,Vr hb,hbb⟩,let⟨mc,h1,h2⟩:=Wz;⟨mc,Vr h1,h2⟩⟩;have e0:xr P w K mg (rK s₁.heap H) callerA [] s₁ H:=⟨rfl,hM,λb o e=>GW e,Cp (AG _ _),trivial,λb hb=>absurd (show b∈([]:BM)from hb) (by simp),ba,.of_eq hg⟩
  refine codeAny_mono ((F _ Zz (Vr wF)).run callerA [] s₁ H ⟨[.ref a],[]⟩ [.ref a] [.ref a] _ _ hr e0 (Ra s₁ (.ref a)) (.cons rfl .nil) (PH H hO hS)) λr s' h=>?_;cases r with
  |error e=>exact(hCX H e s' h).elim
  |ok fl=>
   cases fl with
   |next=>exact False.elim h
   |brk=>exact False.elim h
   |cont=>exact False.elim h
   |ret u=>
    obtain⟨v,H',os,bare,un,WC,r',q⟩:=h;have q':v=.bl true:=q;subst q'
    obtain rfl:u=Value.bool true:=r'
    refine⟨rfl,OldK.of_keep λb o e=>?_,os,bare⟩;cases q:H b with
    |none=>exact un.keep b o e q (by intro z;exact absurd (show b∈([]:BM)from z) (by simp)) (by simp)
    |some u=>
     rcases hO b with z|⟨ob,xs,z⟩
     ·rw[q]at z;cases z
     ·have z2:=un.rJ b ob _ z
      obtain⟨e1,_⟩:=ba b _ z;obtain⟨e2,_⟩:=WC b _ z2;rw[e]at e1;cases e1;exact e2
 cases hk:K.lookup a with
 |some o=>
  have e:=KX a o hk;rw[ha]at e;cases e;refine core (λ_=>none) (λ_=>.inl rfl) (.inr ⟨_,vs.toArray,_,hk,rfl,rfl,rfl,by rw[b_,WA];exact hl,by simpa using rv⟩) (λb u z=>by have z':(none:Option HO)=some u:=z;cases z') (λb z=>absurd rfl z) λz=>absurd rfl z
 |none=>
  refine core (λb=>if b=a then some (.jh {cls:=.type "list",data:=.seq vs.toArray} (.lst (ns.map V.int)))else none) (λb=>?_) (.inl (.inr ⟨{cls:=.type "list",data:=.seq vs.toArray},if_pos rfl⟩)) (λb u z=>?_) (λb z=>?_) λ_=>hk
  ·by_cases hb:b=a
   ·exact .inr ⟨_,_,if_pos hb⟩
   ·exact .inl (if_neg hb)
  ·by_cases hb:b=a
   ·have z':=(if_pos hb).symm.trans z
    cases z';subst hb;exact⟨ha,by rw[cD];exact hl,vs,_,rv,ha⟩
   ·have z':=(if_neg hb).symm.trans z
    cases z'
  ·by_cases hb:b=a
   ·exact hb
   ·exact absurd (if_neg hb) z
def inClass(s:Stmt)(j:Nat):Stmt:=match s with
 |.ClassDef _ _ _ body _ _ _ _ _ _ _=>body.getD j (.Pass ⟨0,0,0,0⟩)
 |_=>.Pass ⟨0,0,0,0⟩
def kj(s:Stmt):Arguments:=match s with
 |.FunctionDef _ a _ _ _ _ _ _ _ _=>a
 |_=>{posonlyargs:=[],args:=[],vararg:=none,kwonlyargs:=[],kw_defaults:=[],kwarg:=none,defaults:=[]}
def cU(s:Stmt):Ee:=match s with
 |.FunctionDef _ _ b _ _ _ _ _ _ _=>b
 |_=>[]
def aD(s:Stmt):Scope:=match s with
 |.FunctionDef _ _ _ _ _ _ sc _ _ _=>sc
 |_=>{kind:=.function,names:=[],isGenerator:=false,isCoroutine:=false}
abbrev mK:CU:=λ_ _ _ _ _ _=>False
abbrev E0:XK:=λ_ _ _=>False
theorem nS{X:Cx}:Passes mK X E0:=λ_ _ _ _ _ _ _ h=>h.elim
section
variable{P:Program}{w:World}{K:bu}{mg:Str->D1}{base:Heap}
end
section
variable{X:Cx}
end
theorem r8{A B:Prop}(h:B):if false=true then A else B:=by
 rw[if_neg dC];exact h
theorem r9{A B:Prop}(h:A):if true=true then A else B:=by
 rw[if_pos rfl];exact h
def aL(H H':Hp):Prop:=∀b o,H b=some o->H' b=some o
theorem aL.refl(H:Hp):aL H H:=λ_ _ h=>h
theorem aL.trans{H H1 H2:Hp}(a:aL H H1)(b:aL H1 H2):aL H H2:=λc o h=>b c o (a c o h)
theorem aL.free{H H':Hp}(e:aL H H'){l:Addr}(h:H' l=Ku):H l=Ku:=by
 cases q:H l with
 |none=>rfl
 |some o=>
  rw[e l o q]at h;cases h
theorem aL.seq{K:bu}{H H':Hp}{a:Addr}{xs:List V}(e:aL H H')(h:df K H a xs):df K H' a xs:=by
 rcases h with(h|⟨o,h⟩)|h
 ·exact .inl (.inl (e _ _ h))
 ·exact .inl (.inr ⟨o,e _ _ h⟩)
 ·exact .inr h
end L2
set_option maxHeartbeats 400000
namespace L2
open PySem PySem.Spec PyProof.Rows
theorem AY{prog:Program}{w:World}{A:Around}{R:Result->Shared->Prop}{s:Shared}{elt target iter:Expr}{ifs:Bz}{scope:Scope}{pos:Pos}{it c8:Value}{env:Env}(I:Nat->Shared->Prop)
  (turn:∀n s,I n s->wpAny (model prog w) A (pyNext it) (λr s₁=>match r with
   |none=>R (.ok .next) s₁
   |some v=>wpAny (model prog w) A (letOwnedTupleGo target it v) (λ_ s₀=>wpAny (model prog w) A (assign target env v) (λ_ s₂=>
     wpAny (model prog w) A (forIn ifs true λc r=>if r=true then do let ok <- isTrue c env (eval c env);pure (ForInStep.yield ok)else pure (ForInStep.yield r)) (λok s₃=>
      if ok=true then wpAny (model prog w) A (eval elt env) (λx s₄=>
       wpAny (model prog w) A (call (.builtin "list.append") [c8,x]) (λ_ s₅=>∃m,m<n/\I m s₅) (λ_ _=>False) s₄) (λ_ _=>False) s₃
      else ∃m,m<n/\I m s₃) (λ_ _=>False) s₂) (λ_ _=>False) s₀) (λ_ _=>False) s₁) (λ_ _=>False) s)
  (n:Nat) (h:I n s):codeAny (model prog w) A (.compLoop (.ListComp elt [⟨target,iter,ifs,0⟩] scope pos) 0 it c8 env) R s:=by
 refine codeAny_loop rfl I (λn s hI=>?_) n h;show wpAny _ A ((compTurn (.ListComp elt [⟨target,iter,ifs,0⟩] scope pos) 0 it c8 env).onRaise (λx=>do noteFrame x env;theTreesLotGoes x)) _ _ s
 refine wpAny_noted ?_;rw[compTurn_list];refine wpAny_bind (wpAny_standAt (wpAny_bind (wpAny_mono (turn n s hI) (λr s₁ h₁=>?_) λ_ _ h'=>h'.elim)));cases r with
 |none=>exact wpAny_pure h₁
 |some v=>
  refine wpAny_bind (wpAny_mono h₁ (λ_ s₀ h₀=>wpAny_bind (wpAny_mono h₀ (λ_ s₂ h₂=>wpAny_bind (wpAny_mono h₂ (λok s₃ h₃=>?_) λ_ _ h'=>h'.elim)) λ_ _ h'=>h'.elim)) λ_ _ h'=>h'.elim);cases ok with
  |false=>exact wpAny_pure ⟨rfl,h₃⟩
  |true=>
   exact wpAny_bind (wpAny_bind (wpAny_mono h₃ (λx s₄ h₄=>wpAny_bind (wpAny_mono h₄ (λ_ s₅ h₅=>wpAny_pure (wpAny_pure ⟨rfl,h₅⟩)) λ_ _ h'=>h'.elim)) λ_ _ h'=>h'.elim))
theorem gG(env:Env):∀(names:List (Str×NameKind))(c8:List (Str×Addr)),(∀p∈names,p.2=.free->∃c,env.cells.lookup p.1=some c)->(∀x c,c8.lookup x=some c->env.cells.lookup x=some c) ->
  ∃cl,(forIn names c8 λ(p:Str×NameKind) (cs:List (Str×Addr))=>if p.2 == .free then do let c <- cellOf env p.1;pure (ForInStep.yield ((p.1,c)::cs))else pure (ForInStep.yield cs):Sem (List (Str×Addr)))=pure cl /\
   (∀x c,cl.lookup x=some c->env.cells.lookup x=some c)/\(∀x c,c8.lookup x=some c->∃c',cl.lookup x=some c')/\(∀p∈names,p.2=.free->∃c,cl.lookup p.1=some c)
 |[],c8,_,ha=>⟨c8,rfl,ha,λx c e=>⟨c,e⟩,λ_ h=>nomatch h⟩
 |(n,k)::r,c8,hn,ha=>by
  by_cases hk:k=.free
  ·subst hk
   obtain⟨c,hc⟩:=hn (n,.free) er rfl;have Vs:∀x d,((n,c)::c8).lookup x=some d->env.cells.lookup x=some d:=λx d e=>by
    rw[jC]at e;cases hx:x == n with
    |true=>rw[hx]at e;have hx:=eq_of_beq hx;subst hx;cases e;exact hc
    |false=>rw[hx]at e;exact ha x d e
   obtain⟨cl,e,h1,h2,h3⟩:=gG env r ((n,c)::c8) (λp hp=>hn p (eF _ hp)) Vs;have self:∃c',cl.lookup n=some c':=h2 n c (by rw[jC];simp)
   refine⟨cl,?_,h1,λx d hx=>?_,λp hp hf=>?_⟩
   ·rw[yv]
    show((do let c <- cellOf env n;pure (ForInStep.yield ((n,c)::c8))) >>= _)=_
    unfold cellOf;rw[hc];exact e
   ·cases PK:x == n with
    |true=>have:=eq_of_beq PK;subst this;exact self
    |false=>exact h2 x d (by rw[jC,PK];exact hx)
   ·rcases bA.mp hp with rfl|hp
    ·exact self
    ·exact h3 p hp hf
  ·obtain⟨cl,e,h1,h2,h3⟩:=gG env r c8 (λp hp=>hn p (eF _ hp)) ha
   refine⟨cl,?_,h1,h2,λp hp hf=>?_⟩
   ·rw[yv]
    have hb:(k == NameKind.free)=false:=by simpa using hk
    show((if(k == NameKind.free)=true then _ else pure (ForInStep.yield c8)) >>= _)=_
    rw[hb];exact e
   ·rcases bA.mp hp with rfl|hp
    ·exact absurd hf hk
    ·exact h3 p hp hf
theorem qi{scope:Scope}{env:Env}(h:∀p∈scope.names,p.2=.free->∃c,env.cells.lookup p.1=some c) :
  ∃cl,closureFor scope env=pure cl/\(∀x c,cl.lookup x=some c->env.cells.lookup x=some c)/\∀p∈scope.names,p.2=.free->∃c,cl.lookup p.1=some c:=by
 obtain⟨cl,e,h1,_,h3⟩:=gG env scope.names [] h (λ_ _ e=>nomatch e);refine⟨cl,?_,h1,h3⟩;unfold closureFor;exact(congrArg (λz:Sem (List (Str×Addr))=>z >>= λcs=>pure cs) e)
abbrev Cx.block(X:Cx)(N:Bi)(scope:Scope)(cl:List (Str×Addr))(C:Addr)(fp:BM)(s:Shared)(H:Hp):Cx where
 prog:=X.prog
 w:=X.w
 K:=X.K
 mg:=X.mg
 base:=X.base
 A:=X.A
 N:=N
 s₀:=s
 H₀:=H
 env:=compEnvC scope cl C X.env
 outer:=X.stack
 stack:=X.stack
 ex:=fp
 fn:=λ_=>false
 calm:=X.calm
 pn:=[]
 xe:=λ_ _=>False
inductive fS(X:Cx)(scope:Scope):B1->Bi->Prop where
 |nil:fS X scope [] []
 |cons {j:Nat} {x:Str} {js:B1} {xs:Bi}:X.N[j]?=some x->scope.names.lookup x=some .free->X.env.kindOf x=some .cell->fS X scope js xs->fS X scope (j::js) (x::xs)
theorem fS.get{X:Cx}{scope:Scope}:∀{js:B1}{xs:Bi},fS X scope js xs->∀{i:Nat}{x:Str},xs[i]?=some x->∃j,js[i]?=some j/\X.N[j]?=some x/\scope.names.lookup x=some .free/\X.env.kindOf x=some .cell
 |_,_,.nil,_,_,e=>by simp at e
 |_,_,.cons h1 h2 h3 _,0,_,e=>by simp at e;subst e;exact⟨_,rfl,h1,h2,h3⟩
 |_,_,.cons _ _ _ t,i+1,_,e=>by
  obtain⟨j,a,b⟩:=t.get (i:=i) (by simpa using e)
  exact⟨j,by simpa using a,b⟩
theorem fS.length{X:Cx}{scope:Scope}:∀{js:B1}{xs:Bi},fS X scope js xs->js.length=xs.length
 |_,_,.nil=>rfl
 |_,_,.cons _ _ _ t=>by simp[t.length]
def cV(k:Nat)(js:B1)(σ:St):St:=bX k none++js.map λj=>(σ[j]?).join
theorem fq{env:Env}(hk:env.scope.kind=.function):∀{names:List (Str×NameKind)}{x:Str},names.lookup x=some .free->env.kindOf x=some .cell ->
  (names.map λ(n,k)=>if(k == NameKind.free&&env.scope.kind == .function&&env.kindOf n == some .cell)then(n,NameKind.cell)else(n,k)).lookup x=some .cell
 |[],_,h,_=>by simp at h
 |(n,k)::r,x,h,hc=>by
  have ih:=@fq env hk r x;show mz x ((if(k == NameKind.free&&env.scope.kind == .function&&env.kindOf n == some .cell)=true then(n,NameKind.cell)else(n,k))::_)=_
  cases hx:x == n with
  |true=>
   have e:=eq_of_beq hx;subst e;simp only[jC,hx]at h;cases h;rw[if_pos (by rw[hk,hc];rfl)]
   simp[jC]
  |false=>
   simp only[jC,hx]at h;by_cases hq:(k == NameKind.free&&env.scope.kind == .function&&env.kindOf n == some .cell)=true
   ·rw[if_pos hq];simp only[jC,hx];exact ih h hc
   ·rw[if_neg hq];simp only[jC,hx];exact ih h hc
theorem fU{env:Env}:∀{names:List (Str×NameKind)}{x:Str},(∀p∈names,p.2≠.cell) ->
  ((names.map λ(n,k)=>if(k == NameKind.free&&env.scope.kind == .function&&env.kindOf n == some .cell)then(n,NameKind.cell)else(n,k)).lookup x=some .cell \/
   (names.map λ(n,k)=>if(k == NameKind.free&&env.scope.kind == .function&&env.kindOf n == some .cell)then(n,NameKind.cell)else(n,k)).lookup x=some .free)->∃p∈names,p.1=x/\p.2=.free
 |[],_,_,h=>by simp at h
 |(n,k)::r,x,hn,h=>by
  have ih:=@fU env r x (λp hp=>hn p (eF _ hp));have h:mz x ((if(k == NameKind.free&&env.scope.kind == .function&&env.kindOf n == some .cell)=true then(n,NameKind.cell)else(n,k))::(r.map λ(n,k)=>if(k == NameKind.free&&env.scope.kind == .function&&env.kindOf n == some .cell)then(n,NameKind.cell)else(n,k)))=some .cell \/
   mz x ((if(k == NameKind.free&&env.scope.kind == .function&&env.kindOf n == some .cell)=true then(n,NameKind.cell)else(n,k))::(r.map λ(n,k)=>if(k == NameKind.free&&env.scope.kind == .function&&env.kindOf n == some .cell)then(n,NameKind.cell)else(n,k)))=some .free:=h
  cases hx:x == n with
  |true=>
   have e:=eq_of_beq hx;subst e;refine⟨(x,k),er,rfl,?_⟩;by_cases hq:(k == NameKind.free&&env.scope.kind == .function&&env.kindOf x == some .cell)=true
   ·cases k<;>first|rfl|(simp at hq)
   ·rw[if_neg hq]at h
    simp only[jC,beq_self_eq_true]at h;rcases h with h|h
    ·cases h;exact absurd rfl (hn (x,.cell) er)
    ·cases h;rfl
  |false=>
   have h':mz x (r.map λ(n,k)=>if(k == NameKind.free&&env.scope.kind == .function&&env.kindOf n == some .cell)then(n,NameKind.cell)else(n,k))=some .cell \/
    mz x (r.map λ(n,k)=>if(k == NameKind.free&&env.scope.kind == .function&&env.kindOf n == some .cell)then(n,NameKind.cell)else(n,k))=some .free:=by
    by_cases hq:(k == NameKind.free&&env.scope.kind == .function&&env.kindOf n == some .cell)=true
    ·rw[if_pos hq]at h;simp only[jC,hx]at h;exact h
    ·rw[if_neg hq]at h;simp only[jC,hx]at h;exact h
   obtain⟨p,hp,e1,e2⟩:=ih h';exact⟨p,eF _ hp,e1,e2⟩
structure gx(X:Cx)(scope:Scope):Prop where
 kind:scope.kind=.function
 nocell:∀p∈scope.names,p.2≠.cell
 names:∀p∈scope.names,p.2=.local->scope.names.lookup p.1=some .local
 frees:∀p∈scope.names,p.2=.free->X.env.kindOf p.1=some .cell
variable{X:Cx}{tg:Expr}
section
variable{ae:dm}{σ:St}{H:Hp}{s:Shared}
theorem Inv.enter{ls fs:Bi}{js:B1}{scope:Scope}{cl:List (Str×Addr)}{fp:BM}{h₁:Heap}{tk:Nat}(I:Inv X ae σ H s)(S:gx X scope)(F:fS X scope js fs)
  (r_:∀x c,cl.lookup x=some c->X.env.cells.lookup x=some c) (ZA:∀p∈scope.names,p.2=.free->∃c,cl.lookup p.1=some c)
  (hf:∀b∈fp,nI X ae H b) (hfz:∀b∈fp,b<s.heap.objs.size) (wF:h₁.Ns s.heap.objs.size (λ_=>none)) (hk:∀b o,s.heap.get? b=some o->h₁.get? b=some o) :
  Inv (X.block (ls++fs) scope cl s.heap.objs.size fp s H) [] (cV ls.length js σ) H {s with heap:=h₁,toks:=tk}:=by
 have aab:∀x c,cl.lookup x=some c->c<s.heap.objs.size:=λx c e=>by
  obtain⟨v,q⟩:=I.cell x c (r_ x c e);exact q.lt
 refine⟨⟨I.ok.mod,?_,I.ok.glob,I.ok.blt,dj _,λx y c h1 h2=>I.ok.inj x y c (r_ x c h1) (r_ y c h2),λx hx=>?_,(λx c hx=>by cases hx),I.ok.hd,I.ok.frames,.inl rfl,λb hb=>⟨eL (hfz b hb),λx c e=>(hf b hb).2.2.2.2.1 x c (r_ x c e)⟩,
  I.bs,gP I.ok.bsz I.sz,λb o e hb=>?_,λb hb z=>?_,I.stack,I.yM⟩,rfl,I.bare,Un.kept hk,⟨_,wF,λi x v e1 e2 e3=>?_⟩,λx c e=>?_,I.ba.fresh (dj _),λx c e=>I.freeC x c (r_ x c e),λp hp=>absurd hp (by simp),I.ba.kept hk,?_⟩
 ·show(relabel scope X.env).kind=.function
  exact S.kind
 ·obtain⟨p,hp,e1,e2⟩:=fU (env:=X.env) S.nocell hx
  obtain⟨c,e⟩:=ZA p hp e2;exact⟨c,by rw[<- e1];exact e⟩
 ·rcases(hf b hb).2.2.2.1 with z|z
  ·exact I.ok.noex b o e z
  ·exact absurd (iM (Heap.lt_size (I.ok.bs b o e).1) z) (rF _)
 ·rcases bA.mp (I.rM b z)with e|e
  ·exact(hf b hb).2.1 e
  ·exact(hf b hb).2.2.1 e
 ·-- a name of the block that has a value: one from around
  have hi:ls.length<=i:=by
   by_cases hi:i<ls.length
   ·unfold cV at e2
    rw[gO (by simpa using hi),BX]at e2
    split at e2<;>cases e2
   ·omega
  have e1':fs[i-ls.length]?=some x:=by
   have q:(ls++fs)[i]?=some x:=e1;rw[fQ hi]at q;exact q
  obtain⟨j,hj,hN,ZC,WD⟩:=F.get e1';have PL:(σ[j]?).join=some v:=by
   unfold cV at e2;rw[fQ (by simpa using hi),eG]at e2
   simp only[rC]at e2;rw[hj]at e2;simpa using e2
  have hσ:σ[j]?=some (some v):=by
   cases q:σ[j]? with
   |none=>rw[q]at PL;cases PL
   |some z=>rw[q]at PL;have PL:z=some v:=PL;rw[PL]
  obtain⟨m,_,hl⟩:=I.loc;obtain⟨u,r,l⟩:=hl j x v hN hσ (.inr (.inl WD));refine⟨u,r,.inr ⟨.inl (fq I.ok.kind ZC WD),?_⟩⟩;rcases l with⟨z,_⟩|⟨_,c,e,q⟩
  ·have z':X.env.kindOf x=some .local:=z
   rw[WD]at z';cases z'
  ·obtain⟨c',e'⟩:=ZA (x,.free) (PySem.mem_of_lookup ZC) rfl
   have ec:=r_ x c' e';rw[e]at ec;have ec:=ly.inj ec;rw[<- ec]at e';obtain⟨o,ho,hd⟩:=q;exact⟨c,e',o,hk _ _ ho,hd⟩
 ·obtain⟨v,o,ho,hd⟩:=I.cell x c (r_ x c e)
  exact⟨v,o,hk _ _ ho,hd⟩
 ·unfold cV
  show _=(ls++fs).length;rw[cC,rC,cD,cC,F.length]
end
section
def GN(X:Cx)(ifs:Bz)(t:TT):Prop:=
 ∀(ae:dm)(s:Shared)(σ:St)(H:Hp)(Q:Bool->Hp->Prop),Inv X ae σ H s->t σ H Q ->
  wpAny (model X.prog X.w) X.A (forIn ifs true λc r=>if r=true then do let ok <- isTrue c X.env (eval c X.env);pure (ForInStep.yield ok)else pure (ForInStep.yield r)) (TP X ae σ Q) X.xe s
def WE:TT:=λ_ H Q=>Q true H
theorem Hn:GN X [] WE:=λ_ _ _ H _ I h=>wpAny_tests_nil ⟨H,I,h⟩
theorem Ho{c:Expr}{t:TT}(h:PT X c t):GN X [c] t:=λae s σ H Q I hw=>wpAny_tests_one (h ae s σ H Q I hw)
def c9:St->St->Prop
 |[],[]=>True
 |none::a,_::b=>c9 a b
 |some v::a,some w::b=>v=w/\c9 a b
 |_,_=>False
theorem c9.len:∀{a b:St},c9 a b->a.length=b.length
 |[],[],_=>rfl
 |[],_::_,h=>h.elim
 |none::a,[],h=>h.elim
 |some _::a,[],h=>h.elim
 |none::a,x::b,h=>by simp[c9.len (a:=a) (b:=b) h]
 |some _::a,none::b,h=>h.elim
 |some _::a,some _::b,h=>by simp[c9.len (a:=a) (b:=b) h.2]
theorem c9.get:∀{a b:St},c9 a b->∀(i:Nat)(v:V),a[i]?=some (some v)->b[i]?=some (some v)
 |[],[],_,_,_,e=>e
 |[],_::_,h,_,_,_=>h.elim
 |none::a,[],h,_,_,_=>h.elim
 |some _::a,[],h,_,_,_=>h.elim
 |none::a,x::b,h,0,v,e=>by simp at e
 |none::a,x::b,h,i+1,v,e=>by
  have:=c9.get (a:=a) (b:=b) h i v (by simpa using e)
  simpa using this
 |some _::a,none::b,h,_,_,_=>h.elim
 |some y::a,some z::b,h,0,v,e=>by have e1:=h.1;subst e1;simpa using e
 |some y::a,some z::b,h,i+1,v,e=>by
  have:=c9.get (a:=a) (b:=b) h.2 i v (by simpa using e)
  simpa using this
@[irreducible] def tComp(wi:TI)(k:Nat)(js:B1)(g:TG)(tt:TT)(te:TE):TE:=λσ H Q=>wi σ H λJ H1=>∀D,H1 D=none->∃W:Nat->Nat->List V->Hp->Prop,(∃m,W 0 m [] (upd H1 D (.lst []))) /\
 ∀i m ys H,W i m ys H->(J.stop i H/\Q (.ref D) H)\/(J.go i H/\∀x H',J.yld i H x H'->g x (cV k js σ) H' λσ2 H2=>c9 (cV k js σ) σ2/\tt σ2 H2 λb H3=>
  if b=true then te σ2 H3 λy H4=>H4 D=some (.lst ys)/\ys.length<sizeLine/\∃m',m'<m/\W (i+1) m' (ys++[y]) (upd H4 D (.lst (ys++[y])))
  else ∃m',m'<m/\W (i+1) m' ys H3)
theorem qK{scope:Scope}{ls fs:Bi}{js:B1}{tg iter elt:Expr}{ifs:Bz}{pos cJ:Pos}{wi:TI}{g:TG}{tt:TT}{te:TE}{use:Option (Value->Sem Unit)}{Qo:Value->Shared->Prop}
  (hc:X.calm=true) (S:gx X scope) (F:fS X scope js fs) (hi:PI X tg iter wi)
  (hg:∀cl C fp s H,PG (X.block (ls++fs) scope cl C fp s H) tg g) (ht:∀cl C fp s H,GN (X.block (ls++fs) scope cl C fp s H) ifs tt) (he:∀cl C fp s H,PE (X.block (ls++fs) scope cl C fp s H) elt te)
  {ae:dm} {s:Shared} {σ:St} {H:Hp} {Q:VK} (I:Inv X ae σ H s) (h:tComp wi ls.length js g tt te σ H Q)
  (fin:∀D C s' H' m,Inv X ae σ H' s'->nI X ae H' C->s'.heap.Ns C m->Q (.ref D) H'->compPost (model X.prog X.w) X.A X.xe use Qo (.ref D) C (.ok .next) s')
  (hs:∀x,foldedSetIterable iter X.env x=pure x) :
  wpAny (model X.prog X.w) X.A (comprehension (.ListComp elt [⟨tg,iter,ifs,0⟩] scope pos) scope X.env cJ (newList []) false (eval iter X.env) use) Qo X.xe s:=by
 unfold tComp at h;obtain⟨cl,ecl,h1,h2⟩:=qi (scope:=scope) (env:=X.env) (λp hp hf=>I.ok.has p.1 (.inl (S.frees p hp hf)));refine wpAny_comprehension_free rfl hs ecl S.kind S.names (bO (hi ae s σ H _ I h) λv s1 q1=>bO q1 λWd s2 q2=>?_);obtain⟨it,fp,tn,J,H2,e,I2,T,QC,f2,q⟩:=q2;subst e;refine wpAny_newObj_type (wpAny_newFunctionEnv S.nocell (by intro y hy;simp at hy) (λh₁ hns₁ hsb₁=>?_) S.kind)
 have I3:Inv X ae σ (upd H2 s2.heap.objs.size (.lst [])) {s2 with heap:=s2.heap.push {cls:=.type "list",dict:=none,data:=.seq ([]:B2).toArray}}:=I2.AV (t':=s2.toks) .nil (iN _)
 obtain⟨W,⟨m0,w0⟩,step⟩:=q s2.heap.objs.size I2.fresh;dsimp only at hns₁ hsb₁ ⊢
 generalize hs3:({s2 with heap:=s2.heap.push {cls:=.type "list",dict:=none,data:=.seq ([]:B2).toArray}}:Shared)=s3 at I3
 have ZD:s3.heap=s2.heap.push {cls:=.type "list",dict:=none,data:=.seq ([]:B2).toArray}:=by rw[<- hs3]
 rw[<- ZD]at hns₁ hsb₁ ⊢;have old:∀b o,s3.heap.get? b=some o->h₁.get? b=some o:=λb o e=>hsb₁.extBut b o (eL (Heap.lt_size e)) (Heap.get?_push_of_some _ e);have up:∀b o,s2.heap.get? b=some o->s3.heap.get? b=some o:=λb o e=>by rw[ZD];exact Heap.get?_push_of_some _ e
 have fz2:∀b∈fp,b<s2.heap.objs.size:=λb hb=>by
  obtain⟨o,e,_⟩:=T.obj 0 _ QC b hb;exact Heap.lt_size e
 have f3:∀b∈fp,nI X ae (upd H2 s2.heap.objs.size (.lst [])) b:=λb hb=>⟨by rw[au (eL (fz2 b hb))];exact(f2 b hb).1,(f2 b hb).2⟩
 have ZE:∀b∈fp,b<s3.heap.objs.size:=λb hb=>by
  obtain⟨o,e,_⟩:=T.obj 0 _ QC b hb;exact Heap.lt_size (up b o e)
 have I4:=I3.enter (ls:=ls) (h₁:=h₁) (tk:=s2.toks+([]:List (Str×Value)).length) S F h1 h2 f3 ZE (by simpa using hns₁) old
 have ZF:tn 0 h₁:=T.keep 0 _ _ QC λb _ o e=>old b o (up b o e)
 generalize hC:s3.heap.objs.size=C at I4 hns₁ hsb₁ ⊢
 generalize hH3:upd H2 s2.heap.objs.size (.lst [])=H3 at I3 I4 f3 w0
 have xh:∀{H':Hp},(∀b∈fp,H' b=none)->∀b∈fp,nI (X.block (ls++fs) scope cl C fp s3 H3) [] H' b:=λhn b hb=>
  ⟨hn b hb,by rw[<- hC];exact eL (ZE b hb),λz=>(bA.mp (I3.rM b z)).elim (f3 b hb).2.1 (f3 b hb).2.2.1,.inl hb,λx c e=>(f3 b hb).2.2.2.2.1 x c (h1 x c e),λp hp=>absurd hp (by simp)⟩
 have BE:∀b∈fp,(b∈X.ex\/X.s₀.heap.objs.size<=b)/\b≠X.env.locals/\(∀x c,X.env.cells.lookup x=some c->c≠b)/\∀p∈X.pn++ae,p.1≠b:=λb hb=>⟨(f3 b hb).2.2.2.1,(f3 b hb).2.1,(f3 b hb).2.2.2.2.1,(f3 b hb).2.2.2.2.2⟩;have loop:∀s4:Shared,s4={s3 with heap:=h₁,toks:=s2.toks+([]:List (Str×Value)).length} ->
   codeAny (model X.prog X.w) X.A (.compLoop (.ListComp elt [⟨tg,iter,ifs,0⟩] scope pos) 0 (.ref it) (.ref s2.heap.objs.size) (compEnvC scope cl C X.env)) (compPost (model X.prog X.w) X.A X.xe use Qo (.ref s2.heap.objs.size) C) s4:=by
  rintro s4 rfl
  refine AY (λn s'=>∃i ys H',Inv (X.block (ls++fs) scope cl C fp s3 H3) [] (cV ls.length js σ) H' s'/\tn i s'.heap/\(∀b∈fp,H' b=none)/\W i n ys H') ?_ m0 ⟨0,[],H3,I4,ZF,λb hb=>(f3 b hb).1,w0⟩
  rintro n s5 ⟨i,ys,H5,I5,G4,Vm,w5⟩
  rcases step i n ys H5 w5 with⟨stop,qf⟩|⟨go,nxt⟩
  ·refine bO (T.done (X.block (ls++fs) scope cl C fp s3 H3) rfl rfl rfl hc i [] s5 _ H5 (λ_ _=>False) I5 (xh Vm) G4 stop) λr s6 zz=>?_
   obtain⟨hr,I6⟩:=zz;subst hr;obtain⟨m,hm,_⟩:=id I6.loc;have J6:Inv X ae σ H5 s6:=I3.Qg (ch:=fp) I6.os I6.base I6.ba I6.bare BE;exact fin _ C s6 H5 m J6 (I3.rQ (Cp hC) I6.free) hm qf
  ·refine bO (T.item (X.block (ls++fs) scope cl C fp s3 H3) rfl rfl rfl hc i [] s5 _ H5 (λ_ _=>False) I5 (xh Vm) G4 go) λr s6 zz=>?_
   obtain⟨u,hr,h6⟩:=zz;subst hr;refine bO h6 λ_ s7 zz=>?_;obtain⟨x,H7,I7,r7,y7,WG,fr7⟩:=zz;have I7':=I7.pinned (xh fr7) (T.obj _ _ WG);refine bO (hg cl C fp s3 H3 _ s7 _ H7 x u _ I7' r7 (nxt x H7 y7)) λ_ s8 zz=>?_;obtain⟨σ8,H8,I8,kp,q8⟩:=zz;have again:∀{s9:Shared}{H9:Hp},Inv (X.block (ls++fs) scope cl C fp s3 H3) ([]++nJ fp s7.heap) σ8 H9 s9 ->
     Inv (X.block (ls++fs) scope cl C fp s3 H3) [] (cV ls.length js σ) H9 s9/\tn (i+1) s9.heap/\∀b∈fp,H9 b=none:=λ{s9 H9} I9=>by
    refine⟨I9.j_.weak kp.len kp.get,T.keep _ _ _ WG λb hb o e=>(I9.pin (b,o) (p9 _ (p9 _ (hU hb e)))).1,λb hb=>?_⟩;obtain⟨o,e,d⟩:=T.obj _ _ WG b hb;exact(I9.pin (b,o) (p9 _ (p9 _ (hU hb e)))).2.1
   refine bO (ht cl C fp s3 H3 _ s8 σ8 H8 _ I8 q8) λb s9 zz=>?_;obtain⟨H9,I9,q9⟩:=zz;cases b with
   |false=>
    obtain⟨m',hm,w9⟩:=q9;obtain⟨a1,a2,a3⟩:=again I9;exact⟨m',hm,i+1,ys,H9,a1,a2,a3,w9⟩
   |true=>
    refine bO (he cl C fp s3 H3 _ s9 σ8 H9 _ I9 q9) λxv s10 zz=>?_;obtain⟨y,ZG,I10,r10,hD,hz,m',hm,WH⟩:=zz;refine bO (lC (X:=X.block (ls++fs) scope cl C fp s3 H3) _ s10 σ8 ZG (.ref s2.heap.objs.size) [y] (.ref s2.heap.objs.size) [xv] (λ_ ZH=>ZH=upd ZG s2.heap.objs.size (.lst (ys++[y]))) I10 rfl (.cons r10 .nil)
     ⟨_,ys,y,rfl,rfl,hD,hz,rfl⟩) λ_ s11 ⟨z,ZH,I11,_,e11⟩=>?_
    subst e11;obtain⟨a1,a2,a3⟩:=again I11;exact⟨m',hm,i+1,ys++[y],_,a1,a2,a3,WH⟩
 have aac:({newEnv scope C X.env.globals cl X.env.qual none .none (some X.env) builtinsNs with scope:=relabel scope X.env}:Env)=compEnvC scope cl C X.env:=rfl
 exact codeAny_compStart_list (loop _ (by rw[<- hs3])) (T.self X.A 0 _ _ _ ZF (loop _ (by rw[<- hs3])))
variable{scope:Scope}{ls fs:Bi}{js:B1}{iter elt:Expr}{ifs:Bz}{pos:Pos}{wi:TI}{g:TG}{tt:TT}{te:TE}
theorem Hq(ls:Bi)(hc:X.calm=true)(S:gx X scope)(F:fS X scope js fs)(hi:PI X tg iter wi)
  (hg:∀cl C fp s H,PG (X.block (ls++fs) scope cl C fp s H) tg g) (ht:∀cl C fp s H,GN (X.block (ls++fs) scope cl C fp s H) ifs tt) (he:∀cl C fp s H,PE (X.block (ls++fs) scope cl C fp s H) elt te)
  (hs:∀x,foldedSetIterable iter X.env x=pure x:=by intro _;rfl):PE X (.ListComp elt [⟨tg,iter,ifs,0⟩] scope pos) (tComp wi ls.length js g tt te):=by
 intro ae s σ H Q I h;rw[eval_ListComp];refine qK (use:=none) hc S F hi hg ht he I h ?_ hs;intro D C s' H' m J fC hm q;exact⟨m,hm,λh' Dd=>⟨.ref D,H',J.turned (t':=s'.toks) (it:=C) (λb o hb e=>(Dd.2 b hb).trans e) fC.1 fC.2.1 fC.2.2.2.1 fC.2.2.2.2.1 fC.2.2.2.2.2,rfl,q⟩⟩
theorem yW{i:Nat}{x:Str}{px sd:Pos}(ls:Bi)(hc:X.calm=true)(hN:X.N.Nodup)(hix:X.N[i]?=some x)(hx:Loc X.env.scope x)(S:gx X scope)(F:fS X scope js fs)(hi:PI X tg iter wi)
  (hg:∀cl C fp s H,PG (X.block (ls++fs) scope cl C fp s H) tg g) (ht:∀cl C fp s H,GN (X.block (ls++fs) scope cl C fp s H) ifs tt) (he:∀cl C fp s H,PE (X.block (ls++fs) scope cl C fp s H) elt te)
  (hs:∀x,foldedSetIterable iter X.env x=pure x:=by intro _;rfl) (hf:X.fn x=true\/X.env.scope.names.lookup x=some .local:=by first|exact .inl rfl|exact .inr rfl|assumption)
  (Vt:swapsWith (.ListComp elt [⟨tg,iter,ifs,0⟩] scope pos) (some (.Name x px)) sd.line X.env=pure true:=by rfl) :
  PS X (.Assign [.Name x px] (.ListComp elt [⟨tg,iter,ifs,0⟩] scope pos) sd) (λD σ H=>tComp wi ls.length js g tt te σ H λv H1=>D.nx (σ.set i (some v)) H1):=by
 intro ae s σ H D I h;rw[exec_Assign_Name_used _ _ _ _ Vt];refine wpAny_bind (wpAny_standAt (wpAny_bind ?_));show wpAny _ X.A (do let _ <- comprehension (.ListComp elt [⟨tg,iter,ifs,0⟩] scope pos) scope X.env _ (newList []) false (eval iter X.env) (some (assign (.Name x px) X.env))) _ _ s
 refine wpAny_bind (wpAny_mono (qK (use:=some (assign (.Name x px) X.env)) (Qo:=λ_ s'=>SP X ae D .next s') hc S F hi hg ht he I h ?_ hs) (λ_ s' hq=>wpAny_pure (wpAny_pure hq)) λ_ _ e=>e)
 intro D' C s' H' m J fC hm q;show wpAny _ X.A (assign (.Name x px) X.env (.ref D')) _ _ _;refine wpAny_assign_Name (qA J hN hix hx (show RelV (.ref D') (.ref D')from rfl) (λQV J' ⟨a,ZI,ha⟩=>?_) hf);have ne:C≠a:=by
  rcases ha with e|e
  ·rw[e];exact fC.2.1
  ·exact Ne.symm (fC.2.2.2.2.1 x a e)
 refine⟨m,hm.sameBut ZI ne,λh' Dd=>?_⟩;exact⟨_,H',J'.turned (t':=QV.toks) (it:=C) (λb o hb e=>(Dd.2 b hb).trans e) fC.1 fC.2.1 fC.2.2.2.1 fC.2.2.2.2.1 fC.2.2.2.2.2,q⟩
end
section
theorem De{P:Program}{w:World}{K:bu}{x:Str}{px:Pos}{it:Addr}{n:Nat}{Pv:Nat->Value->Prop}{St:Nat->Heap->Prop}(val:Nat->V->Prop)
  (W:∀A:Around,A.handled=none->Walks P w A it [it] [it] n Pv St) (hv:∀i v,Pv i v->∃y,RelV y v/\val i y)
  (ho:∀i h,St i h->∃o,h.get? it=some o/\∀v,o.data≠.cell v) (hk:∀i(h h':Heap),St i h->(∀o,h.get? it=some o->h'.get? it=some o)->St i h')
  (Rb:∀(A:Around)(i:Nat)(s:Shared)(Q:Value->Shared->Prop)(E:Value->Shared->Prop),St i s.heap->Q (.ref it) s->wpAny (model P w) A (pyIter (.ref it)) Q E s) :
  Turn P w K (.Name x px) ⟨λi _=>i<n,λi H y H'=>H'=H/\val i y,λi _=>i=n⟩ [it] it St where
 mem:=by simp
 obj:=λi h st b hb=>by
  have e:b=it:=by simpa using hb
  subst e;exact ho i h st
 keep:=λi h h' st k=>hk i h h' st (k it (by simp))
 item:=by
  intro X hP hw hK hc i ae s σ H E I hf st hg;subst hP hw hK;obtain⟨f0,f1,f2,f3,f4,f5⟩:=hf it (by simp)
  refine(W X.A (I.ok.hd hc)).item i s _ _ hg st λv h' tk hPv rR kk=>?_;obtain⟨y,ry,vy⟩:=hv i v hPv;have I1:Inv X ae σ H {s with heap:=h',toks:=tk}:=I.turned (λb o hb e=>kk b o (by simpa using hb) e) f0 f1 f3 f4 f5
  exact⟨v,rfl,wpAny_pure ⟨y,H,I1,ry,⟨rfl,vy⟩,rR,λb hb=>(hf b hb).1⟩⟩
 done:=by
  intro X hP hw hK hc i ae s σ H E I hf st hg;subst hP hw hK;obtain⟨f0,f1,f2,f3,f4,f5⟩:=hf it (by simp)
  have hg:i=n:=hg;rw[hg]at st;exact(W X.A (I.ok.hd hc)).done s _ _ st λh' tk kk=>⟨rfl,I.turned (λb o hb e=>kk b o (by simpa using hb) e) f0 f1 f3 f4 f5⟩
 self:=Rb
def ZJ(z:Str):It:=⟨λi _=>i<z.cps.size,λi H y H'=>H'=H/\∃c,z.cps[i]?=some c/\y=.str ⟨#[c]⟩,λi _=>i=z.cps.size⟩
def WJ(tl:TE):TI:=λσ H R=>tl σ H λv H1=>∃z,v=.str z/\R (ZJ z) H1
theorem MJ{l:Expr}{tl:TE}{x:Str}{px:Pos}(hl:PE X l tl):PI X (.Name x px) l (WJ tl):=by
 intro ae s σ H R I h;refine bO (hl ae s σ H _ I h) λv s1 zz=>?_;obtain⟨y,H1,I1,r1,q1⟩:=zz;obtain⟨z,rfl,q⟩:=q1;obtain⟨t,rfl⟩:=r1;have ZK:∀b∈[s1.heap.objs.size],nI X ae H1 b:=λb hb=>by
  have e:b=s1.heap.objs.size:=by simpa using hb
  subst e;exact I1.rQ (dj _) (I1.ba.fresh (dj _))
 have hv:∀i v,SignAt z i v->∃y,RelV y v/\∃c,z.cps[i]?=some c/\y=.str ⟨#[c]⟩:=λi v ⟨c,u,e,ev⟩=>⟨.str ⟨#[c]⟩,⟨u,ev⟩,c,e,rfl⟩;have Df:∀(ty:String)(i:Nat)(h:Heap),h.IsStrIter s1.heap.objs.size ty z t i->∃o,h.get? s1.heap.objs.size=some o/\∀v,o.data≠.cell v:=λty i h ⟨o,e,_,d⟩=>⟨o,e,λv q=>by rw[d]at q;cases q⟩
 have kp:∀(ty:String)(i:Nat)(h h':Heap),h.IsStrIter s1.heap.objs.size ty z t i->(∀o,h.get? s1.heap.objs.size=some o->h'.get? s1.heap.objs.size=some o)->h'.IsStrIter s1.heap.objs.size ty z t i:=λty i h h' ⟨o,e,r⟩ k=>⟨o,k o e,r⟩;cases ha:z.cps.all (· < 128)
 ·refine wpAny_pyIter_wide ha ?_
  exact⟨s1.heap.objs.size,[s1.heap.objs.size],_,_,H1,rfl,I1.kept (t':=s1.toks) λb o e=>Heap.get?_push_of_some _ e,
   De (λi y=>∃c,z.cps[i]?=some c/\y=.str ⟨#[c]⟩) (λA hA=>Walks.strWide hA _ z t) hv (Df _) (kp _) (λ_ _ _ _ _ st h=>wpAny_pyIter_striter_wide st h),⟨_,Heap.get?_push_size _ rfl,rfl,rfl⟩,ZK,q⟩
 ·refine wpAny_pyIter_ascii ha ?_
  exact⟨s1.heap.objs.size,[s1.heap.objs.size],_,_,H1,rfl,I1.kept (t':=s1.toks) λb o e=>Heap.get?_push_of_some _ e,
   De (λi y=>∃c,z.cps[i]?=some c/\y=.str ⟨#[c]⟩) (λA hA=>Walks.strAscii hA _ z t) hv (Df _) (kp _) (λ_ _ _ _ _ st h=>wpAny_pyIter_striter_ascii st h),⟨_,Heap.get?_push_size _ rfl,rfl,rfl⟩,ZK,q⟩
def WK(hi:Int)(n:Nat):It:=⟨λi _=>i<n,λi H x H'=>H'=H/\x=.int (hi-i),λi _=>n<=i⟩
theorem AZ{P:Program}{w:World}{K:bu}(it:Addr)(hi:Int)(n:Nat):Turn P w K tg (WK hi n) [it] it (λi h=>IsRangeIter h it (hi+(i:Nat)*(-1)) ((n:Int)-(i:Nat)) (-1)) where
 mem:=by simp
 obj:=λi h st b hb=>by
  have e:b=it:=by simpa using hb
  subst e;exact⟨_,st,λv z=>by
   have z':Data.fields _=Data.cell v:=z;cases z'⟩
 keep:=λi h h' st k=>k it (by simp) _ st
 item:=by
  intro X hP hw hK hc i ae s σ H E I hf st hg;subst hP hw hK;obtain⟨f0,f1,f2,f3,f4,f5⟩:=hf it (by simp)
  have W:=Walks.range (prog:=X.prog) (w:=X.w) (I.ok.hd hc) it hi (-1) n;refine W.item i s _ _ hg st λv h' tk hv rR kk=>?_;obtain⟨t,rfl⟩:=hv;have I1:Inv X ae σ H {s with heap:=h',toks:=tk}:=I.turned (λb o hb e=>kk b o (by simpa using hb) e) f0 f1 f3 f4 f5
  refine⟨_,rfl,ux (s:={s with heap:=h',toks:=tk}) (n := "range_iterator") rR rfl rfl (by decide) ⟨.int (hi-i),H,I1,⟨t,?_⟩,⟨rfl,rfl⟩,rR,λb hb=>(hf b hb).1⟩⟩
  have e:hi+(i:Int)*(-1)=hi-i:=by omega
  rw[e]
 done:=by
  intro X hP hw hK hc i ae s σ H E I hf st hg;subst hP hw hK;obtain⟨f0,f1,f2,f3,f4,f5⟩:=hf it (by simp)
  exact wpAny_pyNext_range_end (I.ok.hd hc) st (by have:n<=i:=hg;omega) λh' eb=>⟨rfl,I.turned (t':=s.toks) (λb o hb e=>eb b o hb e) f0 f1 f3 f4 f5⟩
 self:=λ_ _ _ _ _ st h=>wpAny_pyIter_rangeiter st h
def Rf(ta:TA):TI:=λσ H R=>ta σ H λvs H1=>∃i:Int,vs=[.int i,.int (-1),.int (-1)]/\-1<=i/\i<2^30/\R (WK i (i+1).toNat) H1
theorem Hr{a b c:Expr}{ta:TA}{p pos:Pos}(hg:Gl X "range")(hm:X.mg "range" = none)(ha:PA X [a,b,c] ta)(hs:starEach [a,b,c] X.env=[(false,eval a X.env),(false,eval b X.env),(false,eval c X.env)]:=by rfl)
  (xg:starEach [b,c] X.env=[(false,eval b X.env),(false,eval c X.env)]:=by rfl):PI X tg (.Call (.Name "range" p) [a,b,c] [] pos) (Rf ta):=by
 intro ae s σ H R I h;refine Call_ (fR I hg hm boot_range (wV (bO (ha pos ae s σ H _ I h) λus s1 ⟨vs,H1,I1,r1,q1⟩=>?_) (by rw[hs,xg]) (by rw[xg];rfl)))
 obtain⟨i,e,q1,q2,q⟩:=q1;subst e;cases r1 with
 |cons r rr=>
  cases rr with
  |cons r' rr=>
   cases rr with
   |cons r'' rr=>
    cases rr;obtain⟨t,rfl⟩:=r;obtain⟨t',rfl⟩:=r';obtain⟨ZL,rfl⟩:=r'';refine call_range_3 (by decide) ?_ (.inl (PyProof.noPylong_small (by decide)))
    have ZM:Builtin.Range.rangeSize i (-1) (-1)=i+1:=by
     unfold Builtin.Range.rangeSize;rw[if_neg (by decide)]
     split
     ·have e:-(-1:Int)=1:=rfl
      rw[e,Int.ediv_one];omega
     ·omega
    have Rg:Builtin.Range.small i (-1) (-1)=true:=by
     unfold Builtin.Range.small;rw[ZM];simp[Builtin.Range.rangeFitsLong];omega
    refine wpAny_pyIter_range (IsRange.new ..) Rg ?_
    generalize hh:s1.heap.push {cls:=.type "range",data:=.fields #[.int i t,.int (-1) t',.int (-1) ZL]}=h2
    have I2:Inv X ae σ H1 {s1 with heap:=h2}:=I1.kept (t':=s1.toks) λb o e=>by rw[<- hh];exact Heap.get?_push_of_some _ e
    refine⟨h2.objs.size,[h2.objs.size],_,_,H1,rfl,I2.kept (t':=s1.toks) λb o e=>Heap.get?_push_of_some _ e,AZ _ i (i+1).toNat,?_,λb hb=>?_,q⟩
    ·have e1:i+((0:Nat):Int)*(-1)=i:=by omega
     have e2:(((i+1).toNat:Nat):Int)-((0:Nat):Int)=Builtin.Range.rangeSize i (-1) (-1):=by
      rw[ZM];omega
     show IsRangeIter _ _ (i+((0:Nat):Int)*(-1)) ((((i+1).toNat:Nat):Int)-((0:Nat):Int)) (-1);rw[e1,e2];exact Heap.get?_push_size _ rfl
    ·have e:b=h2.objs.size:=by simpa using hb
     subst e;exact I2.rQ (dj _) (I2.ba.fresh (dj _))
end
structure Vu(J:It)(src:List V)(I:Hp->Prop):Prop where
 go:∀i H,I H->i<src.length->J.go i H
 yld:∀i H x H',I H->i<src.length->J.yld i H x H'->H'=H/\src[i]?=some x
 stop:∀i H,I H->i=src.length->J.stop i H
theorem Hs(z:Str):Vu (ZJ z) (z.cps.toList.map λc=>V.str ⟨#[c]⟩) (λ_=>True):=
 ⟨λi H _ h=>by have h:i<(z.cps.toList.map λc=>V.str ⟨#[c]⟩).length:=h;rw[cD,Array.length_toList]at h;exact h,
  λi H x H' _ _ y=>by
  obtain⟨e,c,hc,ex⟩:=y;refine⟨e,?_⟩;rw[eG,Array.getElem?_toList,hc,ex];rfl,
  λi H _ h=>by rw[cD,Array.length_toList]at h;exact h⟩
theorem qL(lo:Int)(n:Nat):Vu (Qx lo n) ((b9 n).map λk=>V.int (lo+(k:Nat))) (λ_=>True):=
 ⟨λi H _ h=>by have h:i<((b9 n).map λk=>V.int (lo+(k:Nat))).length:=h;rw[cD,j5]at h;exact h,
  λi H x H' _ hi y=>by
  obtain⟨e,ex⟩:=y;refine⟨e,?_⟩;have hi:i<n:=by rw[cD,j5]at hi;exact hi
  rw[eG,yw hi,ex];rfl,
  λi H _ h=>by rw[cD,j5]at h;exact Cp h.symm⟩
section
def ZN(K:bu)(a:Addr)(xs:List V):It:=⟨λi H=>i<xs.length/\df K H a xs,λi H y H'=>H'=H/\xs[xs.length-1-i]?=some y,λi _=>i=xs.length⟩
theorem Dg{P:Program}{w:World}{K:bu}(a it:Addr)(xs:List V):Turn P w K tg (ZN K a xs) [it] it (λi h=>h.IsRevIter it a ((xs.length:Int)-1-(i:Int))) where
 mem:=by simp
 obj:=λi h st b hb=>by
  have e:b=it:=by simpa using hb
  subst e;obtain⟨o,e,c,d⟩:=st;exact⟨o,e,λv z=>by rw[d]at z;cases z⟩
 keep:=λi h h' st k=>st.at λo e=>k it (by simp) o e
 item:=by
  intro X hP hw hK hc i ae s σ H E I hf st hg;subst hP hw hK;obtain⟨hi,hq⟩:=hg;obtain⟨its,rv,p,hz⟩:=I.list hq;have hx:xs[xs.length-1-i]?=some (xs[xs.length-1-i]'(by omega)):=cj (by omega)
  obtain⟨u,hu,ru⟩:=rv.get hx;obtain⟨f0,f1,f2,f3,f4,f5⟩:=hf it (by simp)
  have e:(xs.length:Int)-1-(i:Int)=((xs.length-1-i:Nat):Int):=by omega
  rw[e]at st;refine wpAny_pyNext_rev_item st p.isList (x:=u) (by simpa using hu) λh' rR sb=>?_
  have I1:Inv X ae σ H {s with heap:=h'}:=I.turned (t':=s.toks) (λb o hb e=>(sb.2 b hb).trans e) f0 f1 f3 f4 f5
  have e2:((xs.length-1-i:Nat):Int)-1=(xs.length:Int)-1-((i+1:Nat):Int):=by omega
  rw[e2]at rR;obtain⟨o,eo,c,d⟩:=id rR;exact⟨u,rfl,ux (s:={s with heap:=h'}) eo c d (by decide) ⟨_,H,I1,ru,⟨rfl,hx⟩,rR,λb hb=>(hf b hb).1⟩⟩
 done:=by
  intro X hP hw hK hc i ae s σ H E I hf st hg;subst hP hw hK;obtain⟨f0,f1,f2,f3,f4,f5⟩:=hf it (by simp)
  have hg:i=xs.length:=hg;have e:(xs.length:Int)-1-(i:Int)=-1:=by omega
  rw[e]at st;exact wpAny_pyNext_rev_end (I.ok.hd hc) st λh' eb=>⟨rfl,I.turned (t':=s.toks) (λb o hb e=>eb b o hb e) f0 f1 f3 f4 f5⟩
 self:=λ_ _ _ _ _ st h=>wpAny_pyIter_revIter st h
def WL(K:bu)(ta:TA):TI:=λσ H R=>ta σ H λvs H1=>∃a xs,vs=[.ref a]/\df K H1 a xs/\R (ZN K a xs) H1
theorem MK{a:Expr}{ta:TA}{p pos:Pos}(hg:Gl X "reversed")(hm:X.mg "reversed" = none)(ha:PA X [a] ta)(hs:starEach [a] X.env=[(false,eval a X.env)]:=by rfl):PI X tg (.Call (.Name "reversed" p) [a] [] pos) (WL X.K ta):=by
 intro ae s σ H R I h;refine Call_ (fR I hg hm PyProof.Rows.boot_reversed (wV (bO (ha pos ae s σ H _ I h) λus s1 ⟨vs,H1,I1,r1,q1⟩=>?_) hs rfl));obtain⟨l,xs,e,hq,q⟩:=q1;subst e;cases r1 with
 |cons r rr=>
  cases rr;cases r;obtain⟨its,rv,pl,hz⟩:=I1.list hq;have ck:=rv.length;refine call_reversed_list pl.isList (wpAny_pyIter_revIter ⟨_,Heap.get?_push_size _ rfl,rfl,rfl⟩ ?_);refine⟨s1.heap.objs.size,[s1.heap.objs.size],_,_,H1,rfl,I1.kept (t':=s1.toks) λb o e=>Heap.get?_push_of_some _ e,Dg l _ xs,?_,λb hb=>?_,q⟩
  ·refine⟨_,Heap.get?_push_size _ rfl,rfl,?_⟩
   have e:((its.toArray.size:Nat):Int)-1=(xs.length:Int)-1-((0:Nat):Int):=by rw[b_,<- ck];omega
   rw[<- e];rfl
  ·have e:b=s1.heap.objs.size:=by simpa using hb
   subst e;exact I1.rQ (dj _) (I1.ba.fresh (dj _))
end
section
theorem qj:AS X "str.startswith" (λx vs H Q=>∃a b,x=.str a/\vs=[.str b]/\Q (.bl (Txt.startswith a b)) H):=by
 intro ae s σ H x vs v us Q I rx rv h;obtain⟨a,b,rfl,rfl,q⟩:=h;obtain⟨t,rfl⟩:=rx;obtain⟨u,rfl,⟨t',rfl⟩⟩:=rv.one;exact SC.startswith ⟨.bl _,H,I,rfl,q⟩
theorem uB:AS X "str.endswith" (λx vs H Q=>∃a b,x=.str a/\vs=[.str b]/\Q (.bl (Txt.endswith a b)) H):=by
 intro ae s σ H x vs v us Q I rx rv h;obtain⟨a,b,rfl,rfl,q⟩:=h;obtain⟨t,rfl⟩:=rx;obtain⟨u,rfl,⟨t',rfl⟩⟩:=rv.one;exact SC.endswith ⟨.bl _,H,I,rfl,q⟩
theorem Dh:AS X "str.find" (λx vs H Q=>∃a b i,x=.str a/\vs=[.str b,.int i]/\Q (.int (Txt.find3 a b i)) H):=by
 intro ae s σ H x vs v us Q I rx rv h;obtain⟨a,b,i,rfl,rfl,q⟩:=h;obtain⟨t,rfl⟩:=rx;obtain⟨u,u',rfl,⟨t',rfl⟩,⟨ZL,rfl⟩⟩:=rv.two;exact SC.find3 ⟨.int _,H,I.tok _,⟨_,rfl⟩,q⟩
theorem nT:∀{ys:Bi}{us:B2},Vals (ys.map V.str) us->StrsAre us ys
 |[],_,.nil=>.nil
 |y::ys,_,.cons ⟨t,e⟩ r=>by
  subst e;exact .cons y t (nT (ys:=ys) r)
theorem Ht:AS X "str.join" (λx vs H Q=>∃sep l ys,x=.str sep/\vs=[.ref l]/\df X.K H l (ys.map V.str)/\(ys.map (·.length)).sum+ys.length*sep.length<=16777216/\Q (.str (Str.join sep ys)) H):=by
 intro ae s σ H x vs v us Q I rx rv h;obtain⟨sep,l,ys,rfl,rfl,hl,hz,q⟩:=h;obtain⟨t,rfl⟩:=rx;obtain⟨u,rfl,ru⟩:=rv.one;cases ru;obtain⟨its,r,p,_⟩:=I.list hl;refine join_list p.isList (ys:=ys) (by simpa using nT r) hz λt' k=>?_
 have e:Txt.join sep ys=Str.join sep ys:=StrLaws.glued_eq_join sep ys;rw[e];exact⟨.str _,H,I.tok _,⟨_,rfl⟩,q⟩
theorem ML:KP X (λx lo hi H Q=>∃z,x=.str z/\z.length<=sizeLine/\Q (.str (Txt.slice z lo hi)) H):=by
 intro ae s σ H x v vl vu lo hi sl Q I rx hs pl pu h;obtain⟨z,rfl,hz,q⟩:=h;obtain⟨t,rfl⟩:=rx;refine⟨"str",_,F.slot_str_getitem.lookup,typeIs_str _ _ _,?_⟩;obtain⟨o,ho,hc,hd⟩:=hs;cases pl with
 |none=>
  cases pu with
  |none=>exact wpAny_getItem_str_slice (l:=none) (u:=none) (st:=none) ⟨o,ho,hc,hd⟩ rfl (post_val_or_str ⟨gP (Txt.slice_le z _ _) hz,λt' k=>⟨.str _,H,I.tok _,⟨_,rfl⟩,q⟩⟩)
  |int j tj=>exact wpAny_getItem_str_slice (l:=none) (u:=some (j,tj)) (st:=none) ⟨o,ho,hc,hd⟩ rfl (post_val_or_str ⟨gP (Txt.slice_le z _ _) hz,λt' k=>⟨.str _,H,I.tok _,⟨_,rfl⟩,q⟩⟩)
 |int i ti=>
  cases pu with
  |none=>exact wpAny_getItem_str_slice (l:=some (i,ti)) (u:=none) (st:=none) ⟨o,ho,hc,hd⟩ rfl (post_val_or_str ⟨gP (Txt.slice_le z _ _) hz,λt' k=>⟨.str _,H,I.tok _,⟨_,rfl⟩,q⟩⟩)
  |int j tj=>exact wpAny_getItem_str_slice (l:=some (i,ti)) (u:=some (j,tj)) (st:=none) ⟨o,ho,hc,hd⟩ rfl (post_val_or_str ⟨gP (Txt.slice_le z _ _) hz,λt' k=>⟨.str _,H,I.tok _,⟨_,rfl⟩,q⟩⟩)
theorem uC:gi X (compareOp .IsNot) (λx y H Q=>∃a b,x=.bl a/\y=.bl b/\Q (.bl (a != b)) H):=by
 intro ae s σ H x y v u Q I rx ry h;obtain⟨a,b,rfl,rfl,q⟩:=h;cases rx;cases ry;exact isnot_bool (iU I q rfl)
theorem uD:fm X (.builtin "isinstance") (λxs H Q=>∃x T t b,xs=[x,.ty T]/\jo X.K H x t/\rB X.K t (.type T)=some b/\Q (.bl b) H):=by
 intro ae s σ H xs us Q I r h;obtain⟨x,T,t,b,rfl,ty,e,q⟩:=h;obtain⟨u,u',rfl,ru,Ri⟩:=vals2 r;cases Ri;exact qE I ru ty e λtk=>⟨.bl b,H,I.tok _,rfl,q⟩
theorem nU{ks:Fh}{its:B2}(r:Vals (ks.map V.bl) its)(A:Around):TruthOf X.prog X.w A (λi v=>its.toArray[i]?=some v) (λi=>ks.getD i true):=by
 intro i v s Q E hv hQ;have hv:its[i]?=some v:=by simpa using hv
 have hi:i<ks.length:=by
  have h1:=(eA.mp hv).1;have h2:=r.length;rw[cD]at h2;omega
 obtain⟨u,e,ru⟩:=r.get (i:=i) (x:=.bl ks[i]) (by rw[eG,cj hi];rfl)
 rw[hv]at e;cases e;cases ru;have g:ks.getD i true=ks[i]:=by rw[j6,cj hi];rfl
 have hQ:Q (ks.getD i true) s:=hQ;rw[g]at hQ;exact wpAny_truthy_bool hQ
theorem range_all(ks:Fh):(b9 ks.length).all (λi=>ks.getD i true)=ks.all id:=by
 induction ks with
 |nil=>rfl
 |cons k ks ih=>
  rw[dP,B8,fF,JY,fF,<- ih];rfl
theorem range_any(ks:Fh):(b9 ks.length).any (λi=>ks.getD i true)=ks.any id:=by
 induction ks with
 |nil=>rfl
 |cons k ks ih=>
  rw[dP,B8,nB,Ax,nB,<- ih];rfl
theorem Di(hc:X.calm=true):fm X (.builtin "all") (λxs H Q=>∃(p:Addr)(ks:Fh),xs=[.ref p]/\df X.K H p (ks.map V.bl)/\Q (.bl (ks.all id)) H):=by
 intro ae s σ H xs us Q I r h;obtain⟨p,ks,rfl,hp,q⟩:=h;obtain⟨u,rfl,ru⟩:=vals1 r;cases ru;obtain⟨its,rv,pl,hz⟩:=I.list hp;have ck:=rv.length;rw[cD]at ck;refine call_all_walk (wpAny_pyIter_list pl.isList ?_);have iQ:p≠s.heap.objs.size:=let⟨_,e,_⟩:=pl.isList;eL (Heap.lt_size e);refine⟨s.heap.objs.size,_,[s.heap.objs.size],its.toArray.size,_,_,λi=>ks.getD i true,rfl,Walks.list (show X.A.in1.handled=none from I.ok.hd hc) s.heap.objs.size p iQ its.toArray,⟨⟨_,Heap.get?_push_size _ rfl,rfl,rfl⟩,Heap.IsList.push pl.isList _⟩,nU rv _,λh' tk kk=>?_⟩;rw[b_,<- ck,range_all];refine⟨.bl _,H,?_,rfl,q⟩;refine I.kept λb o e=>kk b o (λz=>?_) (Heap.get?_push_of_some _ e);have hb:b=s.heap.objs.size:=by simpa using z
 rw[hb]at e;exact rF _ (Heap.lt_size e)
theorem Dj(hc:X.calm=true):fm X (.builtin "any") (λxs H Q=>∃(p:Addr)(ks:Fh),xs=[.ref p]/\df X.K H p (ks.map V.bl)/\Q (.bl (ks.any id)) H):=by
 intro ae s σ H xs us Q I r h;obtain⟨p,ks,rfl,hp,q⟩:=h;obtain⟨u,rfl,ru⟩:=vals1 r;cases ru;obtain⟨its,rv,pl,hz⟩:=I.list hp;have ck:=rv.length;rw[cD]at ck;refine call_any_walk (wpAny_pyIter_list pl.isList ?_);have iQ:p≠s.heap.objs.size:=let⟨_,e,_⟩:=pl.isList;eL (Heap.lt_size e);refine⟨s.heap.objs.size,_,[s.heap.objs.size],its.toArray.size,_,_,λi=>ks.getD i true,rfl,Walks.list (show X.A.in1.handled=none from I.ok.hd hc) s.heap.objs.size p iQ its.toArray,⟨⟨_,Heap.get?_push_size _ rfl,rfl,rfl⟩,Heap.IsList.push pl.isList _⟩,nU rv _,λh' tk kk=>?_⟩;rw[b_,<- ck,range_any];refine⟨.bl _,H,?_,rfl,q⟩;refine I.kept λb o e=>kk b o (λz=>?_) (Heap.get?_push_of_some _ e);have hb:b=s.heap.objs.size:=by simpa using z
 rw[hb]at e;exact rF _ (Heap.lt_size e)
theorem lZ:∀{xs:List V}{us:B2},xs.length=us.length->(∀(i:Nat)x u,xs[i]?=some x->us[i]?=some u->RelV x u)->Vals xs us
 |[],[],_,_=>.nil
 |[],_::_,h,_=>by simp at h
 |_::_,[],h,_=>by simp at h
 |x::xs,u::us,h,k=>.cons (k 0 x u rfl rfl) (lZ (by simpa using h) λi y w h1 h2=>k (i+1) y w (by simpa using h1) (by simpa using h2))
theorem A0:fm X (.type "range") (λxs H Q=>∃j,xs=[.int j]/\∀p,H p=none->Q (.ref p) (upd H p (.jv 0 j))):=by
 intro ae s σ H xs us Q I r h;obtain⟨j,rfl,q⟩:=h;obtain⟨u,rfl,⟨t,rfl⟩⟩:=vals1 r;refine call_range_1 ⟨.ref s.heap.objs.size,_,I.laid (o:=.jv 0 j) (λb o e=>Heap.get?_push_of_some _ e) (dj _) ⟨_,_,_,Heap.get?_push_size _ rfl⟩,rfl,q _ I.fresh⟩
theorem qk(hc:X.calm=true):fm X (.type "list") (λxs H Q=>∃p hi,xs=[.ref p]/\H p=some (.jv 0 hi)/\0<=hi/\hi<=2^20/\∀l,H l=none->Q (.ref l) (upd H l (.lst ((b9 hi.toNat).map λk=>V.int (k:Nat))))):=by
 intro ae s σ H xs us Q I r h;obtain⟨p,hi,rfl,hp,h0,h1,q⟩:=h;obtain⟨u,rfl,ru⟩:=vals1 r;cases ru;obtain⟨t,u,v,e⟩:=I.ba p _ hp;refine call_list_range (I.ok.hd hc) (a:=0) (b:=hi) (c:=1) (n:=hi.toNat) e (small_one (by omega) (by omega) (by omega) (by omega)) (by rw[rangeSize_one];split<;>omega) (by omega) λh' tk c8 c' hk hl hit=>?_
 obtain⟨hsz,hit⟩:=hit;refine⟨.ref s.heap.objs.size,_,I.laid (o:=.lst ((b9 hi.toNat).map λk=>V.int (k:Nat))) (λb o e=>hk b o e) (dj _) ⟨?_,c8.toList,c',?_,by simpa using hl⟩,rfl,q _ I.fresh⟩
 ·rw[cD,j5,sizeLine_eq];omega
 ·refine lZ (by rw[cD,j5,Array.length_toList,hsz]) λi x u hx hu=>?_
  have WM:i<hi.toNat:=by
   have:=(eA.mp hx).1
   rw[cD,j5]at this;exact this
  rw[eG,yw WM]at hx;cases hx;obtain⟨t,rfl⟩:=hit i u (by simpa using hu)
  exact⟨t,by congr 1;omega⟩
end
end L2
namespace K32
open PySem L2
noncomputable abbrev top(i:Nat):Stmt:=PySem.Challenge.pw_rowblade_k32_truths_of_a_row.main.body.getD i (.Pass ⟨0,0,0,0⟩)
end K32
noncomputable section
namespace KH
open PySem PySem.W PySem.Calls PyProof.Rows L2 K32
abbrev pw:Program:=PySem.Challenge.pw_rowblade_k32_truths_of_a_row
noncomputable abbrev r(a:Nat):Value:=.ref a
noncomputable abbrev O(c:Value)(d:Option Addr)(x:Data)(s:List D1):Obj:=⟨c,d,x,⟨s⟩⟩
abbrev W:=Params->Obj
abbrev Z:=Str×Nat×Value
noncomputable abbrev D(P:Params)(e:Z):DictEntry:=⟨PyData.keyHash P e.1,.str e.1 e.2.1,e.2.2⟩
abbrev fN(n q:Str)(s:Stmt)(g:Addr)(cl:List (Str×Addr))(dv kv doc pm:Value)(an:Option Addr)(cd ct:Value)(b:Addr):FuncData:=⟨n,q,kj s,.stmts (cU s),aD s,g,cl,dv,kv,doc,pm,an,cd,ct,b⟩
abbrev C(n q:Str)(t u L a b c g:Nat)(x:Addr)(B:Bool)(y:Addr)(k l m o:Value):W:=λ_=>O (.type "code") none (.fields ⟨[.str n t,.str q (t+1),.str "/claim/cut.py" (t+2),.int (mD L) 0,.int (mD a) 0,.int (mD b) 0,.int (mD c) 0,.int (mD g) 0,r x,.bool B,.int (mD 181) 0,r y,k,l,m,o,.int (mD u) 0,.int (mD L) 0,.str "/claim/cut.py" (u+1)]⟩) []
abbrev cf(n q:Str)(t u L a x:Nat):W:=C n q t u L a 0 0 3 x true (x+1) .none (r (x+2)) (r (x+3)) (r (x+4))
abbrev cg(n:Str)(t u L a x:Nat):W:=cf n n t u L a x
abbrev cc(n:Str)(t L x:Nat):W:=C n n t (t+3) L 0 0 0 0 x false (x+1) .none .none .none .none
abbrev lt(b:Nat)(l:List (Nat×Nat)):W:=λ_=>O .none none (.fields ⟨(l.map λp=>[.int (mD p.1) 0,.int (mD b) 0,r p.2]).flatten⟩) []
abbrev fO(n q:Str)(s:Stmt)(m:Value)(c:Nat):W:=λ_=>O (.type "function") none (.func (fN n q s 3 [] .none .none .none m none (r c) .none 0)) []
abbrev fn(n q:Str)(s:Stmt):W:=λ_=>O .none none (.func (fN n q s 0 [] .none .none .none .none none .none .none 0)) []
def sS:Nat->Bi->B2
 |_,[]=>[]
 |k,x::l=>.str x k::sS (k+1) l
abbrev tS(k:Nat)(l:Bi):W:=λ_=>O (.type "tuple") none (.seq ⟨sS k l⟩ 0) []
abbrev tV(l:B2):W:=λ_=>O (.type "tuple") none (.seq ⟨l⟩ 0) []
abbrev di(n:Nat)(l:List Z):W:=λP=>O (.type "dict") none (.dict ⟨l.map (D P)⟩ n) []
abbrev c1(m:Value)(b:Nat)(q:Str)(L:Nat)(xs:List Z)(st sr n:Nat):W:=di n (("__module__",b,m)::("__qualname__",b+2,.str q (b+1))::("__firstlineno__",b+4,.int (mD L) (b+3))::(xs.append [("__static_attributes__",st,r sr)]))
abbrev c2(m:Value)(b L:Nat)(xs:List Z)(st sr:Nat)(ys:List Z)(dt n:Nat):W:=di n (("__module__",b,m)::("__firstlineno__",b+4,.int (mD L) (b+3))::(xs.append (("__static_attributes__",st,r sr)::(ys.append [("__doc__",dt,.none)]))))
abbrev cG(n:Str)(bs mr:B2)(d:Nat)(su:B2)(h:D1)(t:Nat)(nw:String):W:=λ_=>O (.type "type") none (.cls ⟨n,bs,mr,d,n,true,[],su,false,none,false⟩) [h,none,some (.str n t),some (.str n (t+8)),some (.builtin nw),some (.bool true)]
abbrev ob:Value:=.type "object"
abbrev cB(n:Str)(d b:Nat)(su:B2)(h t:Nat):W:=cG n [r b] [r (d+1),r b,ob] d su (some (r h)) t "object.__new__"
abbrev c0(n:Str)(d:Nat)(su:B2)(t:Nat):W:=cG n [ob] [r (d+1),ob] d su none t "object.__new__"
abbrev fr(c l:Nat)(m:Value):W:=λ_=>O (.type "frame") none .plain [some (r c),some (r 3),some (r l),none,some m,none,some (r 0)]
abbrev is(c:Nat):W:=λ_=>O (.type "builtin_function_or_method") none (.fields ⟨[.builtin "object.__init_subclass__",r c]⟩) []
abbrev su(c:Nat):W:=λ_=>O (.type "super") none (.fields ⟨[r c,r c,r c]⟩) []
noncomputable abbrev gd(t c:Nat):W:=λ_=>O (.type "getset_descriptor") none (.fields ⟨[.str "__dict__" t,r c,.builtin "function.__dict__",.builtin "function.__dict__#set"]⟩) []
abbrev gw(t c:Nat):W:=λ_=>O (.type "getset_descriptor") none (.fields ⟨[.str "__weakref__" t,r c,.builtin "ExceptionGroup.__weakref__",.none]⟩) []
noncomputable abbrev N(o:Params->Obj)(l r:Params->BT):Params->BT:=λP=>.node (o P) (l P) (r P)
noncomputable abbrev E:Params->BT:=λ_=>.nil
abbrev L(o:Params->Obj):Params->BT:=N o E E
abbrev m0:Value:=.str "__main__" 164
abbrev m1:Value:=.str "rowblade.rows" 194
abbrev m2:Value:=.str "rowblade.lines" 204
abbrev m3:Value:=.str "rowblade.errors" 755
abbrev m4:Value:=.str "rowblade.signs" 893
abbrev m5:Value:=.str "rowblade.patterns" 916
abbrev m6:Value:=.str "rowblade.stretches" 1044
abbrev m7:Value:=.str "rowblade.truths" 1102
abbrev m8:Value:=.str "rowblade.pieces" 1223
abbrev m9:Value:=.str "rowblade.walker" 1273
abbrev m10:Value:=.str "rowblade.walk" 1497
abbrev mX:Value:=.str "rowblade.linereading" 1511
abbrev Vv:Value:=.str "rowblade.reading" 1729
abbrev Dk:Value:=.str "law_rowblade_k32_truths_of_a_row" 1772
abbrev d0:List Z:=[("__doc__",166,.none),("__package__",167,.none),("__loader__",168,(.builtin "__main__.__loader__#opaque")),("__spec__",169,.none),("__annotations__",170,(r 6)),("__builtins__",171,(r 4)),("__file__",173,(.str "/claim/cut.py" 172)),("__cached__",174,.none),("_wall",193,(r 21)),("cut",203,(r 28)),("Program",234,(r 45)),("Line",265,(r 66)),("Cond",285,(r 80)),("Always",301,(r 94)),("RowIs",326,(r 113))]
noncomputable abbrev l0:List (Nat×Nat):=[(1,20),(5,27),(11,34),(15,55),(20,76),(22,90),(24,102)]
abbrev d1:=d0.append [("Last",342,(r 125)),("Like",367,(r 144)),("Soon",394,(r 163)),("FromTo",421,(r 182)),("Not",446,(r 201))]
abbrev l1:=l0++[(28,121),(30,133),(34,152),(39,171),(44,190)]
abbrev d2:=d1.append [("End",462,(r 213)),("Deed",482,(r 225)),("Mark",507,(r 246)),("Drop",523,(r 258)),("Print",539,(r 270))]
abbrev l2:=l1++[(48,209),(50,221),(52,235),(56,254),(58,266)]
abbrev d3:=d2.append [("Done",555,(r 282)),("Say",580,(r 301)),("Swap",609,(r 320)),("Join",634,(r 339)),("Pile",661,(r 358))]
abbrev l3:=l2++[(60,278),(62,290),(66,309),(72,328),(76,347)]
abbrev d4:=d3.append [("Bring",686,(r 377)),("Go",711,(r 396)),("Add",738,(r 415)),("Tell",754,(r 427)),("BladeError",774,(r 439))]
abbrev l4:=l3++[(81,366),(85,385),(89,404),(94,423),(97,435)]
abbrev d5:=d4.append [("NoPattern",790,(r 452)),("NoLine",815,(r 471)),("TwoMarks",840,(r 490)),("NoMark",865,(r 509)),("Endless",892,(r 528))]
abbrev l5:=l4++[(99,448),(101,460),(105,479),(109,498),(113,517)]
abbrev d6:=(d5.append [("SIGNS",896,(.str "abcdefghijklmnopqrstuvwxyzABCDEFGHIJKLMNOPQRSTUVWXYZ0123456789 !\"#$&'()*+,-./:;<=>?\x40[\\]^_`{|}~" 895)),("SMALL_LETTERS",898,(.str "abcdefghijklmnopqrstuvwxyz" 897)),("FIGURES",900,(.str "0123456789" 899)),("made_of",906,(r 535)),("beginning_of",915,(r 542)),("MOST_ITEMS",919,(.int (8) 918)),("MOST_SIGNS",921,(.int (12) 920)),("NEVER_PLAIN",923,(.str "^$.[]*+?/" 922)),("NEVER_IN_A_SET",925,(.str "]^/" 924)),("ONCE",927,(.str "1" 926)),("HOW_MANY",929,(.str "*+?" 928)),("may_stand_plain",936,(r 549)),("pattern",947,(r 556)),("items_of",958,(r 563)),("place_behind_core",967,(r 570)),("many_at",975,(r 577)),("item_of",983,(r 584)),("set_item",989,(r 589)),("is_written_plain",997,(r 596)),("written",1008,(r 603)),("written_core",1016,(r 610)),("may_be_empty",1023,(r 617)),("least_length",1029,(r 622)),("may_be_left_out",1036,(r 629)),("may_come_again",1043,(r 636))]).append [("NOWHERE",1048,(.int (-1) 1047)),("stretch",1060,(r 644)),("found",1068,(r 651)),("greatest_ends",1078,(r 658)),("ends_behind_items",1086,(r 665)),("ends_with_item",1101,(r 672)),("TextRow",1144,(r 696)),("text_rows",1150,(r 705))]
abbrev l6:=l5++[(122,534),(124,541),(136,548),(138,555),(150,562),(159,569),(166,576),(170,583),(178,588),(190,595),(192,602),(199,609),(207,616),(209,621),(211,628),(213,635),(217,643),(223,650),(225,657),(230,664),(234,671),(248,678),(260,704)]
abbrev d7:=d6.append [("Truths",1206,(r 739)),("holds",1214,(r 750)),("is_row_up_to",1222,(r 757)),("MOST_FIGURES_pieces",1226,(.int (60) 1225)),("first_swapped",1236,(r 764)),("every_swapped",1249,(r 771)),("words_of",1255,(r 776)),("word_of",1264,(r 783)),("number_of",1272,(r 790))]
abbrev l7:=l6++[(262,711),(293,749),(299,756),(303,763),(308,770),(321,775),(323,782),(328,789)]
abbrev d8:=d7.append [("Walker",1480,(r 947)),("given_in",1486,(r 956)),("numbers_of_marks",1496,(r 963)),("walk",1510,(r 970)),("COND_BEGINNINGS",1520,(r 971)),("MOST_ROW",1522,(.int (999) 1521)),("MOST_FIGURES_linereading",1524,(.int (3) 1523)),("MOST_SOON",1526,(.int (3) 1525)),("LEAST_JOIN",1528,(.int (2) 1527)),("MOST_SMALL",1530,(.int (9) 1529)),("MOST_LETTERS",1532,(.int (8) 1531)),("MOST_TEXT",1534,(.int (40) 1533))]
abbrev l8:=l7++[(334,796),(483,955),(485,962),(492,969)]
abbrev d9:=(d8.append [("Scan",1607,(r 1023)),("line_of",1617,(r 1034)),("line_next",1623,(r 1039)),("cond_next",1630,(r 1046)),("plain_cond_next",1639,(r 1053)),("row_or_pattern_next",1646,(r 1060)),("deed_next",1653,(r 1067)),("swap_next",1662,(r 1074)),("pile_next",1670,(r 1081)),("add_next",1678,(r 1088)),("number_next",1689,(r 1095)),("name_next",1697,(r 1102)),("words_next",1705,(r 1109)),("pattern_next",1713,(r 1116)),("may_stand",1721,(r 1123)),("may_swap",1728,(r 1130)),("MOST_LINES",1732,(.int (24) 1731)),("read",1741,(r 1137)),("lines_of",1751,(r 1144)),("marks_of",1761,(r 1151)),("refuse_go_without_mark",1771,(r 1158)),("_law_cell_at",1781,(r 1165)),("_law_signs",1790,(r 1172)),("_law_row",1802,(r 1179)),("_law_pattern",1817,(r 1186))]).append [("_law_cond",1827,(r 1193)),("_law_written",1836,(r 1200))]
abbrev l9:=l8++[(508,977),(540,1033),(546,1038),(554,1045),(560,1052),(572,1059),(576,1066),(601,1073),(605,1080),(610,1087),(614,1094),(622,1101),(627,1108),(632,1115),(638,1122),(644,1129),(650,1136),(655,1143),(662,1150),(670,1157),(675,1164),(679,1171),(683,1178),(691,1185),(700,1192),(712,1199)]
abbrev d10:=d9.append [("_law_part",1845,(r 1207)),("_law_holds",1851,(r 1212)),("_law_due",1866,(r 1219)),("_law_exact",1875,(r 1226)),("law",1881,(r 1231))]
abbrev l10:=l9++[(723,1206),(736,1211),(746,1218),(761,1225),(770,1230)]
abbrev fh:=tV []
abbrev mY:W:=λP=>O .none none (.fields ⟨[]⟩) []
abbrev A1:W:=λP=>O (.type "builtin_function_or_method") none (.fields ⟨[(.builtin "type.__prepare__"),(.type "type")]⟩) []
abbrev KR:=tV [(r 80)]
abbrev mL:=tV [(r 225)]
abbrev Rj:=tV [(r 439)]
abbrev WN:W:=λP=>O (.type "function") none (.func (fN "stretch" "stretch" (top 64) 3 [] (r 637) .none .none (.str "rowblade.stretches" 1044) none (r 643) .none 0)) []
def od:List W->List W
 |[]=>[]
 |x::r=>x::(match r with
  |[]=>[]
  |_::r=>od r)
def br:Nat->List W->Params->BT
 |0,_,_=>.nil
 |n+1,l,P=>(match l with
  |[]=>.nil
  |x::r=>.node (x P) (br n (od r) P) (br n (od r.tail) P))
def ov:List W->Nat->Nat->List (Nat×W)->List W
 |[],_,_,_=>[]
 |x::l,i,n,q=>(match n.beq i with
  |true=>[]
  |false=>(match q with
   |[]=>x::ov l (i+1) n []
   |y::r=>(match y.1.beq i with
    |true=>y.2::ov l (i+1) n r
    |false=>x::ov l (i+1) n q)))
abbrev ZP:List Z:=[("__init__",1124,(r 686)),("has",1133,(r 693))]
abbrev ZQ:List Z:=[("__init__",1168,(r 717)),("told_of",1180,(r 724)),("truth",1186,(r 729)),("truth_of_stretch",1196,(r 736))]
abbrev ZR:List Z:=[("__init__",1294,(r 804)),("want",1301,(r 811)),("take",1310,(r 818)),("take_with",1319,(r 825)),("go_on",1326,(r 832)),("meet",1336,(r 839)),("hand_over",1343,(r 846)),("finish",1351,(r 853)),("find_none",1358,(r 860)),("give",1366,(r 867)),("end_turn",1373,(r 874)),("give_hand_and_end",1380,(r 881)),("do",1389,(r 888)),("do_giving",1397,(r 895)),("do_swap",1405,(r 902)),("do_join",1413,(r 909)),("do_pile",1422,(r 916)),("do_bring",1431,(r 923)),("rows_on_shelves",1438,(r 930)),("do_add",1450,(r 937)),("do_tell",1458,(r 944))]
abbrev ZS:List Z:=[("__init__",1555,(r 985)),("refuse",1562,(r 992)),("passes",1570,(r 999)),("must_pass",1578,(r 1006)),("while_made_of",1587,(r 1013)),("between",1597,(r 1020))]
abbrev eU(s1:Str)(n3 n4 n5 n6 n7:Nat)(l0:Bi)(m2:Value):List W:=[fh,mY,tS (n7+3) l0,fh,fn s1 s1 (top n4),cg s1 n7 (n7+l0.length+3) n5 n3 n6,fO s1 s1 (top n4) m2 (n6+5)]
abbrev MM(s1:Str)(n2 n3 n4 n5:Nat)(w0:W):List W:=[w0,A1,c1 m2 (n5+7) s1 n2 [] (n5+12) (n4+7) 4,fh,mY,cc s1 (n5+2) n2 (n4+3),fr (n4+5) (n4+2) m2,fh,c2 m2 (n5+7) n2 [] (n5+12) (n4+7) [] (n5+13) 2,cB s1 (n4+8) n3 [] n4 n5,su (n4+9),is (n4+9)]
abbrev A2(s1 s3:Str)(n5 n6 n7 n8 n9 wG:Nat)(l2 l4:Bi)(w0:W):List W:=[w0,A1,c1 m2 (wG+7) s1 n7 [("__init__",(wG+l2.length+17),(r (n9+13)))] (wG+l2.length+l2.length+17) (n9+14) 5,fh,lt 4 [((n7+2),(n9+12))],cc s1 (wG+2) n7 (n9+3),fr (n9+5) (n9+2) m2,fh,mY,tS (wG+15) l2,fh,fn "__init__" s3 (inClass (top n6) 0),cf "__init__" s3 (wG+12) (wG+l2.length+15) (n7+2) n5 (n9+7),fO "__init__" s3 (inClass (top n6) 0) m2 (n9+12),tS (wG+l2.length+18) l4,c2 m2 (wG+7) n7 [("__init__",(wG+l2.length+17),(r (n9+13)))] (wG+l2.length+l2.length+17) (n9+14) [] (wG+l2.length+l2.length+18) 2,cB s1 (n9+15) n8 [] n9 wG,su (n9+16),is (n9+16)]
abbrev Vw(s0 s2:Str)(n4 n5 n6 n7 n8:Nat)(l1 l3:Bi):List W:=[Rj,A1,c1 m3 (n8+7) s0 n6 [("__init__",(n8+l1.length+17),(r (n7+13)))] (n8+l1.length+l1.length+17) (n7+14) 5,fh,lt 4 [((n6+2),(n7+12))],cc s0 (n8+2) n6 (n7+3),fr (n7+5) (n7+2) m3,fh,mY,tS (n8+15) l1,fh,fn "__init__" s2 (inClass (top n5) 0),cf "__init__" s2 (n8+12) (n8+l1.length+15) (n6+2) n4 (n7+7),fO "__init__" s2 (inClass (top n5) 0) m3 (n7+12),tS (n8+l1.length+18) l3,c2 m3 (n8+7) n6 [("__init__",(n8+l1.length+17),(r (n7+13)))] (n8+l1.length+l1.length+17) (n7+14) [] (n8+l1.length+l1.length+18) 2,cG s0 [(r 439)] [(r (n7+16)),(r 439),(.type "ValueError"),(.type "Exception"),(.type "BaseException"),(.type "object")] (n7+15) [] (some (r n7)) n8 "ValueError.__new__",su (n7+16),is (n7+16)]
abbrev jE(s1 s2:Str)(n4 n5 n6 n7 n8 n9:Nat)(l0:Bi)(m3:Value):List W:=[fh,mY,tS (n9+3) l0,fh,fn s1 s2 (inClass (top n6) n5),cf s1 s2 n9 (n9+l0.length+3) n7 n4 n8,fO s1 s2 (inClass (top n6) n5) m3 (n8+5)]
abbrev a0:List W:=nC [[boot_o_0,boot_o_1,boot_o_2,di 127 (("__name__",165,(.str "law_rowblade_k32_truths_of_a_row" 1772))::d10),boot_o_4,boot_o_5,boot_o_6,boot_o_7,boot_o_8,boot_o_9,boot_o_10,fh,lt 0 l10,cc "<module>" 182 1 11,fr 13 3 m0],eU "_wall" 1 0 1 15 187 ["k"] m0,eU "cut" 1 2 5 22 196 ["text","rows"] m1,[fh,A1,c1 m2 213 "Program" 11 [("__init__",225,(r 42))] 227 43 5,fh,lt 4 [(13,41)],cc "Program" 208 11 32,fr 34 31 m2,fh,mY,tS 221 ["self","lines"],fh,fn "__init__" "Program.__init__" (inClass (top 4) 0),cf "__init__" "Program.__init__" 218 223 13 2 36,fO "__init__" "Program.__init__" (inClass (top 4) 0) m2 41,tS 226 ["lines"],c2 m2 213 11 [("__init__",225,(r 42))] 227 43 [("__dict__",229,(r 46)),("__weakref__",231,(r 47))] 232 4,c0 "Program" 44 [] 206,gd 228 45,gw 230 45,su 45,is 45,fh,A1,c1 m2 242 "Line" 15 [("__init__",255,(r 63))] 258 64 5,fh,lt 4 [(17,62)],cc "Line" 237 15 53,fr 55 52 m2,fh,mY,tS 250 ["self","cond","deed"],fh,fn "__init__" "Line.__init__" (inClass (top 5) 0),cf "__init__" "Line.__init__" 247 253 17 3 57,fO "__init__" "Line.__init__" (inClass (top 5) 0) m2 62,tS 256 ["cond","deed"],c2 m2 242 15 [("__init__",255,(r 63))] 258 64 [("__dict__",260,(r 67)),("__weakref__",262,(r 68))] 263 4,c0 "Line" 65 [] 235,gd 259 66,gw 261 66,su 66,is 66,fh,A1,c1 m2 273 "Cond" 20 [] 278 78 4,fh,mY,cc "Cond" 268 20 74,fr 76 73 m2,fh,c2 m2 273 20 [] 278 78 [("__dict__",280,(r 81)),("__weakref__",282,(r 82))] 283 4,c0 "Cond" 79 [(r 94),(r 113),(r 125),(r 144),(r 163),(r 182),(r 201),(r 213)] 266,gd 279 80,gw 281 80,su 80,is 80],MM "Always" 22 80 85 286 KR,A2 "RowIs" "RowIs.__init__" 2 8 24 80 97 302 ["self","number"] ["number"] KR]
abbrev a1:List W:=nC [MM "Last" 28 80 116 327 KR,A2 "Like" "Like.__init__" 2 10 30 80 128 343 ["self","pattern"] ["pattern"] KR,A2 "Soon" "Soon.__init__" 3 11 34 80 147 368 ["self","many","pattern"] ["many","pattern"] KR,A2 "FromTo" "FromTo.__init__" 3 12 39 80 166 395 ["self","first","second"] ["first","second"] KR,A2 "Not" "Not.__init__" 2 13 44 80 185 422 ["self","inner"] ["inner"] KR,MM "End" 48 80 204 447 KR,[fh,A1,c1 m2 470 "Deed" 50 [] 475 223 4,fh,mY,cc "Deed" 465 50 219,fr 221 218 m2,fh,c2 m2 470 50 [] 475 223 [("__dict__",477,(r 226)),("__weakref__",479,(r 227))] 480 4,c0 "Deed" 224 [(r 246),(r 258),(r 270),(r 282),(r 301),(r 320),(r 339),(r 358),(r 377),(r 396),(r 415),(r 427)] 463,gd 476 225,gw 478 225,su 225,is 225]]
abbrev a2:List W:=nC [A2 "Mark" "Mark.__init__" 2 16 52 225 230 483 ["self","name"] ["name"] mL,MM "Drop" 56 225 249 508 mL,MM "Print" 58 225 261 524 mL,MM "Done" 60 225 273 540 mL,A2 "Say" "Say.__init__" 2 20 62 225 285 556 ["self","words"] ["words"] mL,A2 "Swap" "Swap.__init__" 4 21 66 225 304 581 ["self","pattern","words","every"] ["every","pattern","words"] mL,A2 "Join" "Join.__init__" 2 22 72 225 323 610 ["self","most"] ["most"] mL]
abbrev a3:List W:=nC [A2 "Pile" "Pile.__init__" 3 23 76 225 342 635 ["self","shelf","most"] ["most","shelf"] mL,A2 "Bring" "Bring.__init__" 2 24 81 225 361 662 ["self","shelf"] ["shelf"] mL,A2 "Go" "Go.__init__" 2 25 85 225 380 687 ["self","name"] ["name"] mL,A2 "Add" "Add.__init__" 3 26 89 225 399 712 ["self","first","second"] ["first","second"] mL,MM "Tell" 94 225 418 739 mL,[tV [(.type "ValueError")],A1,c1 m3 764 "BladeError" 97 [] 769 437 4,fh,mY,cc "BladeError" 759 97 433,fr 435 432 m3,fh,c2 m3 764 97 [] 769 437 [("__weakref__",771,(r 440))] 772 3,cG "BladeError" [(.type "ValueError")] [(r 439),(.type "ValueError"),(.type "Exception"),(.type "BaseException"),(.type "object")] 438 [(r 452),(r 471),(r 490),(r 509),(r 528)] (some (r 430)) 757 "ValueError.__new__",gw 770 439,su 439,is 439,Rj,A1,c1 m3 782 "NoPattern" 99 [] 787 450 4,fh,mY,cc "NoPattern" 777 99 446,fr 448 445 m3,fh,c2 m3 782 99 [] 787 450 [] 788 2,cG "NoPattern" [(r 439)] [(r 452),(r 439),(.type "ValueError"),(.type "Exception"),(.type "BaseException"),(.type "object")] 451 [] (some (r 443)) 775 "ValueError.__new__",su 452,is 452]]
abbrev a4:List W:=nC [Vw "NoLine" "NoLine.__init__" 2 31 101 455 791 ["self","row"] ["row"],Vw "TwoMarks" "TwoMarks.__init__" 2 32 105 474 816 ["self","row"] ["row"],Vw "NoMark" "NoMark.__init__" 2 33 109 493 841 ["self","row"] ["row"],Vw "Endless" "Endless.__init__" 3 34 113 512 866 ["self","row","line"] ["line","row"],[fh,mY,fn "made_of" "made_of" (top 39),C "made_of" "made_of" 901 904 122 2 0 0 3 531 true 532 .none .none .none (r 533),fO "made_of" "made_of" (top 39) m4 534],eU "beginning_of" 2 40 124 536 907 ["text","signs","many"] m4,eU "may_stand_plain" 1 48 136 543 930 ["sign"] m5,eU "pattern" 1 49 138 550 937 ["text","front","body","back","items"] m5,eU "items_of" 1 50 150 557 948 ["body","items","place","behind","many"] m5,eU "place_behind_core" 2 51 159 564 959 ["body","place","bracket"] m5]
abbrev a5:List W:=nC [eU "many_at" 2 52 166 571 968 ["body","place"] m5,eU "item_of" 2 53 170 578 976 ["core","many"] m5,[fh,mY,fn "set_item" "set_item" (top 54),C "set_item" "set_item" 984 987 178 2 0 0 3 585 true 586 .none .none .none (r 587),fO "set_item" "set_item" (top 54) m5 588],eU "is_written_plain" 2 55 190 590 990 ["signs","others"] m5,eU "written" 1 56 192 597 998 ["one","parts","signs","others","many"] m5,eU "written_core" 2 57 199 604 1009 ["signs","others"] m5,eU "may_be_empty" 1 58 207 611 1017 ["one"] m5,[fh,mY,fn "least_length" "least_length" (top 59),C "least_length" "least_length" 1024 1027 209 1 0 0 3 618 true 619 .none .none .none (r 620),fO "least_length" "least_length" (top 59) m5 621],eU "may_be_left_out" 1 60 211 623 1030 ["item"] m5,eU "may_come_again" 1 61 213 630 1037 ["item"] m5,[tV [(.int (0) 1049)],fh,mY,tS 1053 ["one","row","start","ends","begin"],fh,fn "stretch" "stretch" (top 64),cg "stretch" 1050 1058 217 3 638,WN],eU "found" 2 65 223 645 1061 ["one","row"] m6,eU "greatest_ends" 2 66 225 652 1069 ["one","row","ends","item"] m6,eU "ends_behind_items" 2 67 230 659 1079 ["row","back"] m6,eU "ends_with_item" 3 68 234 666 1087 ["item","row","behind","signs","others","again","ends","place","end"] m6,[fh,A1,c1 m7 1111 "TextRow" 248 ZP 1137 694 6,fh,lt 4 [(250,685),(255,692)],cc "TextRow" 1106 248 676,fr 678 675 m7],jE "__init__" "TextRow.__init__" 3 0 70 250 680 1116 ["self","text","number"] m7]
abbrev a6:List W:=nC [jE "has" "TextRow.has" 2 1 70 255 687 1125 ["self","one","name"] m7,[tS 1134 ["known","number","text"],c2 m7 1111 248 ZP 1137 694 [("__dict__",1139,(r 697)),("__weakref__",1141,(r 698))] 1142 4,c0 "TextRow" 695 [] 1104,gd 1138 696,gw 1140 696,su 696,is 696,fh,mY,fn "text_rows" "text_rows" (top 71),C "text_rows" "text_rows" 1145 1148 260 1 0 0 3 701 true 702 .none .none .none (r 703),fO "text_rows" "text_rows" (top 71) m7 704,fh,A1,c1 m7 1158 "Truths" 262 ZQ 1199 737 8,fh,lt 4 [(264,716),(268,723),(274,728),(285,735)],cc "Truths" 1153 262 709,fr 711 708 m7,fh,mY,fn "__init__" "Truths.__init__" (inClass (top 72) 0),C "__init__" "Truths.__init__" 1163 1166 264 2 0 0 3 713 true 714 .none .none .none (r 715),fO "__init__" "Truths.__init__" (inClass (top 72) 0) m7 716],jE "told_of" "Truths.told_of" 3 1 72 268 718 1169 ["self","row","behind","truths","place","cond"] m7,[fh,mY,fn "truth" "Truths.truth" (inClass (top 72) 2),C "truth" "Truths.truth" 1181 1184 274 5 0 0 3 725 true 726 .none .none .none (r 727),fO "truth" "Truths.truth" (inClass (top 72) 2) m7 728],jE "truth_of_stretch" "Truths.truth_of_stretch" 4 3 72 285 730 1187 ["self","place","cond","row"] m7,[tS 1197 ["conds","up"],c2 m7 1158 262 ZQ 1199 737 [("__dict__",1201,(r 740)),("__weakref__",1203,(r 741))] 1204 4,c0 "Truths" 738 [] 1151,gd 1200 739,gw 1202 739,su 739,is 739],eU "holds" 2 73 293 744 1207 ["cond","row"] m7,eU "is_row_up_to" 2 74 299 751 1215 ["cond","number"] m7,eU "first_swapped" 3 77 303 758 1227 ["hand","one","words","place"] m8,eU "every_swapped" 3 78 308 765 1237 ["hand","one","words","ends","parts","kept_to","place"] m8,[fh,mY,fn "words_of" "words_of" (top 79),C "words_of" "words_of" 1250 1253 321 1 0 0 3 772 true 773 .none .none .none (r 774),fO "words_of" "words_of" (top 79) m8 775],eU "word_of" 2 80 323 777 1256 ["hand","number","words"] m8,eU "number_of" 1 81 328 784 1265 ["word","figures"] m8,[fh,A1,c1 m9 1282 "Walker" 334 ZR 1473 945 25,fh,lt 4 [(336,803),(353,810),(357,817),(360,824),(371,831),(378,838),(389,845),(392,852),(402,859),(405,866),(408,873),(415,880),(419,887),(439,894),(447,901),(453,908),(459,915),(463,922),(468,929),(471,936),(480,943)],cc "Walker" 1277 334 794]]
abbrev a7:List W:=nC [[fr 796 793 m9],jE "__init__" "Walker.__init__" 2 0 83 336 798 1287 ["self","program"] m9,jE "want" "Walker.want" 1 1 83 353 805 1295 ["self"] m9,jE "take" "Walker.take" 3 2 83 357 812 1302 ["self","row","behind"] m9,jE "take_with" "Walker.take_with" 3 3 83 360 819 1311 ["self","text","truths"] m9,jE "go_on" "Walker.go_on" 1 4 83 371 826 1320 ["self"] m9,jE "meet" "Walker.meet" 3 5 83 378 833 1327 ["self","line","number","truth"] m9,jE "hand_over" "Walker.hand_over" 1 6 83 389 840 1337 ["self"] m9,jE "finish" "Walker.finish" 1 7 83 392 847 1344 ["self","line"] m9,jE "find_none" "Walker.find_none" 1 8 83 402 854 1352 ["self"] m9,jE "give" "Walker.give" 2 9 83 405 861 1359 ["self","row"] m9,jE "end_turn" "Walker.end_turn" 1 10 83 408 868 1367 ["self"] m9,jE "give_hand_and_end" "Walker.give_hand_and_end" 1 11 83 415 875 1374 ["self"] m9,jE "do" "Walker.do" 3 12 83 419 882 1381 ["self","deed","number"] m9,jE "do_giving" "Walker.do_giving" 2 13 83 439 889 1390 ["self","deed"] m9,jE "do_swap" "Walker.do_swap" 2 14 83 447 896 1398 ["self","deed"] m9,jE "do_join" "Walker.do_join" 2 15 83 453 903 1406 ["self","deed"] m9]
abbrev a8:List W:=nC [jE "do_pile" "Walker.do_pile" 2 16 83 459 910 1414 ["self","deed","things"] m9,jE "do_bring" "Walker.do_bring" 2 17 83 463 917 1423 ["self","deed","thing"] m9,jE "rows_on_shelves" "Walker.rows_on_shelves" 1 18 83 468 924 1432 ["self"] m9,jE "do_add" "Walker.do_add" 3 19 83 471 931 1439 ["self","deed","number","name","word","amount"] m9,jE "do_tell" "Walker.do_tell" 1 20 83 480 938 1451 ["self","name"] m9,[tS 1459 ["behind_marks","hand","hand_rows","lines","log","met","noted","passed","shelves","sums","taken","teller","truths","wanting"],c2 m9 1282 334 ZR 1473 945 [("__dict__",1475,(r 948)),("__weakref__",1477,(r 949))] 1478 4,c0 "Walker" 946 [] 1275,gd 1474 947,gw 1476 947,su 947,is 947,fh,mY,fn "given_in" "given_in" (top 84),C "given_in" "given_in" 1481 1484 483 1 0 0 3 952 true 953 .none .none .none (r 954),fO "given_in" "given_in" (top 84) m9 955],eU "numbers_of_marks" 1 85 485 957 1487 ["lines","numbers","number","line"] m9,eU "walk" 2 87 492 964 1499 ["program","text","rows","walker","number","row"] m10,[tS 1513 ["row ","last","/","soon ","from ","not ","end"],fh,A1,c1 mX 1542 "Scan" 508 ZS 1600 1021 10,fh,lt 4 [(510,984),(514,991),(517,998),(523,1005),(527,1012),(532,1019)],cc "Scan" 1537 508 975,fr 977 974 mX],jE "__init__" "Scan.__init__" 3 0 97 510 979 1547 ["self","row","number"] mX,jE "refuse" "Scan.refuse" 1 1 97 514 986 1556 ["self"] mX,jE "passes" "Scan.passes" 2 2 97 517 993 1563 ["self","words"] mX,jE "must_pass" "Scan.must_pass" 2 3 97 523 1000 1571 ["self","words"] mX,jE "while_made_of" "Scan.while_made_of" 2 4 97 527 1007 1579 ["self","signs","taken"] mX,jE "between" "Scan.between" 2 5 97 532 1014 1588 ["self","sign","place","inside"] mX]
abbrev a9:List W:=nC [[tS 1598 ["number","rest"],c2 mX 1542 508 ZS 1600 1021 [("__dict__",1602,(r 1024)),("__weakref__",1604,(r 1025))] 1605 4,c0 "Scan" 1022 [] 1535,gd 1601 1023,gw 1603 1023,su 1023,is 1023],eU "line_of" 2 98 540 1028 1608 ["row","number","scan","line"] mX,[fh,mY,fn "line_next" "line_next" (top 99),C "line_next" "line_next" 1618 1621 546 1 0 0 3 1035 true 1036 .none .none .none (r 1037),fO "line_next" "line_next" (top 99) mX 1038],eU "cond_next" 1 100 554 1040 1624 ["scan"] mX,eU "plain_cond_next" 1 101 560 1047 1631 ["scan","many","first"] mX,eU "row_or_pattern_next" 1 102 572 1054 1640 ["scan"] mX,eU "deed_next" 1 103 576 1061 1647 ["scan"] mX,eU "swap_next" 2 104 601 1068 1654 ["scan","every","one"] mX,eU "pile_next" 1 105 605 1075 1663 ["scan","shelf"] mX,eU "add_next" 1 106 610 1082 1671 ["scan","first"] mX,eU "number_next" 3 107 614 1089 1679 ["scan","least","most","figures","number"] mX,eU "name_next" 1 108 622 1096 1690 ["scan","name"] mX,eU "words_next" 1 109 627 1103 1698 ["scan","words"] mX,eU "pattern_next" 1 110 632 1110 1706 ["scan","text"] mX,eU "may_stand" 2 111 638 1117 1714 ["cond","deed"] mX,eU "may_swap" 1 112 644 1124 1722 ["deed"] mX]
abbrev a10:List W:=nC [eU "read" 1 115 650 1131 1733 ["text","lines","marks"] Vv,eU "lines_of" 1 116 655 1138 1742 ["rows","lines","number","row"] Vv,eU "marks_of" 1 117 662 1145 1752 ["lines","marks","number","line"] Vv,eU "refuse_go_without_mark" 2 118 670 1152 1762 ["lines","marks","number","line"] Vv,eU "_law_cell_at" 2 120 675 1159 1774 ["_law_script","_law_k"] Dk,eU "_law_signs" 1 121 679 1166 1782 ["_law_cell","_law_some","_law_number"] Dk,eU "_law_row" 2 122 683 1173 1791 ["_law_cell","_law_signs_here","_law_some","_law_row_here","_law_number","_law_k"] Dk,eU "_law_pattern" 2 123 691 1180 1803 ["_law_cell","_law_signs_here","_law_one","_law_two","_law_three","_law_some","_law_text","_law_number","_law_k"] Dk,eU "_law_cond" 2 124 700 1187 1818 ["_law_cell","_law_signs_here","_law_way","_law_rest"] Dk,eU "_law_written" 2 125 712 1194 1828 ["_law_cond_here","_law_turned","_law_text"] Dk,eU "_law_part" 2 126 723 1201 1837 ["_law_cond_here","_law_turned","_law_part_here"] Dk,[fh,mY,fn "_law_holds" "_law_holds" (top 127),C "_law_holds" "_law_holds" 1846 1849 736 3 0 0 3 1208 true 1209 .none .none .none (r 1210),fO "_law_holds" "_law_holds" (top 127) Dk 1211],eU "_law_due" 2 128 746 1213 1852 ["_law_conds","_law_rows","_law_given","_law_log","_law_at","_law_k","_law_cond_here","_law_turned","_law_truth"] Dk,eU "_law_exact" 2 129 761 1220 1867 ["_law_told","_law_due_here","_law_entry"] Dk,[fh,mY,fn "law" "law" (top 130),C "law" "law" 1876 1879 770 1 0 0 3 1227 true 1228 .none .none .none (r 1229),fO "law" "law" (top 130) Dk 1230]]
abbrev os:List W:=a0++(a1++(a2++(a3++(a4++(a5++(a6++(a7++(a8++(a9++(a10))))))))))
abbrev tr(n:Nat)(q:List (Nat×W)):Params->BT:=br 12 (ov os 0 n q)
abbrev lf:Life:=⟨[],[],[],0,[],[],false,#[],[],0,false,false,false,0,[2000,10,10],false,0,true,[],[],0,false⟩
abbrev TA(w:World)(os:OsState):SharedT:=⟨tr 15 [(3,boot_o_3),(12,mY)] w.params,15,lf,⟨[]⟩,⟨0,0,0,0⟩,187,os⟩
abbrev T0(w:World)(os:OsState):SharedT:=⟨tr 116 [(3,di 16 (("__name__",165,(.str "rowblade.lines" 204))::d0)),(12,lt 0 l0),(80,c0 "Cond" 79 [(r 94),(r 113)] 266)] w.params,116,lf,⟨[]⟩,⟨0,0,0,0⟩,327,os⟩
abbrev T1(w:World)(os:OsState):SharedT:=⟨tr 204 [(3,di 21 (("__name__",165,(.str "rowblade.lines" 204))::d1)),(12,lt 0 l1),(80,c0 "Cond" 79 [(r 94),(r 113),(r 125),(r 144),(r 163),(r 182),(r 201)] 266)] w.params,204,lf,⟨[]⟩,⟨0,0,0,0⟩,447,os⟩
abbrev T2(w:World)(os:OsState):SharedT:=⟨tr 273 [(3,di 26 (("__name__",165,(.str "rowblade.lines" 204))::d2)),(12,lt 0 l2),(225,c0 "Deed" 224 [(r 246),(r 258),(r 270)] 463)] w.params,273,lf,⟨[]⟩,⟨0,0,0,0⟩,540,os⟩
abbrev T3(w:World)(os:OsState):SharedT:=⟨tr 361 [(3,di 31 (("__name__",165,(.str "rowblade.lines" 204))::d3)),(12,lt 0 l3),(225,c0 "Deed" 224 [(r 246),(r 258),(r 270),(r 282),(r 301),(r 320),(r 339),(r 358)] 463)] w.params,361,lf,⟨[]⟩,⟨0,0,0,0⟩,662,os⟩
abbrev T4(w:World)(os:OsState):SharedT:=⟨tr 443 [(3,di 36 (("__name__",165,(.str "rowblade.errors" 755))::d4)),(12,lt 0 l4),(439,cG "BladeError" [(.type "ValueError")] [(r 439),(.type "ValueError"),(.type "Exception"),(.type "BaseException"),(.type "object")] 438 [] (some (r 430)) 757 "ValueError.__new__")] w.params,443,lf,⟨[]⟩,⟨0,0,0,0⟩,775,os⟩
abbrev T5(w:World)(os:OsState):SharedT:=⟨tr 531 [(3,di 41 (("__name__",165,(.str "rowblade.errors" 755))::d5)),(12,lt 0 l5)] w.params,531,lf,⟨[]⟩,⟨0,0,0,0⟩,893,os⟩
abbrev T6(w:World)(os:OsState):SharedT:=⟨tr 706 [(3,di 74 (("__name__",165,(.str "rowblade.truths" 1102))::d6)),(12,lt 0 l6)] w.params,706,lf,⟨[]⟩,⟨0,0,0,0⟩,1151,os⟩
abbrev T7(w:World)(os:OsState):SharedT:=⟨tr 791 [(3,di 83 (("__name__",165,(.str "rowblade.walker" 1273))::d7)),(12,lt 0 l7)] w.params,791,lf,⟨[]⟩,⟨0,0,0,0⟩,1275,os⟩
abbrev T8(w:World)(os:OsState):SharedT:=⟨tr 972 [(3,di 95 (("__name__",165,(.str "rowblade.linereading" 1511))::d8)),(12,lt 0 l8)] w.params,972,lf,⟨[]⟩,⟨0,0,0,0⟩,1535,os⟩
abbrev T9(w:World)(os:OsState):SharedT:=⟨tr 1201 [(3,di 122 (("__name__",165,(.str "law_rowblade_k32_truths_of_a_row" 1772))::d9)),(12,lt 0 l9)] w.params,1201,lf,⟨[]⟩,⟨0,0,0,0⟩,1837,os⟩
abbrev Rk(w:World)(os:OsState):SharedT:=⟨tr 1232 [] w.params,1232,lf,⟨[]⟩,⟨0,0,0,0⟩,1882,os⟩
abbrev bE:Ee:=behindTheImports pw
abbrev nv:Env:={scope:=pw.main.scope,locals:=mainNs,globals:=mainNs,cells:=[],code:=(r 13),frame:=some 14}
abbrev cE:Code:=.body bE nv
abbrev BF:List Frame:=[topFrame ⟨0,0,0,0⟩]
abbrev an:D1:=(some (r 6))
abbrev Rl:Ee:=(bE.drop 0).take 9
abbrev Rm:Ee:=(bE.drop 9).take 5
abbrev Rn:Ee:=(bE.drop 14).take 5
abbrev Ro:Ee:=(bE.drop 19).take 5
abbrev Rp:Ee:=(bE.drop 24).take 6
abbrev Rq:Ee:=(bE.drop 30).take 5
abbrev Rr:Ee:=(bE.drop 35).take 37
abbrev Rt:Ee:=(bE.drop 72).take 11
abbrev Ru:Ee:=(bE.drop 83).take 14
abbrev Rv:Ee:=(bE.drop 97).take 29
abbrev KS:Ee:=(bE.drop 126).take 5
abbrev S0(w:World)(os:OsState):Shared:=⟨boot_heap w.params,Array.mk [],boot_drawn,boot_toks,os⟩
abbrev th0:Thread:=piecesOf Rl nv cE ⟨0,0,0,0⟩ BF
abbrev th1:Thread:=piecesOf Rm nv cE ⟨24,0,27,28⟩ BF
abbrev th2:Thread:=piecesOf Rn nv cE ⟨44,0,47,26⟩ BF
abbrev th3:Thread:=piecesOf Ro nv cE ⟨58,0,59,8⟩ BF
abbrev th4:Thread:=piecesOf Rp nv cE ⟨76,0,80,24⟩ BF
abbrev th5:Thread:=piecesOf Rq nv cE ⟨97,0,98,8⟩ BF
abbrev th6:Thread:=piecesOf Rr nv cE ⟨113,0,117,24⟩ BF
abbrev th7:Thread:=piecesOf Rt nv cE ⟨260,0,261,77⟩ BF
abbrev th8:Thread:=piecesOf Ru nv cE ⟨333,0,333,8⟩ BF
abbrev th9:Thread:=piecesOf Rv nv cE ⟨507,0,507,9⟩ BF
abbrev WO:Thread:=piecesOf KS nv cE ⟨712,0,722,60⟩ BF
abbrev thA:Thread:=⟨denote treeTable cE,cE,⟨0,0,0,0⟩,BF⟩
abbrev thB:Thread:=blockOf bE nv cE ⟨0,0,0,0⟩ BF
abbrev thF:Thread:=⟨doneF .next,cE,⟨770,0,790,125⟩,BF⟩
def ZT:Nat->Nat->Nat->B1
 |0,a,_=>[a]
 |k+1,a,n=>a::ZT k (a+n % 16) (n/16)
noncomputable abbrev as:BM:=ZT 706 2 0x131121211212113112121121211212112121121211212112121121211212112121121211212112121121211212112121121211212112121121211212112121121211212113112123111111212112121121211212112121121281121211212113311111121211212112121121211212112121121211212112121121211212112121121211212112121121211212112121121211212112128121211212113112121121211212112123111111212113112121138133111111212112128121211212112121121211212111212112121131121211212112121121211311212112121121211212112121121211212113311112127311112127311112127311112127311731117311731111212731111212731111212731111212731111212731111212731111212731173117311731111212731111a1173111121273111121273111121273111121273117311112127311731111a111111212a1111112128121211212c1
def sl:List W->Nat->B1->List W
 |[],_,_=>[]
 |x::l,i,q=>(match q with
  |[]=>[]
  |y::r=>(match y.beq i with
   |true=>x::sl l (i+1) r
   |false=>sl l (i+1) q))
abbrev K(P:Params):Frag:=as.zip ((sl os 0 as).map λo=>o P)
abbrev vw:Program:={pw with main:={pw.main with body:=([0,2,4,5,6,7,8,9,10,11,12,13,14,15,16,17,18,19,20,21,22,23,24,25,26,27,29,30,31,32,33,34,36,37,38,39,40,42,43,44,45,46,47,48,49,50,51,52,53,54,55,56,57,58,59,60,61,63,65,66,67,68,70,71,72,73,74,76,77,78,79,80,81,83,84,85,87,89,90,91,92,93,94,95,96,97,98,99,100,101,102,103,104,105,106,107,108,109,110,111,112,114,115,116,117,118,120,121,122,123,124,125,126,127,128,129,130]:B1).map top}}
abbrev lz:Bi:=["stretch"]
theorem pre:∀w:World,(λos=>topGo treeTable pw w 11 an 12 (S0 w os) (topStub pw))=λos=>some ((TA w os).abs,thA):=by
 exact λw=>by kernel_rfl
theorem Vx:∀w:World,(λos=>segRun treeTable pw w 11 an 1 1 (TA w os).abs thB)=λos=>some (Flow.next,(TA w os).abs,cE,(⟨0,0,0,0⟩:Pos)):=by
 exact λw=>by kernel_rfl
theorem g0:∀w:World,(λos=>segRunT treeTable pw w 11 an 1 1172 (TA w os) th0)=λos=>some (Flow.next,T0 w os,cE,(⟨24,0,27,28⟩:Pos)):=by
 rewrite [PySem.W.Fast.te10110043849684766642]
 exact λw=>by kernel_rfl
theorem g1:∀w:World,(λos=>segRunT treeTable pw w 11 an 1 1198 (T0 w os) th1)=λos=>some (Flow.next,T1 w os,cE,(⟨44,0,47,26⟩:Pos)):=by
 rewrite [PySem.W.Fast.te10110043849684766642]
 exact λw=>by kernel_rfl
theorem g2:∀w:World,(λos=>segRunT treeTable pw w 11 an 1 1075 (T1 w os) th2)=λos=>some (Flow.next,T2 w os,cE,(⟨58,0,59,8⟩:Pos)):=by
 rewrite [PySem.W.Fast.te10110043849684766642]
 exact λw=>by kernel_rfl
theorem g3:∀w:World,(λos=>segRunT treeTable pw w 11 an 1 1200 (T2 w os) th3)=λos=>some (Flow.next,T3 w os,cE,(⟨76,0,80,24⟩:Pos)):=by
 rewrite [PySem.W.Fast.te10110043849684766642]
 exact λw=>by kernel_rfl
theorem g4:∀w:World,(λos=>segRunT treeTable pw w 11 an 1 1146 (T3 w os) th4)=λos=>some (Flow.next,T4 w os,cE,(⟨97,0,98,8⟩:Pos)):=by
 rewrite [PySem.W.Fast.te10110043849684766642]
 exact λw=>by kernel_rfl
theorem g5:∀w:World,(λos=>segRunT treeTable pw w 11 an 1 1196 (T4 w os) th5)=λos=>some (Flow.next,T5 w os,cE,(⟨113,0,117,24⟩:Pos)):=by
 rewrite [PySem.W.Fast.te10110043849684766642]
 exact λw=>by kernel_rfl
theorem g6:∀w:World,(λos=>segRunT treeTable pw w 11 an 1 1055 (T5 w os) th6)=λos=>some (Flow.next,T6 w os,cE,(⟨260,0,261,77⟩:Pos)):=by
 rewrite [PySem.W.Fast.te10110043849684766642]
 exact λw=>by kernel_rfl
theorem g7:∀w:World,(λos=>segRunT treeTable pw w 11 an 1 559 (T6 w os) th7)=λos=>some (Flow.next,T7 w os,cE,(⟨333,0,333,8⟩:Pos)):=by
 rewrite [PySem.W.Fast.te10110043849684766642]
 exact λw=>by kernel_rfl
theorem g8:∀w:World,(λos=>segRunT treeTable pw w 11 an 1 1070 (T7 w os) th8)=λos=>some (Flow.next,T8 w os,cE,(⟨507,0,507,9⟩:Pos)):=by
 rewrite [PySem.W.Fast.te10110043849684766642]
 exact λw=>by kernel_rfl
theorem g9:∀w:World,(λos=>segRunT treeTable pw w 11 an 1 1185 (T8 w os) th9)=λos=>some (Flow.next,T9 w os,cE,(⟨712,0,722,60⟩:Pos)):=by
 rewrite [PySem.W.Fast.te10110043849684766642]
 exact λw=>by kernel_rfl
theorem PM:∀w:World,(λos=>segRunT treeTable pw w 11 an 1 152 (T9 w os) WO)=λos=>some (Flow.next,Rk w os,cE,(⟨770,0,790,125⟩:Pos)):=by
 rewrite [PySem.W.Fast.te10110043849684766642]
 exact λw=>by kernel_rfl
theorem fin:∀w:World,(λos=>topRun treeTable pw w 11 an 2 (Rk w os).abs thF)=λos=>some (Rk w os).abs:=by
 exact λw=>by kernel_rfl
theorem chn(w:World)(os:OsState):∀l,l=(Rl++(Rm++(Rn++(Ro++(Rp++(Rq++(Rr++(Rt++(Ru++(Rv++(KS++[])))))))))))->topRun treeTable pw w 11 an (1172+(1198+(1075+(1200+(1146+(1196+(1055+(559+(1070+(1185+(152+2))))))))))) (TA w os).abs (restOf l nv cE ⟨0,0,0,0⟩ BF)=some (Rk w os).abs:=λl e=>by
 rw[e];exact piece_app (segRun_of (congrFun (g0 w) os)) (piece_app (segRun_of (congrFun (g1 w) os)) (piece_app (segRun_of (congrFun (g2 w) os)) (piece_app (segRun_of (congrFun (g3 w) os)) (piece_app (segRun_of (congrFun (g4 w) os)) (piece_app (segRun_of (congrFun (g5 w) os)) (piece_app (segRun_of (congrFun (g6 w) os)) (piece_app (segRun_of (congrFun (g7 w) os)) (piece_app (segRun_of (congrFun (g8 w) os)) (piece_app (segRun_of (congrFun (g9 w) os)) (piece_app (segRun_of (congrFun (PM w) os)) (congrFun (fin w) os)))))))))))
theorem run(w:World)(os:OsState):topRun treeTable pw w 11 an (12+(1+(1172+(1198+(1075+(1200+(1146+(1196+(1055+(559+(1070+(1185+(152+2))))))))))))) (S0 w os) (topStub pw)=some (Rk w os).abs:=go_top (congrFun (pre w) os) (piece_block (congrFun (Vx w) os) (chn w os bE (by kernel_rfl)))
theorem PN:∀P,as=(K P).map (·.1):=λ_=>by kernel_rfl
abbrev H:Hook:=kHook K as PN
abbrev H1(P:Params):Heap:=absHeap ((tr 1232 []) P) 1232 lf
abbrev SF(w:World)(os:OsState):Shared:=⟨H1 w.params,Array.mk [],⟨0,0,0,0⟩,1882,os⟩
abbrev Xt(s:Shared):Bool:=xlAt vw [] s&&recOk (RowW.records (OpenRow.toRowW (OpenLaw.row PySem.Challenge.rw_rowblade_k32_truths_of_a_row))) s
theorem opn:∀w:World,(fencedOpening treeTable pw w 22120).map (λs=>(s.heap,s.gens,s.drawn,s.toks))=some (boot_heap w.params,Array.mk [],boot_drawn,boot_toks):=boot_open (by kernel_rfl) (by decide) (λs=>by kernel_rfl)
theorem siz:∀w:World,((boot_heap w.params).isNs mainGlobals&&(Array.mk []:Array GenState).size == 0,(boot_heap w.params).objs.size,(boot_heap w.params).nsMap mainGlobals "__annotations__")=(true,11,an):=λw=>by kernel_rfl
theorem lk1:∀w:World,(λos=>(staticsOk (importedModules pw.main.body) (boot_heap w.params) (H1 w.params)&&namesBound pw (H1 w.params)&&gensDone (SF w os)&&laidKept (boot_heap w.params) (H1 w.params)))=λ_=>true:=λw=>by kernel_rfl
theorem q1:∀w:World,(λos=>PyProof.Rows.seen (B0 (λx=>x.name) (Kw vw)) (PyProof.Rows.ownsOf vw) [] {heap:=(SF w os).heap,drawn:=(SF w os).drawn,toks:=(SF w os).toks,os:=(SF w os).os})=λ_=>PyProof.Rows.expectedOf vw:=λw=>by kernel_rfl
theorem q2:∀w:World,(λos=>(SF w os).heap.bltView)=λ_=>bltViewBooted:=λw=>by kernel_rfl
theorem b1:∀w:World,(λos=>(SF w os).heap.keysOk (looseW vw lz) (B0 (λx=>x.name) (Kw vw)) (B0 (λx=>x.fst) (PyProof.Rows.litsOf vw)) (B0 (λx=>x.name) (PyProof.Rows.clssOf vw (looseW vw lz))))=λ_=>true:=λw=>by kernel_rfl
theorem b2:∀w:World,(λos=>(SF w os).heap.accountedOkI (importedModules pw.main.body))=λ_=>true:=λw=>by kernel_rfl
theorem b3:∀w:World,(λos=>(SF w os).heap.isNs mainGlobals)=λ_=>true:=λw=>by kernel_rfl
theorem b4:∀w:World,(λos=>(SF w os).heap.isNs builtinsNs)=λ_=>true:=λw=>by kernel_rfl
theorem b5:∀w:World,(λos=>PyProof.Rows.tablesOk vw (SF w os).heap)=λ_=>true:=λw=>by kernel_rfl
theorem b6:∀w:World,(λos=>Xt (SF w os))=λ_=>true:=λw=>by kernel_rfl
theorem q4:∀w:World,(λos=>PyProof.Rows.tabsOk vw (SF w os))=λ_=>true:=λw=>by kernel_rfl
theorem q5:∀w:World,(λos=>pinSeenD vw (Kz vw) (SF w os))=λ_=>pinGoodD (Kz vw):=λw=>by kernel_rfl
theorem q6:∀w:World,(λos=>PyProof.Rows.plainSeenE vw (looseW vw lz) (SF w os))=λ_=>PyProof.Rows.plainGoodE vw (looseW vw lz):=λw=>by kernel_rfl
theorem q7:∀w:World,(λos=>PyProof.Rows.plainSeenD vw lz (SF w os))=λ_=>PyProof.Rows.plainGoodD vw lz:=λw=>by kernel_rfl
theorem q8:∀w:World,(λos=>wideSeen vw (SF w os))=λ_=>wideGood vw:=λw=>by kernel_rfl
theorem q9:∀w:World,(λos=>clsSeenW vw lz (SF w os))=λ_=>clsGoodW vw lz:=λw=>by kernel_rfl
theorem lk2:∀w:World,(λos=>openSeen vw lz (importedModules pw.main.body) Xt true (SF w os))=λ_=>openGood vw lz:=λw=>funext λos=>looks_pair (congrFun (q1 w) os) (looks_pair (congrFun (q2 w) os) (looks_pair (by
 show(_&&_&&_&&_&&_&&_&&_)=true;rw[congrFun (b1 w) os,congrFun (b2 w) os,congrFun (b3 w) os,congrFun (b4 w) os,congrFun (b5 w) os,congrFun (b6 w) os];rfl) (looks_pair (congrFun (q4 w) os) (looks_pair (congrFun (q5 w) os) (looks_pair (congrFun (q6 w) os) (looks_pair (congrFun (q7 w) os) (looks_pair (congrFun (q8 w) os) (congrFun (q9 w) os))))))))
theorem sp{α β γ:Type}{f:α->γ}{g:β->γ}(n:Nat){a:List α}{k:List β}(h1:(a.take n).map f=(k.take n).map g)(h2:(a.drop n).map f=(k.drop n).map g):a.map f=k.map g:=by
 rw[<- JZ n a,<- JZ n k,lj,lj,h1,h2]
theorem l3a:∀w:World,(λos=>(as.take 236).map (SF w os).heap.get?)=λ_=>((K w.params).take 236).map λp=>some p.2:=λw=>by kernel_rfl
theorem l3b:∀w:World,(λos=>((as.drop 236).take 236).map (SF w os).heap.get?)=λ_=>(((K w.params).drop 236).take 236).map λp=>some p.2:=λw=>by kernel_rfl
theorem l3c:∀w:World,(λos=>((as.drop 236).drop 236).map (SF w os).heap.get?)=λ_=>(((K w.params).drop 236).drop 236).map λp=>some p.2:=λw=>by kernel_rfl
theorem lk3:∀w:World,(λos=>Hook.obs H (SF w os))=λ_=>Hook.val H w:=λw=>funext λos=>sp 236 (congrFun (l3a w) os) (sp 236 (congrFun (l3b w) os) (congrFun (l3c w) os))
theorem left:LeftO pw vw lz Xt (Hook.obs H) (Hook.val H) 22120:=LeftO.of_pieces (H₁:=H1) (gs₁:=Array.mk []) (d₁:=⟨0,0,0,0⟩) (k₁:=1882) opn siz run (by decide) λw=>funext λos=>looks_pair (congrFun (lk1 w) os) (looks_pair (congrFun (lk2 w) os) (congrFun (lk3 w) os))
end KH
end
namespace L2
open PySem PySem.Spec PyProof.Rows
section
variable{κ:Type}[DecidableEq κ]
def jF(aF:List (κ×V))(k:κ):Option V:=(aF.find? λkv=>decide (kv.1=k)).map (·.2)
def putK(aF:List (κ×V))(k:κ)(v:V):List (κ×V):=
 if(aF.any λkv=>decide (kv.1=k))=true then aF.map (λkv=>if kv.1=k then(kv.1,v)else kv)else aF++[(k,v)]
theorem iW{p:κ×V}{r:List (κ×V)}{k:κ}(e:p.1=k):jF (p::r) k=some p.2:=by simp[jF,Ay,e]
theorem iX{p:κ×V}{r:List (κ×V)}{k:κ}(e:¬ p.1=k):jF (p::r) k=jF r k:=by simp[jF,Ay,e]
theorem nV(k:κ):∀aF:List (κ×V),(aF.any λkv=>decide (kv.1=k))=(jF aF k).isSome
 |[]=>rfl
 |p::r=>by
  rw[nB];by_cases e:p.1=k
  ·simp only[iW e,decide_eq_true e,Bool.true_or,Option.isSome_some]
  ·rw[iX e,decide_eq_false e,Bool.false_or];exact nV k r
theorem iY(aF:List (κ×V))(k:κ)(v:V):(putK aF k v).length<=aF.length+1:=by
 unfold putK;split
 ·rw[cD];omega
 ·rw[cC,dP,qa];omega
theorem iP.gS{o:Option V}{u:D1}(r:iP o u):o.isSome=u.isSome:=by
 cases o with
 |none=>cases u with
  |none=>rfl
  |some _=>exact(show False from r).elim
 |some _=>cases u with
  |none=>exact(show False from r).elim
  |some _=>rfl
theorem iP.getD{o:Option V}{u:D1}{d:V}{d':Value}(r:iP o u)(rd:RelV d d'):RelV (o.getD d) (u.getD d'):=by
 cases o with
 |none=>cases u with
  |none=>exact rd
  |some _=>exact(show False from r).elim
 |some _=>cases u with
  |none=>exact(show False from r).elim
  |some _=>exact r
theorem KV.val{aF:List (κ×V)}{vs:List (κ×Value)}(r:KV aF vs)(k:κ):iP (jF aF k) (valueAt vs k):=by
 unfold KV at r
 induction r with
 |nil=>exact True.intro
 | @cons p q ps qs h t ih=>
  obtain⟨h1,h2⟩:=h;by_cases e:p.1=k
  ·have e':q.1=k:=h1.symm.trans e
   have b:valueAt (q::qs) k=some q.2:=by simp[valueAt,Ay,e']
   rw[iW e,b];exact h2
  ·have e':¬ q.1=k:=λz=>e (h1.trans z)
   have b:valueAt (q::qs) k=valueAt qs k:=by simp[valueAt,Ay,e']
   rw[iX e,b];exact ih
theorem KV.any{aF:List (κ×V)}{vs:List (κ×Value)}(r:KV aF vs)(k:κ):(aF.any λkv=>decide (kv.1=k))=vs.any λkv=>decide (kv.1=k):=by
 unfold KV at r
 induction r with
 |nil=>rfl
 |cons h t ih=>rw[nB,nB,ih,h.1]
theorem KV.MN{aF:List (κ×V)}{vs:List (κ×Value)}(r:KV aF vs)(k:κ){y:V}{u:Value}(ry:RelV y u) :
  KV (aF.map λkv=>if kv.1=k then(kv.1,y)else kv) (vs.map λkv=>if kv.1=k then(kv.1,u)else kv):=by
 unfold KV at r ⊢
 induction r with
 |nil=>exact .nil
 | @cons p q ps qs h t ih=>
  rw[dz,dz];refine .cons ?_ ih;obtain⟨h1,h2⟩:=h;by_cases e:p.1=k
  ·rw[if_pos e,if_pos (h1.symm.trans e)];exact⟨h1,ry⟩
  ·rw[if_neg e,if_neg (λz=>e (h1.trans z))];exact⟨h1,h2⟩
theorem KV.put{aF:List (κ×V)}{vs:List (κ×Value)}(r:KV aF vs)(k:κ){y:V}{u:Value}(ry:RelV y u):KV (putK aF k y) (stored vs k u):=by
 unfold putK stored;rw[r.any k];by_cases e:(vs.any λkv=>decide (kv.1=k))=true
 ·rw[if_pos e,if_pos e];exact r.MN k ry
 ·rw[if_neg e,if_neg e];exact Paired.snoc r ⟨rfl,ry⟩
theorem KV.length{aF:List (κ×V)}{vs:List (κ×Value)}(r:KV aF vs):aF.length=vs.length:=Paired.length r
end
theorem nW{P:Program}{w:World}{k:Key}{u:Value}(r:RelV (kV k) u):(bx P w).is k u=true:=by
 cases k with
 |inl i=>obtain⟨t,e⟩:=(show ∃t,u=Value.int i t from r);subst e;exact uh P w i t
 |inr x=>obtain⟨t,e⟩:=(show ∃t,u=Value.str x t from r);subst e;exact um P w x t
theorem qM{P:Program}{w:World}:∀{ks:List Key}{us:B2},Vals (ks.map kV) us->ItemsAre (bx P w) ks us
 |[],_,r=>by rw[BZ]at r;cases r;exact .nil
 |k::ks,_,r=>by
  rw[dz]at r;cases r with
  |cons h t=>exact .cons (nW h) (qM t)
abbrev KT(H:Hp):List (List Key×V)->List (List Key×Addr×Value)->Prop:=Paired λp q=>p.1=q.1/\H q.2.1=some (.tup (p.1.map kV))/\RelV p.2 q.2.2
theorem KT.val{H:Hp}{aF:List (List Key×V)}{xs:List (List Key×Addr×Value)}(r:KT H aF xs)(k:List Key):iP (jF aF k) ((atKey xs k).map (·.2)):=by
 induction r with
 |nil=>exact True.intro
 | @cons p q ps qs h t ih=>
  obtain⟨h1,_,h2⟩:=h;by_cases e:p.1=k
  ·have e':q.1=k:=h1.symm.trans e
   have b:atKey (q::qs) k=some q.2:=by simp[atKey,Ay,e']
   rw[iW e,b];exact h2
  ·have e':¬ q.1=k:=λz=>e (h1.trans z)
   have b:atKey (q::qs) k=atKey qs k:=by simp[atKey,Ay,e']
   rw[iX e,b];exact ih
theorem KT.MN{H:Hp}{aF:List (List Key×V)}{xs:List (List Key×Addr×Value)}(r:KT H aF xs)(k:List Key){y:V}{u:Value}(ry:RelV y u) :
  KT H (aF.map λkv=>if kv.1=k then(kv.1,y)else kv) (xs.map (putAt k u)):=by
 induction r with
 |nil=>exact .nil
 | @cons p q ps qs h t ih=>
  rw[dz,dz];refine .cons ?_ ih;obtain⟨h1,h2,h3⟩:=h;unfold putAt;by_cases e:p.1=k
  ·rw[if_pos e,if_pos (h1.symm.trans e)];exact⟨h1,h2,ry⟩
  ·rw[if_neg e,if_neg (λz=>e (h1.trans z))];exact⟨h1,h2,h3⟩
theorem KT.put{H:Hp}{aF:List (List Key×V)}{xs:List (List Key×Addr×Value)}(r:KT H aF xs)(k:List Key){b:Addr}{y:V}{u:Value}(hb:H b=some (.tup (k.map kV)))(ry:RelV y u) :
  KT H (putK aF k y) (storedH xs k b u):=by
 have e:(aF.any λkv=>decide (kv.1=k))=(atKey xs k).isSome:=by
  rw[nV,(r.val k).gS,Cu]
 unfold putK storedH;rw[e];by_cases q:(atKey xs k).isSome=true
 ·rw[if_pos q,if_pos q];exact r.MN k ry
 ·rw[if_neg q,if_neg q];exact Paired.snoc r ⟨rfl,hb,ry⟩
theorem KT.keeps{H H':Hp}{aF:List (List Key×V)}{xs:List (List Key×Addr×Value)}(r:KT H aF xs)(ht:∀b ys,H b=some (.tup ys)->H' b=some (.tup ys)):KT H' aF xs:=
 Paired.L0 r λ_ _ z=>⟨z.1,ht _ _ z.2.1,z.2.2⟩
variable{a:Addr}{A:Around}{X:Cx}{H:Hp}{ae:dm}{s:Shared}{σ:St}{y:V}{u:Value}{E:Value->Shared->Prop}
section
variable{P:Program}{w:World}{h:Heap}
theorem KU{u:HO}(ok:jV P w H h)(e:Rd H a u):b7 P w H h a u:=e.ok ok
theorem nX{aF:List (Key×V)}(ok:jV P w H h)(e:Rd H a (.dK aF)):aF.length<=sizeLine/\(a == sysModules)=false/\∃vs,KV aF vs/\h.DictOf (bx P w) a vs:=
 show b7 P w H h a (.dK aF)from KU ok e
theorem KW{aF:List (Key×V)}(ok:jV P w H h)(e:H a=some (.dK aF)):aF.length<=sizeLine/\(a == sysModules)=false/\∃vs,KV aF vs/\h.DictOf (bx P w) a vs:=nX ok (.inl e)
theorem lD{ks:List Key}(ok:jV P w H h)(e:H a=some (.tup (ks.map kV))):(tupleKind (bx P w)).is h ks a:=by
 obtain⟨_,its,r,o,h1,h2,n,h3⟩:=(show b7 P w H h a (.tup (ks.map kV))from ok a _ e);exact⟨o,its.toArray,n,h1,h2,h3,by simpa using qM r⟩
theorem nY{aF:List (List Key×V)}(ok:jV P w H h)(e:Rd H a (.dT aF)):aF.length<=sizeLine/\(a == sysModules)=false /\
  ∃xs,KT H aF xs/\h.DictOfH (tupleKind (bx P w)) a xs:=by
 obtain⟨z,y,xs,r,o,es,ep,h1,h2,h3,h4,h5⟩:=(show b7 P w H h a (.dT aF)from KU ok e);refine⟨z,y,xs,r,o,es,ep,h1,h2,h3,h4,λx hx=>?_,h5⟩;have all:∀{l:List (List Key×V)}{m:List (List Key×Addr×Value)},KT H l m->∀x∈m,(tupleKind (bx P w)).is h x.1 x.2.1:=by
  intro l m q
  induction q with
  |nil=>intro x hx;exact nomatch hx
  | @cons p q ps qs hq t ih=>
   intro x hx;rcases bA.mp hx with e|hx
   ·subst e
    exact lD ok (by rw[<- hq.1];exact hq.2.1)
   ·exact ih x hx
 exact all r x hx
theorem Rw{aF:List (List Key×V)}(ok:jV P w H h)(e:H a=some (.dT aF)):aF.length<=sizeLine/\(a == sysModules)=false /\
  ∃xs,KT H aF xs/\h.DictOfH (tupleKind (bx P w)) a xs:=nY ok (.inl e)
end
def ql(H:Hp)(a:Addr)(y:V)(r:Option V):Prop:=
 (∃aF k,Rd H a (.dK aF)/\y=kV k/\r=jF aF k)\/∃aF k b,Rd H a (.dT aF)/\y=.ref b/\H b=some (.tup (k.map kV))/\r=jF aF k
def Hu(H:Hp)(a:Addr)(y v:V)(H':Hp):Prop:=
 (∃aF k,H a=some (.dK aF)/\y=kV k/\aF.length<sizeLine/\H'=upd H a (.dK (putK aF k v))) \/
 ∃aF k b,H a=some (.dT aF)/\y=.ref b/\H b=some (.tup (k.map kV))/\aF.length<sizeLine/\H'=upd H a (.dT (putK aF k v))
theorem ql.k{H:Hp}{a:Addr}{aF:List (Key×V)}{k:Key}(e:H a=some (.dK aF)):ql H a (kV k) (jF aF k):=.inl ⟨aF,k,.inl e,rfl,rfl⟩
theorem Hu.k{H:Hp}{a:Addr}{aF:List (Key×V)}{k:Key}{v:V}(e:H a=some (.dK aF))(hl:aF.length<sizeLine):Hu H a (kV k) v (upd H a (.dK (putK aF k v))):=.inl ⟨aF,k,e,rfl,hl,rfl⟩
section
variable{v:V}{r:Value}{o:Option V}
theorem Inv.big(I:Inv X ae σ H s):sysModules<s.heap.objs.size:=by
 have h:mainGlobals<s.heap.objs.size:=(I.mod.glob.keeps I.bk).lt;exact Nat.lt_trans (by decide) h
theorem A3{Q:Value->Shared->Prop}(hu:A.units+1<cLine)(I:Inv X ae σ H s)(g:ql H a y (some v))(ry:RelV y u)(h:∀w' s',Inv X ae σ H s'->RelV v w'->Q w' s') :
  wpAny (model X.prog X.w) A (getItem (.ref a) u) Q E s:=by
 rcases g with⟨aF,k,e,ey,l⟩|⟨aF,k,b,e,ey,eb,l⟩
 ·subst ey
  obtain⟨z,hd,vs,rel,dd⟩:=nX I.ba e;obtain⟨w',hw,xw⟩:=iP.some_of (v:=v) (o:=valueAt vs k) (by rw[l];exact rel.val k)
  exact wpAny_getItem_of (nW ry) dd.mapOf hw (h w' _ (I.tok _) xw)
 ·subst ey
  cases(show u=Value.ref b from ry);obtain⟨z,hd,xs,rel,dd⟩:=nY I.ba e;obtain⟨w',hw,xw⟩:=iP.some_of (v:=v) (o:=(atKey xs k).map (·.2)) (by rw[l];exact rel.val k)
  obtain⟨p,hp,hp2⟩:=cH.mp hw;refine wpAny_getItem_heap (tupleKind_room_in1 hu) (lD I.ba eb) dd hp ?_;rw[hp2];exact h w' _ (I.tok _) xw
theorem WQ{Q:Value->Shared->Prop}(hu:A.units+1<cLine)(I:Inv X ae σ H s)(g:ql H a y o)(ry:RelV y u)(h:∀s',Inv X ae σ H s'->Q (.bool o.isSome) s') :
  wpAny (model X.prog X.w) A (compareOp .In u (.ref a)) Q E s:=by
 rcases g with⟨aF,k,e,ey,l⟩|⟨aF,k,b,e,ey,eb,l⟩
 ·subst ey
  obtain⟨z,hd,vs,rel,dd⟩:=nX I.ba e;refine wpAny_in_of (nW ry) hd dd.mapOf ?_;rw[<- (rel.val k).gS,<- l];exact h _ (I.tok _)
 ·subst ey
  cases(show u=Value.ref b from ry);obtain⟨z,hd,xs,rel,dd⟩:=nY I.ba e;refine wpAny_in_heap (tupleKind_room_in1 hu) (lD I.ba eb) hd dd ?_;have q:=(rel.val k).gS;rw[Cu]at q;rw[<- q,<- l];exact h _ (I.tok _)
theorem Hv{Q:Value->Shared->Prop}(hu:A.units+1<cLine)(I:Inv X ae σ H s)(g:ql H a y o)(ry:RelV y u)(h:∀s',Inv X ae σ H s'->Q (.bool (!o.isSome)) s') :
  wpAny (model X.prog X.w) A (compareOp .NotIn u (.ref a)) Q E s:=by
 rcases g with⟨aF,k,e,ey,l⟩|⟨aF,k,b,e,ey,eb,l⟩
 ·subst ey
  obtain⟨z,hd,vs,rel,dd⟩:=nX I.ba e;refine wpAny_notIn_of (nW ry) hd dd.mapOf ?_;rw[<- (rel.val k).gS,<- l];exact h _ (I.tok _)
 ·subst ey
  cases(show u=Value.ref b from ry);obtain⟨z,hd,xs,rel,dd⟩:=nY I.ba e;refine wpAny_notIn_heap (tupleKind_room_in1 hu) (lD I.ba eb) hd dd ?_;have q:=(rel.val k).gS;rw[Cu]at q;rw[<- q,<- l];exact h _ (I.tok _)
theorem se{h':Heap}{t':Nat}{ob:HO}(I:Inv X ae σ H s)(mu:Qc (H a))(hs:Heap.SameBut a s.heap h')(he:∃q,h'.get? a=some q)(new:b7 X.prog X.w (upd H a ob) h' a ob) :
  Inv X ae σ (upd H a ob) {s with heap:=h',toks:=t'}:=
 I.write (x:=a) (e:=a) mu (.inl rfl) (λb q hb z=>(hs.2 b hb).trans z) he new
theorem Dl{P:Program}{w:World}{H':Hp}{h':Heap}{aF:List (Key×V)}{vs:List (Key×Value)}(z:aF.length<=sizeLine)(hd:(a == sysModules)=false)(rel:KV aF vs)(dd:h'.DictOf (bx P w) a vs) :
  b7 P w H' h' a (.dK aF):=⟨z,hd,vs,rel,dd⟩
theorem A4{H':Hp}{Q:Unit->Shared->Prop}(hu:A.units+1<cLine)(I:Inv X ae σ H s)(g:Hu H a y v H')(ry:RelV y u)(rv:RelV v r)(h:∀s',Inv X ae σ H' s'->Q () s') :
  wpAny (model X.prog X.w) A (setItem (.ref a) u r) Q E s:=by
 rcases g with⟨aF,k,e,ey,l,eH⟩|⟨aF,k,b,e,ey,eb,l,eH⟩
 ·subst ey eH
  obtain⟨z,hd,vs,rel,dd⟩:=KW I.ba e;have hz:vs.length<=sizeLine:=by rw[<- rel.length];exact z
  have hl:(putK aF k v).length<=sizeLine:=by have:=iY aF k v;omega
  refine wpAny_setItem_pairs (hsz:=hz) (nW ry) dd λh' MO hs=>h _ ?_;have he:∃q,h'.get? a=some q:=let⟨q,_,_,hq,_⟩:=MO;⟨q,hq⟩;exact se I (by rw[e];exact True.intro) hs he (Dl hl hd (rel.put k rv) MO)
 ·subst ey eH
  cases(show u=Value.ref b from ry);obtain⟨z,hd,xs,rel,dd⟩:=Rw I.ba e;have hz:xs.length<=sizeLine:=by rw[<- Paired.length rel];exact z
  have hl:(putK aF k v).length<=sizeLine:=by have:=iY aF k v;omega
  refine wpAny_setItem_heap (hsz:=hz) (tupleKind_room_in1 hu) (lD I.ba eb) dd λh' MO hs=>h _ ?_;obtain⟨q,es,ep,hq,h2,h3,h4,_,h5⟩:=MO;refine se I (by rw[e];exact True.intro) hs ⟨q,hq⟩ ⟨hl,hd,_,(rel.put k eb rv).keeps λc ys ec=>?_,q,es,ep,hq,h2,h3,h4,h5⟩
  rw[au (Qa ec e (λz=>nomatch z))];exact ec
end
section
variable{aF:List (Key×V)}{k:Key}
end
def MP(i:Expr):Prop:=∀ov iv,subscripted i false ov iv=operate [ov,iv] (getItem ov iv)
theorem Hw{prog:Program}{w:World}{A:Around}{E:Value->Shared->Prop}{s:Shared}{env:Env}{value slice:Expr}{pos:Pos}{T id:String}{Q:Value->Shared->Prop}
  (hl:typeLookup (.type T) "__getitem__" = pure (some (.builtin id))) (hs:MP slice)
  (h:wpAny (model prog w) A (eval value env) (λo s₁=>wpAny (model prog w) A (eval slice env) (λi s₂=>s₂.TypeIs o T/\wpAny (model prog w) A (getItem o i) Q E s₂) E s₁) E s) :
  wpAny (model prog w) A (eval (.Subscript value slice pos) env) Q E s:=by
 refine Subscript_ (wpAny_mono h (λo s₁ h₁=>wpAny_mono h₁ (λi s₂ h₂=>?_) λ_ _ x=>x) λ_ _ x=>x);obtain⟨hT,h₂⟩:=h₂;unfold subscriptTail;refine wpAny_bind ?_;rw[getitemInPython_of_ne hT.not_modules];refine wpAny_bind (wpAny_specialOf hT hl ?_);have fin:wpAny (model prog w) A (subscripted slice false o i) (λr s₃=>wpAny (model prog w) A (letTemporaryGo value o r >>= λ_=>pure r) Q E s₃) E s₂:=by
  rw[hs o i];exact wpAny_operating (wpAny_mono h₂ (λr s₃ h₃=>wpAny_bind (wpAny_letTemporaryGo (wpAny_pure h₃))) λ_ _ x=>x)
 first
  |exact wpAny_pure (wpAny_bind fin)
  |exact wpAny_bind (wpAny_pure (wpAny_bind fin))
  |exact wpAny_bind fin
theorem uE{X:Cx}{ae:dm}{σ:St}{H:Hp}{s:Shared}{a:Addr}{y:V}{o:Option V}(I:Inv X ae σ H s)(g:ql H a y o):s.TypeIs (.ref a) "dict" := by
 rcases g with⟨aF,k,e,_,_⟩|⟨aF,k,b,e,_,_,_⟩
 ·obtain⟨_,_,vs,_,dd⟩:=nX I.ba e
  exact dd.typeIs
 ·obtain⟨_,_,xs,_,dd⟩:=nY I.ba e
  exact dd.typeIs
def Rx(td ty:TE):TE:=λσ H Q=>td σ H λx H1=>ty σ H1 λy H2=>∃a v,x=.ref a/\ql H2 a y (some v)/\Q v H2
def Ry(td ty tv:TE):TS:=λD σ H=>tv σ H λv H1=>td σ H1 λx H2=>ty σ H2 λy H3=>∃a H4,x=.ref a/\Hu H3 a y v H4/\D.nx σ H4
section
variable{o i e value:Expr}{pos cJ mH:Pos}{td ty tv:TE}
theorem yX(hu:X.A.units+1<cLine)(ho:PE X o td)(hi:PE X i ty)(hs:MP i):PE X (.Subscript o i pos) (Rx td ty):=by
 intro ae s σ H Q I h;refine Hw PySem.F.slot_dict_getitem.lookup hs (bO (ho ae s σ H _ I h) λu s1 ⟨x,H1,I1,rx,q1⟩=>bO (hi ae s1 σ H1 _ I1 q1) λiv s2 zz=>?_);obtain⟨y,H2,I2,ry,a,v,ex,g,q2⟩:=zz;subst ex
 obtain rfl:u=Value.ref a:=rx
 exact⟨uE I2 g,A3 hu I2 g ry λw' s3 I3 xw=>⟨v,H2,I3,xw,q2⟩⟩
theorem yY(hu:X.A.units+1<cLine)(ho:PE X o td)(hi:PE X i ty)(hv:PE X value tv)(hs:swapsWith value (some (.Subscript o i cJ)) pos.line X.env=pure false) :
  PS X (.Assign [.Subscript o i cJ] value pos) (Ry td ty tv):=by
 intro ae s σ H D I h;refine wpAny_Assign_Subscript (bO (hv ae s σ H _ I h) λr s1 ⟨v,H1,I1,rv,q1⟩=>bO (ho ae s1 σ H1 _ I1 q1) λu s2 ⟨x,H2,I2,rx,q2⟩=>bO (hi ae s2 σ H2 _ I2 q2) λiv s3 ⟨y,H3,I3,ry,a,H4,ex,g,q3⟩=>?_) hs;subst ex
 obtain rfl:u=Value.ref a:=rx
 exact A4 hu I3 g ry rv λs4 I4=>⟨σ,H4,I4,q3⟩
end
theorem uF{P:Program}{w:World}{H:Hp}(h:Heap)(hb:sysModules<h.objs.size):b7 P w H (h.push {cls:=.type "dict",data:=.dict #[]}) h.objs.size (.dK []):=
 ⟨iN _,beq_eq_false_iff_ne.mpr (Ne.symm (eL hb)),[],.nil,Heap.DictOf.new h⟩
def MQ:TE:=λ_ H Q=>∀p,H p=none->Q (.ref p) (upd H p (.dK []))
section
variable{pos:Pos}
theorem nZ:PE X (.Dict [] [] pos) MQ:=λae s σ H Q I h=>
 wpAny_Dict_empty ⟨.ref s.heap.objs.size,_,I.laid (a:=s.heap.objs.size) (o:=.dK []) (t':=s.toks) (λ_ _ q=>Heap.get?_push_of_some _ q) (dj _) (uF s.heap I.big),rfl,h _ (I.ba.fresh (dj _))⟩
end
def sf:List (TE×TE)->St->Hp->(List (V×V)->Hp->Prop)->Prop
 |[],_,H,Q=>Q [] H
 |(tk,tv)::r,σ,H,Q=>tk σ H λx H1=>tv σ H1 λy H2=>sf r σ H2 λps H3=>Q ((x,y)::ps) H3
abbrev VV:List (V×V)->List (Value×Value)->Prop:=Paired λp q=>RelV p.1 q.1/\RelV p.2 q.2
def Rz(X:Cx)(pos:Pos)(keys:List (Option Expr))(values:Bz)(Hx:List (TE×TE)):Prop:=
 ∀(ae:dm)(s:Shared)(σ:St)(H:Hp)(Q:List (V×V)->Hp->Prop),Inv X ae σ H s->sf Hx σ H Q ->
  wpAny (model X.prog X.w) X.A (evalPairs (pairTrees keys values X.env pos)) (λvs s'=>∃ps H',Inv X ae σ H' s'/\VV ps vs/\Q ps H') X.xe s
theorem Hy{X:Cx}{pos:Pos}:Rz X pos [] [] []:=λae s σ H Q I h=>pairTrees_nil_walk ⟨[],H,I,.nil,h⟩
theorem Dm{X:Cx}{pos:Pos}{k v:Expr}{ks:List (Option Expr)}{vs:Bz}{tk tv:TE}{Hx:List (TE×TE)}(hk:PE X k tk)(hv:PE X v tv)(hr:Rz X pos ks vs Hx) :
  Rz X pos (some k::ks) (v::vs) ((tk,tv)::Hx):=λae s σ H Q I h=>
 pairTrees_cons_walk (bO (hk ae s σ H _ I h) λu s1 ⟨x,H1,I1,rx,q1⟩=>bO (hv ae s1 σ H1 _ I1 q1) λw2 s2 ⟨y,H2,I2,ry,q2⟩=>
  bO (hr ae s2 σ H2 _ I2 q2) λws s3 ⟨ps,H3,I3,rel,q3⟩=>⟨(x,y)::ps,H3,I3,.cons ⟨rx,ry⟩ rel,q3⟩)
def jG(aF more:List (Key×V)):List (Key×V):=more.foldl (λc8 kv=>putK c8 kv.1 kv.2) aF
theorem KV.merge:∀{more:List (Key×V)}{rs:List (Key×Value)}{aF:List (Key×V)}{vs:List (Key×Value)},KV more rs->KV aF vs->KV (jG aF more) (merged vs rs):=by
 intro more rs aF vs r;unfold KV at r
 induction r generalizing aF vs with
 |nil=>intro q;exact q
 | @cons p q ps qs h t ih=>
  intro r0;have e:KV (putK aF p.1 p.2) (stored vs q.1 q.2):=by
   have:=r0.put p.1 h.2
   rw[<- h.1];exact this
  exact ih e
theorem jw:∀(more aF:List (Key×V)),(jG aF more).length<=aF.length+more.length
 |[],aF=>by show aF.length<=aF.length+0;omega
 |p::r,aF=>by
  have h1:=jw r (putK aF p.1 p.2);have h2:=iY aF p.1 p.2;show(jG (putK aF p.1 p.2) r).length<=_;rw[dP];omega
theorem n_{P:Program}{w:World}:∀{aF:List (Key×V)}{ws:List (Value×Value)},VV (aF.map λkv=>(kV kv.1,kv.2)) ws->∃rs,Carries (bx P w) ws rs/\KV aF rs
 |[],_,r=>by rw[BZ]at r;cases r;exact⟨[],True.intro,.nil⟩
 |p::aF,_,r=>by
  rw[dz]at r;cases r with
  | @cons a b as bs h t=>
   obtain⟨rs,c,q⟩:=n_ (P:=P) (w:=w) t;obtain⟨b1,b2⟩:=b;exact⟨(p.1,b2)::rs,⟨nW h.1,rfl,c⟩,.cons ⟨rfl,h.2⟩ q⟩
def RA(Hx:List (TE×TE)):TE:=λσ H Q=>∀p,H p=none->sf Hx σ (upd H p (.dK [])) λps H2=>H2 p=some (.dK [])/\∃aF:List (Key×V),ps=aF.map (λkv=>(kV kv.1,kv.2))/\aF.length<=15/\Q (.ref p) (upd H2 p (.dK (jG [] aF)))
theorem Hz{X:Cx}{pos:Pos}{keys:List (Option Expr)}{values:Bz}{Hx:List (TE×TE)}(h:Rz X pos keys values Hx)(C_:keys.all (·.isSome)=true)(hl:keys.length=values.length)(h0:keys≠[])
  (WT:keys.length<=15):PE X (.Dict keys values pos) (RA Hx):=by
 intro ae s σ H Q I q;have hn:=I.ba.fresh (dj s.heap.objs.size);have I1:=I.laid (a:=s.heap.objs.size) (o:=.dK []) (h':=s.heap.push {cls:=.type "dict",data:=.dict #[]}) (t':=s.toks) (λ_ _ q=>Heap.get?_push_of_some _ q) (dj _) (uF s.heap I.big);refine wpAny_Dict_walk (knd:=bx X.prog X.w) C_ hl h0 WT (bO (h ae _ σ _ _ I1 (q _ hn)) λws s2 zz=>?_);obtain⟨ps,H2,I2,rel,e,aF,ep,lk,q2⟩:=zz;subst ep;obtain⟨rs,c,rk⟩:=n_ (P:=X.prog) (w:=X.w) rel;obtain⟨z,hd,vs0,r0,dd⟩:=KW I2.ba e;cases r0;refine⟨rs,c,dd,λh' MO hs=>⟨.ref s.heap.objs.size,_,?_,rfl,q2⟩⟩;have hz:(jG [] aF).length<=sizeLine:=by
  have h1:=jw aF [];rw[qa]at h1;rw[sizeLine_eq];omega
 have he:∃q,h'.get? s.heap.objs.size=some q:=let⟨q,_,_,hq,_⟩:=MO;⟨q,hq⟩;exact se I2 (by rw[e];exact True.intro) hs he (Dl hz hd (rk.merge .nil) MO)
structure M2(X:Cx)(o:Expr)(m:Str)(cL:Pos)(e f:Expr)(dq:Pos):Prop where
 base:attributeBase o m X.env (eval o X.env)=eval o X.env
 jX:((backTo dq (starEach [e,f] X.env)).all (λx=>!x.1)&&(backToKw dq (keywordEach [] X.env)).all (λx=>x.1.isSome)
  && decide (([e,f]:Bz).length+([]:List Keyword).length+(if([]:List Keyword).isEmpty then 0 else 1)<30))=true
 line:(cL.endLine == dq.line)=true
 trees:backTo dq (starEach [e,f] X.env)=[(false,eval e X.env),(false,eval f X.env)]
def ZU(H:Hp)(a:Addr):Prop:=(∃aF,Rd H a (.dK aF))\/∃aF,Rd H a (.dT aF)
theorem MR{X:Cx}{ae:dm}{σ:St}{H:Hp}{s:Shared}{a:Addr}(I:Inv X ae σ H s)(d:ZU H a) :
  s.TypeIs (.ref a) "dict" /\ (∀b,Value.ref a=.ref b->∃ob,s.heap.get? b=some ob/\ob.dict=none)/\(a == sysModules)=false:=by
 rcases d with⟨aF,e⟩|⟨aF,e⟩
 ·obtain⟨_,hd,vs,_,dd⟩:=nX I.ba e
  refine⟨dd.typeIs,λb q=>?_,hd⟩;cases q;obtain⟨ob,_,_,h1,h2,_⟩:=dd;exact⟨ob,h1,h2.2.1⟩
 ·obtain⟨_,hd,xs,_,dd⟩:=nY I.ba e
  refine⟨dd.typeIs,λb q=>?_,hd⟩;cases q;obtain⟨ob,_,_,h1,h2,_⟩:=dd;exact⟨ob,h1,h2.2.1⟩
section
variable{d:V}{r:Value}{o:Option V}
theorem MS{Q:Value->Shared->Prop}(hu:A.units+1<cLine)(I:Inv X ae σ H s)(g:ql H a y o)(ry:RelV y u)(rd:RelV d r)(h:∀w' s',Inv X ae σ H s'->RelV (o.getD d) w'->Q w' s') :
  wpAny (model X.prog X.w) A (call (.builtin "dict.get") [.ref a,u,r]) Q E s:=by
 rcases g with⟨aF,k,e,ey,l⟩|⟨aF,k,b,e,ey,eb,l⟩
 ·subst ey
  obtain⟨z,hd,vs,rel,dd⟩:=nX I.ba e;refine call_meetsIn PySem.F.slot_dict_get dd.typeIs PySem.F.entry_dict_get (PySem.F.args_dict_get_3 _ _ _) (meets_dict_get_default (bx X.prog X.w) a (nW ry) hd r) ⟨_,dd.mapOf,h _ _ (I.tok _) ?_⟩;rw[l];exact(rel.val k).getD rd
 ·subst ey
  cases(show u=Value.ref b from ry);obtain⟨z,hd,xs,rel,dd⟩:=nY I.ba e;refine call_meetsIn PySem.F.slot_dict_get dd.typeIs PySem.F.entry_dict_get (PySem.F.args_dict_get_3 _ _ _) (meetsH_dict_get_default (tupleKind (bx X.prog X.w)) a b hd r) ⟨tupleKind_room_in1 hu,k,xs,lD I.ba eb,dd,h _ _ (I.tok _) ?_⟩;rw[l];exact(rel.val k).getD rd
end
def MT(td ty tx:TE):TE:=λσ H Q=>td σ H λx H1=>∃a,x=.ref a/\ZU H1 a/\ty σ H1 λy H2=>tx σ H2 λz H3=>∃o,ql H3 a y o/\Q (o.getD z) H3
section
variable{o e f:Expr}{cL dq:Pos}{td ty tx:TE}
theorem Dn(hu:X.A.units+1<cLine)(ho:PE X o td)(he:PE X e ty)(hf:PE X f tx)(m:M2 X o "get" cL e f dq):PE X (.Call (.Attribute o "get" cL) [e,f] [] dq) (MT td ty tx):=by
 intro ae s σ H Q I h;refine wpAny_Call_method m.base m.jX m.line PySem.F.plainAttrs_dict PySem.F.slot_dict_get PySem.F.type_dict_get (bO (ho ae s σ H _ I h) λu s1 zz=>?_);obtain⟨x,H1,I1,rx,a,ex,d,q1⟩:=zz;subst ex
 obtain rfl:u=Value.ref a:=rx
 obtain⟨t1,t2,_⟩:=MR I1 d;refine⟨t1,t2,?_⟩;rw[m.trees];refine Calls.callWith_builtin rfl (Calls.evalArgs_plain (Calls.spliced_cons (bO (he ae s1 σ H1 _ I1 q1) λiv s2 ⟨y,H2,I2,ry,q2⟩=>
  Calls.spliced_cons (bO (hf ae s2 σ H2 _ I2 q2) λfv s3 ⟨z,H3,I3,rz,ov,g,q3⟩=>Calls.spliced_nil ?_))))
 exact MS hu I3 g ry rz λw' s4 I4 xw=>⟨_,H3,I4,xw,q3⟩
end
section
variable{aF:List (Key×V)}
end
section
end
end L2
namespace Pf
def iC:B1->B1->B1
 |seen,[]=>seen
 |seen,c::l=>iC (if c∈seen then seen else c::seen) l
end Pf
namespace L2
open PySem PySem.Spec PyProof.Rows
section
variable{prog:Program}{w:World}
def iZ(seen:B1)(k:Str):Bool:=seen.any λc=>decide (k=⟨#[c]⟩)
theorem km{A:Around}{R:Result->Shared->Prop}{I S:Addr}{x:Str}{t:Tok}(hh:A.in1.handled=none)(iQ:I≠S)(hb:x.cps.size+1<scanBound) :
  ∀(l:B1)(i:Nat)(seen:B1)(s:Shared),x.cps.toList.drop i=l->seen.length<=i->i<=x.cps.size->s.heap.IsStrIter I "str_ascii_iterator" x t i->Heap.SetOf (strKind prog w) s.heap S (iZ seen) seen.length ->
   (∀(h':Heap)(tk:Nat),(∀b o,b≠S->b≠I->s.heap.get? b=some o->h'.get? b=some o)->Heap.SetOf (strKind prog w) h' S (iZ (Pf.iC seen l)) (Pf.iC seen l).length->R (.ok (.ret .none)) {s with heap:=h',toks:=tk}) ->
   codeAny (model prog w) A (Code.builtin "set.update.loop" {pos:=[.ref S,.ref I]}) R s
 |[],i,seen,s,hl,hsn,hi,hit,uG,h=>by
  refine codeAny_builtin F.entry_set_update_loop ?_;rw[Around.under_plainId F.plain_set_update_loop];have hx:x.cps[i]?=none:=by
   have:=List.drop_eq_nil_iff.mp hl
   rw[Array.length_toList]at this;exact Array.getElem?_eq_none (by omega)
  refine wpAny_bind (wpAny_pyNext_ascii_end hh hit hx λh' he=>?_);refine wpAny_pure ?_;refine h h' s.toks (λb o _ Vy hg=>he b o Vy hg) ?_;obtain⟨o,es,ep,tb,e1,e2⟩:=uG;exact⟨o,es,ep,tb,he _ _ (Ne.symm iQ) e1,e2⟩
 |c::l,i,seen,s,hl,hsn,hi,hit,uG,h=>by
  refine codeAny_builtin F.entry_set_update_loop ?_;rw[Around.under_plainId F.plain_set_update_loop];have PK:x.cps.toList[i]?=some c:=by
   have:=congrArg (λq=>q[0]?) hl
   simpa using this
  have hx:x.cps[i]?=some c:=by simpa using PK
  have fM:i<x.cps.size:=(Array.getElem?_eq_some_iff.mp hx).1;refine wpAny_bind (wpAny_pyNext_ascii_item hit hx λh1 WU ZV=>?_);have RB:Heap.SetOf (strKind prog w) h1 S (iZ seen) seen.length:=by
   obtain⟨o,es,ep,tb,e1,e2⟩:=uG;exact⟨o,es,ep,tb,(ZV.2 S (Ne.symm iQ)).trans e1,e2⟩
  refine wpAny_bind (wpAny_holding (wpAny_holding (wpAny_bind ((strKind prog w).pyHash (k:=⟨#[c]⟩) (strKind_is prog w ⟨#[c]⟩ _) ?_))));refine wpAny_setAddHashed_of (strKind_is prog w ⟨#[c]⟩ _) rfl RB (by omega) λh2 ZW RC=>?_
  refine wpAny_pure ⟨plainId_quiet F.plain_set_update_loop _,?_⟩;have RD:iZ seen ⟨#[c]⟩=decide (c∈seen):=by
   unfold iZ;rw[yE];simp
  have WW:h2.IsStrIter I "str_ascii_iterator" x t (i+1):=by
   obtain⟨o,e1,e2⟩:=WU;exact⟨o,(ZW.2 I iQ).trans e1,e2⟩
  refine km hh iQ hb l (i+1) (if c∈seen then seen else c::seen) _ ?_ ?_ (by omega) WW ?_ λh' tk hk Dd=>?_
  ·have:=congrArg List.tail hl
   rw[List.tail_drop]at this;exact this
  ·split
   ·omega
   ·simp;omega
  ·refine SetOf_congr RC (λk=>?_) ?_
   ·by_cases hc:c∈seen
    ·rw[if_pos hc]
     unfold iZ;rw[yE];simp only[yF,B9,decide_eq_true_eq];constructor
     ·rintro(z|z)
      ·exact z
      ·exact⟨c,hc,z⟩
     ·exact λz=>.inl z
    ·rw[if_neg hc]
     unfold iZ;rw[nB,Bool.or_comm]
   ·rw[RD]
    by_cases hc:c∈seen
    ·rw[decide_eq_true hc,if_pos rfl,if_pos hc]
    ·rw[decide_eq_false hc,if_neg dC,if_neg hc];rfl
  ·exact h h' tk (λb o ZX Vy hg=>hk b o ZX Vy ((ZW.2 b ZX).trans ((ZV.2 b Vy).trans hg))) Dd
theorem sj{A:Around}{E:Value->Shared->Prop}{s:Shared}{x:Str}{t:Tok}{Q:Value->Shared->Prop}(hh:A.handled=none)(ha:x.cps.all (· < 128)=true)(hb:x.cps.size+1<scanBound)
  (h:∀h' tk,(∀b o,s.heap.get? b=some o->h'.get? b=some o)->Heap.SetOf (strKind prog w) h' s.heap.objs.size (iZ (Pf.iC [] x.cps.toList)) (Pf.iC [] x.cps.toList).length->Q (.ref s.heap.objs.size) {s with heap:=h',toks:=tk}) :
  wpAny (model prog w) A (call (.type "set") [.str x t]) Q E s:=by
 obtain⟨hp,g,d,ZY,os⟩:=s;obtain⟨c,tl,hm⟩:=F.called_set.mro;refine wpAny_call (codeAny_of_tree ?_);refine wpAny_pure ⟨Code.quiet_builtin _ (by decide +kernel),codeAny_builtin F.entry_type_call ?_⟩
 rw[Around.under_plain (weight_type_call_type _ _ _) rfl];unfold Builtin.«type.__call__»;dsimp only;refine wpAny_ite_false ?_ ?_
 ·rw[F.called_set.notType];rfl
 refine wpAny_ite_false ?_ ?_
 ·rw[F.called_set.canCreate];rfl
 refine wpAny_bind (wpAny_of_eq (F.typeCall_set_1 _) ?_);refine wpAny_bind (wpAny_of_eq hm ?_);refine wpAny_ite_false rfl ?_;refine wpAny_bind (wpAny_of_eq F.called_set.made ?_);refine wpAny_bind (wpAny_pure ?_);refine wpAny_bind (wpAny_holding (wpAny_call (codeAny_mono (code_set_new_1 (E:=λ_ _=>False) (Q₁:=λv s'=>∃led,v=.ref hp.objs.size/\s'=⟨hp.push {cls:=.type "set",data:=.set #[] 0 (SetTable.fresh 0 0 led)},g,d,ZY,os⟩) (.str x t) λled=>⟨led,rfl,rfl⟩) ?_)));intro r s1 hr;cases r with
 |error e=>exact hr.elim
 |ok f=>
  cases f with
  |next=>exact hr.elim
  |brk=>exact hr.elim
  |cont=>exact hr.elim
  |ret v=>
   obtain⟨led,rfl,rfl⟩:=hr;have hg:=Heap.get?_push_size hp (o:={cls:=.type "set",data:=.set #[] 0 (SetTable.fresh 0 0 led)}) rfl;have hT:Shared.TypeIs ⟨hp.push {cls:=.type "set",data:=.set #[] 0 (SetTable.fresh 0 0 led)},g,d,ZY,os⟩ (.ref hp.objs.size) "set" := ⟨_,hg,rfl⟩;refine wpAny_bind (wpAny_isInstance hT F.called_set.sub ?_);refine wpAny_ite_false rfl ?_;refine wpAny_bind (wpAny_holding ?_);unfold callSpecial?;refine wpAny_bind (wpAny_specialOf hT F.called_set.init.lookup ?_);dsimp only;refine wpAny_holding (wpAny_bind (wpAny_of_eq (F.called_set.init.bind _) ?_));dsimp only;refine wpAny_bind (wpAny_call (codeAny_call_builtin F.called_set.init.plain F.entry_set_init (check_set_init_1 hT ?_)));have ZZ:=F.sub_str_set;have Z3:=F.sub_str_frozenset
   wp_walk using wpAny_pyIter_ascii ha
   have hz:(hp.push {cls:=.type "set",data:=.set #[] 0 (SetTable.fresh 0 0 led)}).objs.size=hp.objs.size+1:=Heap.size_push ..;refine km (A:=A.in1.in1) (x:=x) (t:=t) (show A.in1.in1.in1.handled=none from hh) ?_ hb x.cps.toList 0 [] _ lq (iN _) (iN _) ?_ ?_ λh' tk hk hs=>?_
   ·show(hp.push _).objs.size≠hp.objs.size
    rw[hz];omega
   ·exact⟨_,Heap.get?_push_size _ rfl,rfl,rfl⟩
   ·refine SetOf_congr ((setObjOf_fresh led).setOf (Heap.get?_push_of_some _ hg) (by decide)) (λ_=>rfl) rfl
   ·refine wpAny_pure (wpAny_pure (wpAny_pure (wpAny_ite_false rfl (wpAny_pure ?_))))
    refine h h' tk (λb o KY=>?_) hs;have fM:b<hp.objs.size:=Heap.lt_size KY;refine hk b o (eL fM) ?_ (Heap.get?_push_of_some _ (Heap.get?_push_of_some _ KY));show b≠(hp.push _).objs.size;rw[hz];exact eL (Cq fM)
end
section
variable{X:Cx}{a:Expr}{p p1 pos ib:Pos}{ta:TE}
theorem A5(hc:X.calm=true)(RE:X.mg "len" = none)(W0:X.mg "set" = none)(ha:PE X a ta)(PQ:Gl X "len" := by rfl)(W2:Gl X "set" := by rfl)
  (hs:starEach [a] X.env=(false,eval a X.env)::starEach [] X.env:=by rfl) (hpl:(backTo ib (starEach [] X.env)).any (·.1)=false:=by rfl)
  (xg:starEach [.Call (.Name "set" p1) [a] [] ib] X.env=(false,eval (.Call (.Name "set" p1) [a] [] ib) X.env)::starEach [] X.env:=by rfl) (W3:(backTo pos (starEach [] X.env)).any (·.1)=false:=by rfl) :
  PE X (.Call (.Name "len" p) [.Call (.Name "set" p1) [a] [] ib] [] pos) (λσ H Q=>ta σ H λv H1=>∃z:Str,v=.str z/\z.cps.all (· < 128)=true/\z.cps.size+1<scanBound/\Q (.int ((Pf.iC [] z.cps.toList).length:Nat)) H1):=by
 intro ae s σ H Q I h;have inner:wpAny (model X.prog X.w) X.A (eval (.Call (.Name "set" p1) [a] [] ib) X.env) (λu s'=>∃(D:Addr)(n:Nat)(S:Str->Bool)(H1:Hp),u=.ref D/\Inv X ae σ H1 s'/\Heap.SetOf (strKind X.prog X.w) s'.heap D S n/\n<scanBound/\Q (.int (n:Nat)) H1) X.xe s:=by
  have hA:=(aV ha cK hs) ib ae s σ H (λvs H1=>∃z:Str,vs=[.str z]/\z.cps.all (· < 128)=true/\z.cps.size+1<scanBound/\Q (.int ((Pf.iC [] z.cps.toList).length:Nat)) H1) I (by
   show ta σ H _;exact cast (congrArg (ta σ H) (funext λv=>funext λH1=>propext ⟨λ⟨z,e,q⟩=>⟨z,by rw[e],q⟩,λ⟨z,e,q⟩=>⟨z,(by cases e;rfl),q⟩⟩)) h)
  refine wpAny_Call_Name_kw (fR I W2 W0 PyProof.Rows.boot_set (wV (bO hA λus s1 ⟨vs,H1,I1,r1,q1⟩=>?_) hs hpl));obtain⟨z,rfl,hz1,W4,q⟩:=q1;obtain⟨u,rfl,⟨t,rfl⟩⟩:=r1.one;refine sj (I1.ok.hd hc) hz1 W4 λh' tk hk uG=>?_;have fM:(Pf.iC [] z.cps.toList).length<scanBound:=by
   obtain⟨o,es,ep,tb,_,_,_,_,_,e6,_,e8⟩:=uG;omega
  exact⟨_,_,_,H1,rfl,I1.kept (t':=tk) hk,uG,fM,q⟩
 refine wpAny_Call_Name_kw (fR I PQ RE PySem.boot_len (Kv ?_ xg W3));rw[xg];refine Calls.spliced_cons (bO inner λu s1 zz=>?_);obtain⟨D,n,S,H1,e,I1,uG,fM,q⟩:=zz;subst e;refine wpAny_pure ?_;obtain⟨o,es,ep,tb,e1,e2,e3,e4,e5,e6,e7,e8⟩:=uG;have ZI:scanBound=4096:=rfl;refine call_len_set e1 e2 e3 e7 (by omega) ⟨.int (n:Nat),H1,I1.kept (t':=s1.toks+1+1) (λ_ _ z=>z),⟨s1.toks+1,?_⟩,q⟩
 rw[e8]
end
end L2
namespace PySem
open Sem (wp)
open AutoSeq1 (wpAny_loadPart')
section
variable{prog:Program}{w:World}{A:Around}{E:Value->Shared->Prop}{s:Shared}
set_option maxHeartbeats 4000000 in
theorem i6(l:Addr)(items:Array Value)(n:Nat)(du:Option Addr)(sl:Array D1)(t:Tok) :
  Meets (Builtin.«enumerate.__new__» ⟨[.type "enumerate",.ref l],[(Str.ofString "start",.int 1 t)]⟩) (λ_ R s=>s.heap.get? l=some {cls:=.type "list",dict:=du,data:=.seq items n,slots:=sl} /\
   R (.ok (.ret (.ref (s.heap.push {cls:=.type "list_iterator",data:=.fields #[.ref l,.int 0 0]}).objs.size)))
    {s with heap:=(s.heap.push {cls:=.type "list_iterator",data:=.fields #[.ref l,.int 0 0]}).push {cls:=.type "enumerate",data:=.fields #[.none,.bool false,.ref s.heap.objs.size,rawInt 1,.none,.none]}}):=
 .of_wp λprog w A R s h=>by
  obtain⟨hp,g,d,tk,os⟩:=s;obtain⟨hl,h⟩:=h;have W5:=sub_enumerate;have hL:Heap.IsList (Shared.heap ⟨hp,g,d,tk,os⟩) l items:=⟨_,hl,rfl,n,rfl⟩
  wp_walk using wpAny_loadPart' hl
  refine wpAny_stack_any λst=>wpAny_pure ?_;split
  ·rename_i c _ _ _ _ _
   cases(c == Value.type "enumerate")
   ·wp_walk using wpAny_loadPart' hl,wpAny_pyIter_list hL
    exact⟨_,rfl,h⟩
   ·wp_walk using wpAny_loadPart' hl,wpAny_pyIter_list hL
    exact⟨_,rfl,h⟩
  ·wp_walk using wpAny_loadPart' hl,wpAny_pyIter_list hL
   exact⟨_,rfl,h⟩
theorem jH{T newId:String}{self:Value}{rest:B2}{kw:List (Str×Value)}(hl:typeLookup (.type T) "__init__" = pure (some (.builtin "object.__init__")))
  (hm:Bind.madeBy (.type T)=pure (some newId)) (iQ:(some newId != some "object.__new__")=true) :
  Meets (Builtin.«object.__init__» ⟨self::rest,kw⟩) (λ_ R s=>s.TypeIs self T/\R (.ok (.ret .none)) s):=by
 refine Meets.of_wp λprog w A R s hs=>?_;obtain⟨hT,hq⟩:=hs;cases rest with
 |nil=>
  cases kw with
  |nil=>exact wpAny_pure ⟨_,rfl,hq⟩
  |cons a kw=>
   repeat (any_goals (first|assumption|wp_step))
   exact⟨_,rfl,hq⟩
 |cons a rest=>
  repeat (any_goals (first|assumption|wp_step))
  exact⟨_,rfl,hq⟩
theorem i7(a b:Value):checkTypeCall "enumerate" ⟨[a],[(Str.ofString "start",b)]⟩=pure ():=by kernel_rfl
theorem jq(a b:Value):checkBuiltinCall "enumerate.__new__" ⟨[.type "enumerate",a],[(Str.ofString "start",b)]⟩=pure ():=by kernel_rfl
theorem uH(o a b:Value):argsOk "object.__init__" ⟨[o,a],[(Str.ofString "start",b)]⟩:=by
 unfold argsOk;rw[signature?_of (id := "object.__init__") (n:=['_','_','t','i','n','i','_','_']) (o:=['t','c','e','j','b','o']) (by kernel_rfl) F.owner_object];kernel_rfl
set_option maxHeartbeats 4000000 in
theorem lE{l:Addr}{items:Array Value}{t:Tok}{Q:Value->Shared->Prop}(hL:s.heap.IsList l items)
  (h:∀h',IsEnum h' (s.heap.objs.size+1) s.heap.objs.size 1 .none->h'.IsListIter s.heap.objs.size l 0->h'.objs.size=s.heap.objs.size+2 ->
   (∀b o,s.heap.get? b=some o->h'.get? b=some o)->Q (.ref (s.heap.objs.size+1)) {s with heap:=h'}) :
  wpAny (model prog w) A (call (.type "enumerate") [.ref l] [(Str.ofString "start",.int 1 t)]) Q E s:=by
 obtain⟨⟨c,du,dt,sl⟩,hl,hc,n,hd⟩:=hL
 replace hc:c=.type "list" := hc
 replace hd:dt=.seq items n:=hd
 subst hc hd;have ft:=F.called_enumerate;obtain⟨c,tl,aad⟩:=ft.mro;have Z4:=ft.made;have W5:=ft.sub;have hct:=i7 (.ref l) (.int 1 t);have hcn:=jq (.ref l) (.int 1 t);refine wpAny_call (codeAny_of_tree ?_);show wpAny _ _ (callAny (.type "enumerate") _) _ _ _;refine wpAny_pure ⟨Code.quiet_builtin _ (by decide +kernel),codeAny_builtin F.entry_type_call ?_⟩
 rw[Around.under_plain (weight_type_call_type "enumerate" _ _) (units_type_call_type "enumerate" _ _)];have h1:=ft.notType;have h2:=ft.canCreate
 repeat (any_goals (first|assumption|wp_step))
 have hz:(s.heap.push {cls:=.type "list_iterator",data:=.fields #[.ref l,.int 0 0]}).objs.size=s.heap.objs.size+1:=Heap.size_push ..;have he:IsEnum ((s.heap.push {cls:=.type "list_iterator",data:=.fields #[.ref l,.int 0 0]}).push
   {cls:=.type "enumerate",data:=.fields #[.none,.bool false,.ref s.heap.objs.size,rawInt 1,.none,.none]}) (s.heap.objs.size+1) s.heap.objs.size 1 .none:=by
  have:=Heap.get?_push_size (s.heap.push {cls:=.type "list_iterator",data:=.fields #[.ref l,.int 0 0]})
   (o:={cls:=.type "enumerate",data:=.fields #[.none,.bool false,.ref s.heap.objs.size,rawInt 1,.none,.none]}) rfl
  rw[hz]at this;exact this
 have fin:=h _ he ⟨_,Heap.get?_push_of_some _ (Heap.get?_push_size _ rfl),rfl,rfl⟩ (by rw[Heap.size_push,hz]) λb o x=>Heap.get?_push_of_some _ (Heap.get?_push_of_some _ x)
 refine codeAny_mono (codeAny_call_builtin ft.plain F.entry_enumerate_new (wpAny_of_eq hcn (i6 l items n du sl t prog w A.in1 (wants (λobj s₁=>s₁.TypeIs obj "enumerate" /\ Q obj s₁) E) s ⟨hl,?_⟩))) λr s₁ hr=>?_
 ·show _/\_
  rw[hz];exact⟨⟨_,he,rfl⟩,fin⟩
 cases r with
 |error e=>exact hr
 |ok fl=>
  cases fl with
  |ret obj=>
   obtain⟨hT,hq⟩:=hr;have W6:=ft.init.lookup;have hbi:=ft.init.bind obj
   repeat (any_goals (first|assumption|wp_step))
   refine codeAny_mono (codeAny_call_builtin ft.init.plain F.entry_object_init (ft.init.check _ _ _ _ _ _ _ _ hT (uH _ _ _) (jH ft.init.lookup ft.made (by decide) prog w A.in1 (wants (λr s₂=>r=.none/\Q obj s₂) E) s₁ ⟨hT,rfl,hq⟩))) λr₂ s₂ hr₂=>?_
   cases r₂ with
   |error e=>exact hr₂
   |ok fl₂=>
    cases fl₂ with
    |ret r=>
     obtain⟨rfl,hq⟩:=hr₂
     repeat (any_goals (first|assumption|wp_step))
    |_=>exact hr₂.elim
  |_=>exact hr.elim
end
end PySem
namespace L2
open PySem PySem.Spec PyProof.Rows
theorem Dp{prog:Program}{w:World}{A:Around}{it:Addr}{fp:BM}{n:Nat}{P:Nat->Value->Prop}{St:Nat->Heap->Prop}(D:Draws prog w A it fp n P St)(m:Nat):Draws prog w A it fp (m+n) (λj x=>∃i,j=m+i/\P i x) (λj h=>∃i,j=m+i/\St i h) where
 live:=λ_ h ⟨i,_,st⟩=>D.live i h st
 frame:=λ_ h h' ⟨i,e,st⟩ k=>⟨i,e,D.frame i h h' st k⟩
 item:=λj s Q E hj ⟨i,e,st⟩ hQ=>D.item i s Q E (by omega) st λx h' tk p rR sb=>hQ x h' tk ⟨i,e,p⟩ ⟨i+1,by omega,rR⟩ sb
 done:=λs Q E ⟨i,e,st⟩ hE=>by
  have:i=n:=by omega
  subst this;exact D.done s Q E st hE
def RG(K:bu)(m:Nat)(l:Addr)(xs:List V):It:=
 ⟨λi H=>i<xs.length/\df K H l xs,λi H v H'=>∃p x,H p=none/\xs[i]?=some x/\v=.ref p/\H'=upd H p (.tup [.int ((m+i:Nat):Int),x]),λi H=>i=xs.length/\df K H l xs⟩
theorem oh{P:Program}{w:World}{K:bu}{elts:Bz}{x1:Nat}{pos:Pos}{l e it:Addr}{xs:List V}{m:Nat}(W7:e≠it)(hle:l≠e)(W6:l≠it) :
  Turn P w K (.Tuple elts x1 pos) (RG K m l xs) [e,it] e (λi h=>(∃old,IsEnum h e it ((m+i:Nat):Int) old)/\h.IsListIter it l i) where
 mem:=by simp
 obj:=λi h st b hb=>by
  obtain⟨⟨old,he⟩,o1,e1,_,d1⟩:=st;simp only[bA,iK,or_false]at hb;rcases hb with rfl|rfl
  ·exact⟨_,he,λv q=>by cases q⟩
  ·exact⟨o1,e1,λv q=>by rw[d1]at q;cases q⟩
 keep:=λi h h' st k=>by
  obtain⟨⟨old,he⟩,h1⟩:=st;exact⟨⟨old,k e (by simp) _ he⟩,h1.at λo q=>k it (by simp) o q⟩
 item:=by
  intro X hP hw hK hc i ae s σ H E I hf st hg;subst hP hw hK;obtain⟨hi,hq⟩:=hg;obtain⟨⟨old,he⟩,h1⟩:=st;obtain⟨its,rv,pl,hsz⟩:=I.list hq;obtain⟨u,hu,ru⟩:=rv.get (cj hi);have hil:i<its.toArray.size:=by rw[b_,<- rv.length];exact hi
  have D:=Dp (Draws.list (prog:=X.prog) (w:=X.w) (A:=X.A.in1) (I.ok.hd hc) it l W6 its.toArray) m;refine wpAny_pyNext_enum_itemD (n:=m+its.toArray.size) D he ⟨i,rfl,h1,pl.isList⟩ (by omega) W7 (by simp only[bA,iK,or_false,not_or];exact⟨W7,Ne.symm hle⟩) λx h' tk px a1 a2 a3 a4 kk=>?_
  obtain⟨i',ei,px⟩:=px
  have:i'=i:=by omega
  subst this;have hx:x=u:=by
   rw[List.getElem?_toArray,hu]at px;exact(ly.inj px).symm
  subst hx;obtain⟨i2,ei2,a2,_⟩:=a2
  have:i2=i'+1:=by omega
  subst this;refine⟨.ref s.heap.objs.size,rfl,?_⟩;refine wpAny_letOwnedTupleGo_enum (s:={s with heap:=h',toks:=tk+1}) a1 λGO b1 b2=>?_
  have lt:∀{d o},s.heap.get? d=some o->s.heap.objs.size≠d:=λe=>yI (Heap.lt_size e);have fpn:∀b∈[e,it],s.heap.objs.size≠b:=λb hb=>by
   obtain⟨o1,e1,_⟩:=h1;simp only[bA,iK,or_false]at hb;rcases hb with rfl|rfl
   ·exact lt he
   ·exact lt e1
  have keep:∀b o,b∉[e,it]->s.heap.get? b=some o->GO.get? b=some o:=λb o hb q=>by
   simp only[bA,iK,or_false,not_or]at hb;exact(b2.2 b hb.1).trans (kk b o hb.1 hb.2 q)
  have hn:H s.heap.objs.size=none:=I.ba.fresh (dj _);have hT:GO.get? s.heap.objs.size=some {cls:=.type "tuple",data:=.seq #[.int ((m+i':Nat):Int) tk,x]}:=(b2.2 _ (lt he)).trans a3;have RH:IsTup GO s.heap.objs.size ([.int ((m+i':Nat):Int) tk,x]:B2).toArray:=⟨_,hT,rfl,0,rfl⟩;have RI:∀b v,H b=some v->b∉[e,it]:=λb v q hb=>by rw[(hf b hb).1]at q;cases q
  have I1:Inv X ae σ (upd H s.heap.objs.size (.tup [.int ((m+i':Nat):Int),xs[i']])) {s with heap:=GO,toks:=tk+1}:=by
   refine I.step (g':=s.gens) (d':=s.drawn) (t':=tk+1) (ch:=[e,it]) (λb hb=>⟨(hf b hb).2.2.2.1,(hf b hb).2.1,(hf b hb).2.2.2.2.1,(hf b hb).2.2.2.2.2⟩) (λb o _ _ hb e _=>keep b o hb e) (λb o _ _ hb e _=>⟨o.slots,keep b o hb e⟩)
    (λb o hb e n=>by rw[au (Ne.symm (lt e))];exact n) (λb o hb e=>⟨o,keep b o hb e⟩) (λb ys e=>by rw[au (aJ e hn)];exact e) (λb o v e=>by rw[au (aJ e hn)];exact e)
    (λb ps e=>⟨#[],by rw[au (aJ e hn),e];simp⟩) (λm hm=>?_) ?_ I.bare
   ·obtain⟨o,es,ep,ho,r⟩:=hm
    exact⟨o,es,ep,keep _ o (λhb=>(hf _ hb).2.1 rfl) ho,r⟩
   ·intro b v e
    by_cases hb:b=s.heap.objs.size
    ·subst hb
     rw[ah]at e;cases e;exact⟨by show 2<=sizeLine;decide,_,.cons ⟨_,rfl⟩ (.cons ru .nil),RH⟩
    ·rw[au hb]at e
     refine(I.ba b v e).wW (λc o hc q=>keep c o ?_ q) (λc q=>by rw[au (aJ q hn)];exact q) λc ys q=>by rw[au (aJ q hn)];exact q
     rcases hc with rfl|hc
     ·exact RI c v e
     ·exact RI c _ hc
  have eN:((m+i':Nat):Int)+1=((m+(i'+1):Nat):Int):=by omega
  refine⟨.ref s.heap.objs.size,_,I1,rfl,⟨_,_,hn,cj hi,rfl,rfl⟩,⟨⟨x,eN▸b1⟩,a2.at λo q=>(b2.2 it W7.symm).trans q⟩,λb hb=>?_⟩;rw[au (Ne.symm (fpn b hb))];exact(hf b hb).1
 done:=by
  intro X hP hw hK hc i ae s σ H E I hf st hg;subst hP hw hK;obtain⟨hi,hq⟩:=hg;obtain⟨⟨old,he⟩,h1⟩:=st;obtain⟨its,rv,pl,hsz⟩:=I.list hq;have hl:=rv.length;have D:=Dp (Draws.list (prog:=X.prog) (w:=X.w) (A:=X.A.in1) (I.ok.hd hc) it l W6 its.toArray) m;refine wpAny_pyNext_enum_endD (n:=m+its.toArray.size) D he ⟨i,by rw[b_];omega,h1,pl.isList⟩ λh' kk=>⟨rfl,?_⟩
  have RI:∀b v,H b=some v->b∉[e,it]:=λb v q hb=>by rw[(hf b hb).1]at q;cases q
  have keep:∀b o,b∉[e,it]->s.heap.get? b=some o->h'.get? b=some o:=λb o hb q=>by
   simp only[bA,iK,or_false,not_or]at hb;exact kk b o hb.2 q
  refine I.step (g':=s.gens) (d':=s.drawn) (t':=s.toks) (ch:=[e,it]) (λb hb=>⟨(hf b hb).2.2.2.1,(hf b hb).2.1,(hf b hb).2.2.2.2.1,(hf b hb).2.2.2.2.2⟩) (λb o _ _ hb e _=>keep b o hb e) (λb o _ _ hb e _=>⟨o.slots,keep b o hb e⟩)
   (λb o hb e n=>n) (λb o hb e=>⟨o,keep b o hb e⟩) (λ_ _ e=>e) (λ_ _ _ e=>e) (λb ps e=>⟨#[],by rw[e];simp⟩) (λm hm=>?_) (λb v e=>?_) I.bare
  ·obtain⟨o,es,ep,ho,r⟩:=hm
   exact⟨o,es,ep,keep _ o (λhb=>(hf _ hb).2.1 rfl) ho,r⟩
  ·refine(I.ba b v e).wW (λc o hc q=>keep c o ?_ q) (λ_ q=>q) λ_ _ q=>q
   rcases hc with rfl|hc
   ·exact RI c v e
   ·exact RI c _ hc
 self:=λ_ _ _ _ _ st h=>by obtain⟨⟨old,he⟩,_⟩:=st;exact wpAny_pyIter_enum he h
section
variable{X:Cx}
def MU(K:bu)(m:Nat)(ta:TA):TI:=λσ H R=>ta σ H λvs H1=>∃l xs,vs=[.ref l]/\df K H1 l xs/\R (RG K m l xs) H1
theorem RJ{a:Expr}{ta:TA}{elts:Bz}{x1:Nat}{mH p pos:Pos}(hg:Gl X "enumerate")(hm:X.mg "enumerate" = none)(ha:PA X [a] ta)(hs:starEach [a] X.env=[(false,eval a X.env)]) :
  PI X (.Tuple elts x1 mH) (.Call (.Name "enumerate" p) [a] [] pos) (MU X.K 0 ta):=by
 intro ae s σ H R I h;refine Call_ (fR I hg hm KA (wV (bO (ha pos ae s σ H _ I h) λus s1 ⟨vs,H1,I1,r1,q1⟩=>?_) (by rw[hs];rfl) rfl))
 obtain⟨l,xs,e,hq,q⟩:=q1;subst e;obtain⟨u,rfl,rx⟩:=vals1 r1;cases rx;obtain⟨its,rv,pl,hz⟩:=I1.list hq;refine call_enumerate_list pl.isList λh' a1 a2 _ kk=>wpAny_pyIter_enum (s:={s1 with heap:=h'}) a1 ?_
 have ll:l<s1.heap.objs.size:=let⟨_,e,_⟩:=pl.isList;Heap.lt_size e;refine⟨s1.heap.objs.size+1,_,_,_,H1,rfl,I1.kept (t':=s1.toks) kk,oh (l:=l) (it:=s1.heap.objs.size) (yI (wQ _)) (eL (Cq ll)) (eL ll),⟨⟨_,a1⟩,a2⟩,λb hb=>?_,q⟩;have KY:s1.heap.objs.size<=b:=by
  simp only[bA,iK,or_false]at hb;rcases hb with rfl|rfl
  ·exact wR _ _
  ·exact dj _
 exact I1.rQ KY (I1.ba.fresh KY)
theorem MV{a:Expr}{ta:TA}{elts:Bz}{x1 k1:Nat}{mH p pos p1 kp:Pos}(hg:Gl X "enumerate")(hm:X.mg "enumerate" = none)(ha:PA X [a] ta)(hs:starEach [a] X.env=[(false,eval a X.env)]) :
  PI X (.Tuple elts x1 mH) (.Call (.Name "enumerate" p) [a] [⟨some (Str.ofString "start"),.Constant (.int 1) k1 p1,kp⟩] pos) (MU X.K 1 ta):=by
 intro ae s σ H R I h;refine wpAny_Call_Name_kw (fR I hg hm KA ?_);refine PySem.W.callWith_of (P:=λ_=>True) (by rw[hs];rfl) (λh _=>⟨.machine,.inr (.inl rfl),.now⟩) ?_
 refine PyProof.Rows.evalArgs_kw2 rfl (bO (ha pos ae s σ H _ I h) λus s1 ⟨vs,H1,I1,r1,q1⟩=>?_) hs;show wpAny _ _ (evalAll [(do let v <- eval (.Constant (.int 1) k1 p1) X.env;standAt pos;pure v)]) _ _ s1
 refine wpAny_evalAll_cons (wpAny_bind (wpAny_Constant_int (wpAny_bind (wpAny_standAt (wpAny_pure (wpAny_evalAll_nil ⟨trivial,?_⟩))))));obtain⟨l,xs,e,hq,q⟩:=q1;subst e;obtain⟨u,rfl,rx⟩:=vals1 r1;cases rx;have I2:Inv X ae σ H1 {s1 with toks:=s1.toks+1}:=I1.tok _
 obtain⟨its,rv,pl,hz⟩:=I2.list hq;show wpAny _ _ (call (.type "enumerate") [.ref l] [(Str.ofString "start",.int 1 s1.toks)]) _ _ {s1 with toks:=s1.toks+1}
 refine lE pl.isList λh' a1 a2 _ kk=>wpAny_pyIter_enum (s:={s1 with heap:=h',toks:=s1.toks+1}) a1 ?_
 have ll:l<s1.heap.objs.size:=let⟨_,e,_⟩:=pl.isList;Heap.lt_size e;refine⟨s1.heap.objs.size+1,_,_,_,H1,rfl,I2.kept (t':=s1.toks+1) kk,oh (m:=1) (l:=l) (it:=s1.heap.objs.size) (yI (wQ _)) (eL (Cq ll)) (eL ll),⟨⟨_,a1⟩,a2⟩,λb hb=>?_,q⟩;have KY:s1.heap.objs.size<=b:=by
  simp only[bA,iK,or_false]at hb;rcases hb with rfl|rfl
  ·exact wR _ _
  ·exact dj _
 exact I2.rQ KY (I2.ba.fresh KY)
end
end L2
namespace D
inductive Ky where
 |i (n:Int)|s (l:B1)
 deriving DecidableEq
inductive T where
 |non|bl (b:Bool)|int (i:Int)|str (l:B1)|tup (xs:List T)|lst (xs:List T)
 |scr (ns:Dx)
 |obj (c:Nat) (fs:List T)
 |own (k:Nat)
 |du (ks:List Ky) (vs:List T)
inductive C where
 |val (t:T)|ol (ts:List T)|od (ks:List Ky) (vs:List T)
 |yg (t:T)
structure Ob where
 c:Nat
 fs:List C
structure S where
 r:List (Option C)
 m:List Ob
abbrev Fs:=List (Option C)
abbrev FC:=Option (List T)
abbrev FK:=List T
abbrev FR:=Option T
abbrev FV:=List Ob
inductive Res(α:Type) where
 |ok (a:α)|bad
 |exc (c:Nat) (fs:FK) (s:S)
noncomputable def Res.bind{α β:Type}(x:Res α)(f:α->Res β):Res β:=match x with
 |.ok a=>f a
 |.bad=>.bad
 |.exc c fs s=>.exc c fs s
theorem aa{α β:Type}{x:Res α}{f:α->Res β}{b:β}(h:x.bind f=.ok b):∃a,x=.ok a/\f a=.ok b:=by
 cases x with
 |ok a=>exact⟨a,rfl,h⟩
 |bad=>cases h
 |exc c fs s=>cases h
noncomputable def aY{α:Type}:Option α->Res α
 |some a=>.ok a
 |none=>.bad
theorem aj{α:Type}{o:Option α}{a:α}(h:aY o=.ok a):o=some a:=by
 cases o with
 |none=>cases h
 |some b=>cases h;rfl
noncomputable def gd{α:Type}(p:Prop)[Decidable p](x:α):Option α:=if p then some x else none
theorem aT{α:Type}{p:Prop}[Decidable p]{x a:α}(h:gd p x=some a):p/\x=a:=by
 unfold gd at h;split at h
 ·rename_i q;cases h;exact⟨q,rfl⟩
 ·cases h
abbrev FE:=S->Res (T×S)
abbrev FT:=S->Res (Bool×S)
abbrev FL:=S->Res (FK×S)
inductive Out where
 |nx|rt (t:T)|bk|ct
abbrev FS:=S->Res (Out×S)
abbrev Fn:=FK->FV->Res (T×FV)
def RK:T->T->FR
 |.int i,.int j=>some (.int (i+j))
 |.str a,.str b=>gd (a.length+b.length<=1000000) (.str (a++b))
 |.lst a,.lst b=>gd (a.length+b.length<=1000000) (.lst (a++b))
 |_,_=>none
def RL:T->T->FR
 |.int i,.int j=>some (.int (i-j))
 |_,_=>none
def HA:T->T->FR
 |.int i,.int j=>gd (((-(2^64)<i/\i<2^64)\/(-(2^64)<j/\j<2^64))\/(i.natAbs.log2<2000000/\j.natAbs.log2<2000000)) (.int (i*j))
 |.lst a,.int k=>gd (k<1000000/\-1000000<k/\a.length*k.toNat<=1000000) (.lst (bX k.toNat a).flatten)
 |.str a,.int k=>gd (2<=k/\k<1000000/\a≠[]/\a.length*k.toNat<=1000000) (.str (bX k.toNat a).flatten)
 |_,_=>none
def MW:T->T->FR
 |.int i,.int j=>gd (0<j/\j<1073741824) (.int (i/j))
 |_,_=>none
def MX:T->T->FR
 |.int i,.int j=>gd (0<j) (.int (i % j))
 |_,_=>none
def RM:T->T->FR
 |.int i,.int j=>gd (0<=j/\j<=1000000/\i.natAbs<2^64) (.int (i^j.toNat))
 |_,_=>none
def gT:T->FR
 |.int i=>some (.int (-i))
 |_=>none
def Dq(f:Int->Int->Bool):T->T->FR
 |.int i,.int j=>some (.bl (f i j))
 |_,_=>none
mutual
noncomputable def eqT:T->T->Bool
 |.non,.non=>true
 |.bl a,.bl b=>a == b
 |.int a,.int b=>decide (a=b)
 |.bl a,.int b=>decide ((if a then 1 else 0:Int)=b)
 |.int a,.bl b=>decide (a=(if b then 1 else 0:Int))
 |.str a,.str b=>decide (a=b)
 |.tup a,.tup b=>i8 a b
 |.lst a,.lst b=>i8 a b
 |.scr a,.scr b=>decide (a=b)
 |.obj c a,.obj d b=>decide (c=d)&&i8 a b
 |.own a,.own b=>decide (a=b)
 |.du ks a,.du ls b=>decide (ks=ls)&&i8 a b
 |_,_=>false
noncomputable def i8:FK->FK->Bool
 |[],[]=>true
 |a::as,b::bs=>eqT a b&&i8 as bs
 |_,_=>false
end
mutual
theorem oi:∀t:T,eqT t t=true
 |.non=>rfl
 |.bl b=>by cases b<;>rfl
 |.int i=>decide_eq_true rfl
 |.str l=>decide_eq_true rfl
 |.tup xs=>gU xs
 |.lst xs=>gU xs
 |.scr ns=>decide_eq_true rfl
 |.obj c xs=>by
  show(decide (c=c)&&i8 xs xs)=true;rw[decide_eq_true rfl,gU xs];rfl
 |.own k=>decide_eq_true rfl
 |.du ks xs=>by
  show(decide (ks=ks)&&i8 xs xs)=true;rw[decide_eq_true rfl,gU xs];rfl
theorem gU:∀ts:FK,i8 ts ts=true
 |[]=>rfl
 |t::ts=>by
  show(eqT t t&&i8 ts ts)=true;rw[oi t,gU ts];rfl
end
def bo:T->Bool
 |.bl _=>true
 |.int _=>true
 |.str _=>true
 |.non=>true
 |_=>false
def all2(p:T->T->Bool):FK->FK->Bool
 |a::as,b::bs=>p a b&&all2 p as bs
 |_,_=>true
def shape:Nat->T->T->Bool
 |n+1,.tup as,.tup bs=>all2 (shape n) as bs
 |n+1,.lst as,.lst bs=>all2 (shape n) as bs
 |_+1,.du [] [],.du [] []=>true
 |_,a,b=>bo a&&bo b
def W8:T->T->FR:=λa b=>gd (shape 5 a b=true) (.bl (eqT a b))
def W9:T->T->FR:=λa b=>gd (shape 5 a b=true) (.bl (!eqT a b))
def W_:T->T->FR
 |.bl a,.bl b=>some (.bl (a == b))
 |.non,.non=>some (.bl true)
 |.own _,.own _=>none
 |_,.non=>some (.bl false)
 |_,_=>none
def MY:T->T->FR
 |.bl a,.bl b=>some (.bl (a != b))
 |.non,.non=>some (.bl false)
 |.own _,.own _=>none
 |_,.non=>some (.bl true)
 |_,_=>none
def MZ:T->T->Option Bool
 |.str [c],.str l=>some (decide (c∈l))
 |x,.tup ys=>gd (bo x=true/\ys.all bo=true) (ys.any λy=>eqT y x)
 |x,.lst ys=>gd (bo x=true/\ys.all bo=true) (ys.any λy=>eqT y x)
 |_,_=>none
def inD:T->T->FR:=λx y=>(MZ x y).map .bl
def M0:T->T->FR:=λx y=>(MZ x y).map λb=>.bl (!b)
noncomputable def atT{α:Type}(xs:List α)(i:Int):Option α:=if 0<=i then(if i<xs.length then xs[i.toNat]? else none)else if -(xs.length:Int)<=i then xs[(i+xs.length).toNat]? else none
def gW(ks:List Ky)(vs:FK)(k:Ky):FR:=match ks,vs with
 |a::ks,v::vs=>if a=k then some v else gW ks vs k
 |_,_=>none
def putK:List Ky->FK->Ky->T->List Ky×FK
 |a::ks,v::vs,k,t=>if a=k then(a::ks,t::vs)else let p:=putK ks vs k t;(a::p.1,v::p.2)
 |_,_,k,t=>([k],[t])
def jI:T->Option Ky
 |.int i=>some (.i i)
 |.str l=>some (.s l)
 |_=>none
def xC:T->T->FR
 |.lst xs,.int i=>atT xs i
 |.tup xs,.int i=>atT xs i
 |.str l,.int i=>(atT l i).map λc=>.str [c]
 |.scr ns,.int i=>(atT ns i).map .int
 |.du ks vs,x=>(jI x).bind (gW ks vs)
 |_,_=>none
def uI:T->FR
 |.str l=>some (.int l.length)
 |.tup xs=>some (.int xs.length)
 |.lst xs=>some (.int xs.length)
 |.scr ns=>some (.int ns.length)
 |.du ks _=>some (.int ks.length)
 |_=>none
def gf(n d:Nat):D2->Nat
 |none=>d
 |some v=>if v<0 then(v+(n:Int)).toNat else min v.toNat n
noncomputable def bg{α:Type}(xs:List α)(lo hi:D2):List α:=(xs.drop (gf xs.length 0 lo)).take (gf xs.length xs.length hi-gf xs.length 0 lo)
def HB(lo hi:D2):T->FR
 |.str l=>some (.str (bg l lo hi))
 |.lst l=>some (.lst (bg l lo hi))
 |.scr ns=>some (.lst ((bg ns lo hi).map .int))
 |_=>none
def HC:T->Option Bool
 |.bl b=>some b
 |.lst ts=>some (!ts.isEmpty)
 |_=>none
noncomputable def strsOf:FK->Option Ap
 |[]=>some []
 |.str l::ts=>(strsOf ts).map (l::·)
 |_=>none
noncomputable def bq(sep:B1):Ap->B1
 |[]=>[]
 |[a]=>a
 |a::b::r=>a++sep++bq sep (b::r)
def qN:T->T->FR
 |.str sep,.lst ts=>(strsOf ts).bind λys=>gd ((ys.map (·.length)).sum+ys.length*sep.length<=1000000) (.str (bq sep ys))
 |_,_=>none
noncomputable def pre(s l:B1):Bool:=decide (s.length<=l.length)&&(l.take s.length == s)
noncomputable def M1(s l:B1):Bool:=decide (s.length<=l.length)&&(l.drop (l.length-s.length) == s)
def boolsOf:FK->Option Fh
 |[]=>some []
 |.bl b::ts=>(boolsOf ts).map (b::·)
 |_=>none
def M3:T->FR
 |.lst ts=>(boolsOf ts).map λbs=>.bl (bs.all id)
 |_=>none
def A6:T->FR
 |.lst ts=>(boolsOf ts).map λbs=>.bl (bs.any id)
 |_=>none
def KZ:T->FR
 |.lst a=>some (.lst a)
 |.tup a=>some (.lst a)
 |_=>none
def RN:T->FR
 |.int i=>some (.int (if i<0 then -i else i))
 |_=>none
def bD:FE:=λ_=>.bad
def cF(t:T):FE:=λs=>.ok (t,s)
def jr(s:S)(i:Nat)(c:C):S:={s with r:=s.r.set i (some c)}
noncomputable def vF(i:Nat):FE:=λs=>match s.r[i]? with
 |some (some (.val t))=>.ok (t,s)
 |some (some (.ol ts))=>.ok (.lst ts,jr s i (.val (.lst ts)))
 |some (some (.od ks ts))=>.ok (.du ks ts,jr s i (.val (.du ks ts)))
 |_=>.bad
def cu(g:T->FR)(a:FE):FE:=λs=>(a s).bind λp=>(aY (g p.1)).bind λt=>.ok (t,p.2)
def bB(g:T->T->FR)(a b:FE):FE:=λs=>(a s).bind λp=>(b p.2).bind λq=>(aY (g p.1 q.1)).bind λt=>.ok (t,q.2)
def aZ:FL:=λs=>.ok ([],s)
def bK(a:FE)(r:FL):FL:=λs=>(a s).bind λp=>(r p.2).bind λq=>.ok (p.1::q.1,q.2)
def fV:FL:=λ_=>.bad
def aR(g:FK->FR)(a:FL):FE:=λs=>(a s).bind λp=>(aY (g p.1)).bind λt=>.ok (t,p.2)
def bQ(ts:FK):FR:=gd (ts.length<=1000) (.tup ts)
def dQ(ts:FK):FR:=gd (ts.length<=1000) (.lst ts)
def qm:FT:=λ_=>.bad
def tB(a:FE):FT:=λs=>(a s).bind λp=>(aY (HC p.1)).bind λb=>.ok (b,p.2)
def gX(a b:FT):FT:=λs=>(a s).bind λp=>if p.1 then b p.2 else .ok (false,p.2)
def qo(a b:FT):FT:=λs=>(a s).bind λp=>if p.1 then .ok (true,p.2)else b p.2
def dR(a:FT):FT:=λs=>(a s).bind λp=>.ok (!p.1,p.2)
def dG:FT:=λs=>.ok (true,s)
def M4:T->Option Bool
 |.bl b=>some b
 |_=>none
def ko(a b:FE):FE:=λs=>(a s).bind λp=>(aY (M4 p.1)).bind λk=>if k then b p.2 else .ok (.bl false,p.2)
def Z5(a b:FE):FE:=λs=>(a s).bind λp=>(aY (M4 p.1)).bind λk=>if k then .ok (.bl true,p.2)else b p.2
def uJ(a:FE):FE:=λs=>(a s).bind λp=>(aY (M4 p.1)).bind λk=>.ok (.bl (!k),p.2)
def uK(c:FT)(a b:FE):FE:=λs=>(c s).bind λp=>if p.1 then a p.2 else b p.2
abbrev FO:=S->Res (D2×S)
def wH:FO:=λs=>.ok (none,s)
def RO:T->D2
 |.int i=>some i
 |_=>none
def jY(a:FE):FO:=λs=>(a s).bind λp=>(aY (RO p.1)).bind λi=>.ok (some i,p.2)
def mZ(a:FE)(lo hi:FO):FE:=λs=>(a s).bind λp=>(lo p.2).bind λq=>(hi q.2).bind λz=>(aY (HB q.1 z.1 p.1)).bind λt=>.ok (t,z.2)
def oj:Option (Option C)->FC
 |some (some (.ol ts))=>some ts
 |_=>none
def K0(i:Nat):FE:=λs=>(aY (oj s.r[i]?)).bind λts=>.ok (.int ts.length,s)
def lF(i:Nat)(b:FE):FE:=λs=>(aY (oj s.r[i]?)).bind λ_=>(b s).bind λp=>(aY (oj p.2.r[i]?)).bind λts=>(aY (xC (.lst ts) p.1)).bind λt=>.ok (t,p.2)
def ic(tab:Ap)(c f:Nat):Option Nat:=(tab[c]?).bind λns=>ns.idxOf? f
def aE(tab:Ap)(f:Nat)(a:FE):FE:=λs=>(a s).bind λp=>match p.1 with
 |.obj c fs=>(aY ((ic tab c f).bind λj=>fs[j]?)).bind λt=>.ok (t,p.2)
 |.own k=>(aY ((p.2.m[k]?).bind λob=>(ic tab ob.c f).bind λj=>ob.fs[j]?)).bind λc=>(match c with
  |.val t=>.ok (t,p.2)
  |_=>.bad)
 |_=>.bad
def cT(c n:Nat)(fl:FL):FE:=λs=>(fl s).bind λp=>if p.1.length=n then .ok (.obj c p.1,p.2)else .bad
def kq(c:Nat)(g:Fn)(fl:FL):FE:=λs=>(fl s).bind λp=>match g (.own p.2.m.length::p.1) (p.2.m++[⟨c,[]⟩])with
 |.ok (.non,m')=>.ok (.own p.2.m.length,{p.2 with m:=m'})
 |.exc c fs s'=>.exc c fs {p.2 with m:=s'.m}
 |_=>.bad
def Dr(c:Nat):T->FR
 |.lst ts=>some (.obj c [.lst ts])
 |_=>none
def ao(g:Fn)(ds:FK)(fl:FL):FE:=λs=>(fl s).bind λp=>match g (p.1++ds) p.2.m with
 |.ok q=>.ok (q.1,{p.2 with m:=q.2})
 |.bad=>.bad
 |.exc c fs s'=>.exc c fs {p.2 with m:=s'.m}
def aw(g:Nat->Option Fn)(o:FE)(fl:FL):FE:=λs=>(o s).bind λp=>match p.1 with
 |.own k=>(aY ((p.2.m[k]?).bind λob=>g ob.c)).bind λh=>ao h [] (λs=>(fl s).bind λq=>.ok (.own k::q.1,q.2)) p.2
 |.obj c fs=>(aY (g c)).bind λh=>ao h [] (λs=>(fl s).bind λq=>.ok (.obj c fs::q.1,q.2)) p.2
 |_=>.bad
def Vz:T->FC
 |.lst ts=>some ts
 |.tup ts=>some ts
 |.str l=>some (l.map λc=>.str [c])
 |.scr ns=>some (ns.map .int)
 |_=>none
def sy(a:FE):FL:=λs=>(a s).bind λp=>(aY (Vz p.1)).bind λts=>.ok (ts,p.2)
def jv(lo:Int)(n:Nat):FK:=(b9 n).map λk=>.int (lo+(k:Nat))
def jt:FK->FC
 |[.int j]=>gd (j<1000000/\-1000000<j) (jv 0 j.toNat)
 |[.int i,.int j]=>gd (i<1000000/\-1000000<i/\j<1000000/\-1000000<j) (jv i (j-i).toNat)
 |[.int i,.int j,.int k]=>gd (k=-1/\i<1000000/\-1000000<i/\j<1000000/\-1000000<j) ((b9 (i-j).toNat).map λk=>.int (i-(k:Nat)))
 |_=>none
def tR(g:FK->FC)(a:FL):FL:=λs=>(a s).bind λp=>(aY (g p.1)).bind λts=>.ok (ts,p.2)
def dg:Int->FK->FK
 |_,[]=>[]
 |n,t::ts=>.tup [.int n,t]::dg (n+1) ts
def RQ(n:Int):T->FC
 |.lst ts=>some (dg n ts)
 |_=>none
def iD(n:Int)(a:FE):FL:=λs=>(a s).bind λp=>(aY (RQ n p.1)).bind λts=>.ok (ts,p.2)
abbrev FG:=T->Fs->Option Fs
def setG(i:Nat):FG:=λt r=>some (r.set i (some (.val t)))
def qO:B1->FK->Fs->Option Fs
 |[],[],r=>some r
 |i::is,t::ts,r=>qO is ts (r.set i (some (.val t)))
 |_,_,_=>none
def dh(is:B1):FG:=λt r=>match t with
 |.tup ts=>qO is ts r
 |_=>none
def HD(r:Fs)(j:Nat):Fs:=match r[j]? with
 |some (some (.ol ts))=>r.set j (some (.val (.lst ts)))
 |_=>r
def jJ:B1->Fs->Fs
 |[],r=>r
 |j::js,r=>jJ js (HD r j)
def i9(k:Nat)(js:B1)(r:Fs):Fs:=bX k none++js.map λj=>match r[j]? with
 |some (some (.val t))=>some (.val t)
 |_=>none
def aW(g:FG)(c:FT)(e:FE)(b:Fs):FK->FV->Res (FK×FV)
 |[],m=>.ok ([],m)
 |t::ts,m=>(aY (g t b)).bind λb1=>(c ⟨b1,m⟩).bind λp=>if p.1 then(e p.2).bind λq=>(aW g c e b ts q.2.m).bind λz=>.ok (q.1::z.1,z.2)else aW g c e b ts p.2.m
def cW(src:FL)(k:Nat)(js:B1)(g:FG)(c:FT)(e:FE):FL:=λs=>(src s).bind λp=>if p.1.length<=1000000 then
  (aW g c e (i9 k js (jJ js p.2.r)) p.1 p.2.m).bind λq=>.ok (q.1,⟨jJ js p.2.r,q.2⟩)else .bad
def eX(fl:FL):FE:=λs=>(fl s).bind λp=>.ok (.lst p.1,p.2)
def aC:FS:=λs=>.ok (.nx,s)
def cM:FS:=λ_=>.bad
def af(a b:FS):FS:=λs=>(a s).bind λp=>match p.1 with
 |.nx=>b p.2
 |o=>.ok (o,p.2)
def aG(i:Nat)(a:FE):FS:=λs=>(a s).bind λp=>.ok (.nx,jr p.2 i (.val p.1))
def gj(i:Nat)(a:FL):FS:=λs=>(a s).bind λp=>.ok (.nx,jr p.2 i (.ol p.1))
def uL(g:FG)(a:FE):FS:=λs=>(a s).bind λp=>(aY (g p.1 p.2.r)).bind λr=>.ok (.nx,{p.2 with r:=r})
def aB(a:FE):FS:=λs=>(a s).bind λp=>.ok (.rt p.1,p.2)
def aN(a:FE):FS:=λs=>(a s).bind λp=>.ok (.nx,p.2)
def aU(c:FT)(a b:FS):FS:=λs=>(c s).bind λp=>if p.1 then a p.2 else b p.2
def RS:FS:=λs=>.ok (.bk,s)
def RT:FS:=λs=>.ok (.ct,s)
def dU(i:Nat)(a:FE):FS:=λs=>(aY (oj s.r[i]?)).bind λ_=>(a s).bind λp=>(aY (oj p.2.r[i]?)).bind λts=>(aY (gd (ts.length<1000000) ts)).bind λts=>.ok (.nx,jr p.2 i (.ol (ts++[p.1])))
def dF(i:Nat)(b a:FE):FS:=λs=>(a s).bind λp=>(aY (oj p.2.r[i]?)).bind λ_=>(b p.2).bind λq=>(aY (oj q.2.r[i]?)).bind λts=>(aY (RO q.1)).bind λj=>(aY (gd (0<=j/\j<ts.length) (ts.set j.toNat p.1))).bind λus=>.ok (.nx,jr q.2 i (.ol us))
def Dt(g:T->T->FR)(i:Nat)(a:FE):FS:=λs=>match s.r[i]? with
 |some (some (.val x))=>(a s).bind λp=>(aY (g x p.1)).bind λt=>.ok (.nx,jr p.2 i (.val t))
 |_=>.bad
def setAt(fs:List C)(j:Nat)(c:C):Option (List C):=if j<fs.length then some (fs.set j c)else if j=fs.length then some (fs++[c])else none
def dW(tab:Ap)(f:Nat)(c:C)(ob:Ob):Option Ob:=(ic tab ob.c f).bind λj=>(setAt ob.fs j c).map λfs=>⟨ob.c,fs⟩
def aO(tab:Ap)(f:Nat)(o a:FE):FS:=λs=>(a s).bind λp=>(o p.2).bind λq=>match q.1 with
 |.own k=>(aY ((q.2.m[k]?).bind (dW tab f (.val p.1)))).bind λob=>.ok (.nx,{q.2 with m:=q.2.m.set k ob})
 |_=>.bad
def bP(g:FG)(b:FS):FK->FS
 |[],s=>.ok (.nx,s)
 |t::ts,s=>(aY (g t s.r)).bind λr=>(b ⟨r,s.m⟩).bind λp=>match p.1 with
  |.nx=>bP g b ts p.2
  |.ct=>bP g b ts p.2
  |.bk=>.ok (.nx,p.2)
  |.rt t=>.ok (.rt t,p.2)
def fW(src:FL)(g:FG)(b:FS):FS:=λs=>(src s).bind λp=>bP g b p.1 p.2
def bF(c:FT)(b:FS):Nat->FS
 |0,_=>.bad
 |n+1,s=>(c s).bind λp=>if p.1 then(b p.2).bind λq=>(match q.1 with
  |.nx=>bF c b n q.2
  |.ct=>bF c b n q.2
  |.bk=>.ok (.nx,q.2)
  |.rt t=>.ok (.rt t,q.2))else .ok (.nx,p.2)
def lG(n:Nat)(c:FT)(b:FS):FS:=bF c b n
def uM(c:Nat)(fl:FL):FE:=λs=>(fl s).bind λp=>.ok (.own p.2.m.length,{p.2 with m:=p.2.m++[⟨c,[.ol p.1]⟩]})
def aK(np n:Nat)(b:FS):Fn:=λts m=>if ts.length=np then(b ⟨ts.map (λt=>some (.val t))++bX (n-ts.length) none,m⟩).bind λp=>match p.1 with
 |.rt t=>.ok (t,p.2.m)
 |.nx=>.ok (.non,p.2.m)
 |_=>.bad else .bad
mutual
def noOwn:T->Bool
 |.own _=>false
 |.tup xs=>az xs
 |.lst xs=>az xs
 |.obj _ xs=>az xs
 |.du _ xs=>az xs
 |_=>true
def az:FK->Bool
 |[]=>true
 |t::ts=>noOwn t&&az ts
end
noncomputable def aQ(g:Fn):Fn:=λts m=>if az ts=true then(match g ts []with
 |.ok q=>if noOwn q.1=true then .ok (q.1,m)else .bad
 |.bad=>.bad
 |.exc c fs s=>if az fs=true then .exc c fs ⟨s.r,m⟩else .bad)else .bad
end D
namespace D
open PySem L2
abbrev SV(l:B1):V:=.str ⟨l.toArray⟩
structure KT where
 K:bu
 P:Program
 w:World
 cn:Bi
 fn:List Bi
def iR(B:KT)(c:Nat)(C:Addr)(ns:Bi):Prop:=∃n,B.cn[c]?=some n/\B.fn[c]?=some ns/\ns.Nodup/\pY B.K mainGlobals n=some (some (.ref C))
theorem iR.eq{B:KT}{c:Nat}{C C':Addr}{ns Du:Bi}(h:iR B c C ns)(h':iR B c C' Du):C=C'/\ns=Du:=by
 obtain⟨n,a,b,_,d⟩:=h;obtain⟨n',a',b',_,d'⟩:=h';rw[a]at a';cases a';rw[b]at b';cases b';rw[d]at d';cases d';exact⟨rfl,rfl⟩
def jZ:Ky->Key
 |.i n=>.inl n
 |.s l=>.inr ⟨l.toArray⟩
inductive jK where
 |loc (i:Nat)|ob (k:Nat)|fld (k j:Nat)
 deriving DecidableEq
structure G where
 HF:Hp
 o:Addr->Option jK
 al:BM
mutual
def Rep(B:KT)(al:BM)(H:Hp):T->V->Prop
 |.non,v=>v=.non
 |.bl b,v=>v=.bl b
 |.int i,v=>v=.int i
 |.str l,v=>v=SV l/\l.length<=1000000
 |.tup ts,v=>∃a vs,v=.ref a/\lV B.K H a vs/\aA B al H ts vs
 |.lst ts,v=>∃a vs,v=.ref a/\H a=some (.lst vs)/\aA B al H ts vs
 |.scr ns,v=>∃a,v=.ref a/\df B.K H a (ns.map V.int)
 |.obj c ts,v=>∃a C dx ns vs,v=.ref a/\iR B c C ns/\H a=some (.ins C dx (ns.zip vs))/\vs.length<=ns.length/\H dx=some (.own a)/\aA B al H ts vs
 |.own k,v=>∃a,v=.ref a/\al[k]?=some a
 |.du ks ts,v=>∃a vs,v=.ref a/\H a=some (.dK ((ks.map jZ).zip vs))/\ks.length=vs.length/\aA B al H ts vs
def aA(B:KT)(al:BM)(H:Hp):FK->List V->Prop
 |[],vs=>vs=[]
 |t::ts,vs=>∃v r,vs=v::r/\Rep B al H t v/\aA B al H ts r
end
theorem bW{K:bu}{H H':Hp}(s:aL H H'){a:Addr}{xs:List V}(q:lV K H a xs):lV K H' a xs:=by
 rcases q with(q|⟨o,q⟩)|q
 ·exact .inl (.inl (s _ _ q))
 ·exact .inl (.inr ⟨o,s _ _ q⟩)
 ·exact .inr q
theorem dX{α:Type}{l m:List α}(p:l <+: m){k:Nat}{a:α}(h:l[k]?=some a):m[k]?=some a:=by
 obtain⟨r,rfl⟩:=p;rw[gO (eA.mp h).1];exact h
variable{X:Cx}{a b c e:Expr}{fa fb fc:FE}{g g':G}{H H':Hp}{B:KT}{p pos:Pos}{s s':S}{σ:St}
variable{al HE:BM}{HF gy:Hp}
mutual
theorem Rep.mv(p:al <+: HE)(s:aL H H'):∀{t:T}{v:V},Rep B al H t v->Rep B HE H' t v
 |.non,_,h=>h
 |.bl _,_,h=>h
 |.int _,_,h=>h
 |.str _,_,h=>h
 |.tup ts,_,h=>by
  obtain⟨a,vs,e,q,r⟩:=h;exact⟨a,vs,e,bW s q,aA.mv p s r⟩
 |.lst ts,_,h=>by
  obtain⟨a,vs,e,q,r⟩:=h;exact⟨a,vs,e,s _ _ q,aA.mv p s r⟩
 |.scr ns,_,h=>by
  obtain⟨a,e,q⟩:=h;exact⟨a,e,s.seq q⟩
 |.obj c ts,_,h=>by
  obtain⟨a,C,dx,ns,vs,e,z,q,l,q2,r⟩:=h;exact⟨a,C,dx,ns,vs,e,z,s _ _ q,l,s _ _ q2,aA.mv p s r⟩
 |.own k,_,h=>by
  obtain⟨a,e,q⟩:=h;exact⟨a,e,dX p q⟩
 |.du ks ts,_,h=>by
  obtain⟨a,vs,e,q,l,r⟩:=h;exact⟨a,vs,e,s _ _ q,l,aA.mv p s r⟩
theorem aA.mv(p:al <+: HE)(s:aL H H'):∀{ts:FK}{vs:List V},aA B al H ts vs->aA B HE H' ts vs
 |[],_,h=>h
 |t::ts,_,h=>by
  obtain⟨v,r,e,h1,h2⟩:=h;exact⟨v,r,e,Rep.mv p s h1,aA.mv p s h2⟩
end
theorem Rep.same(s:aL H H'){t:T}{v:V}(h:Rep B al H t v):Rep B al H' t v:=h.mv eK s
theorem aA.same(s:aL H H'){t:FK}{v:List V}(h:aA B al H t v):aA B al H' t v:=h.mv eK s
theorem aA.len:∀{ts:FK}{vs:List V},aA B al H ts vs->ts.length=vs.length
 |[],_,h=>by cases(show _=[]from h);rfl
 |t::ts,_,h=>by
  obtain⟨v,r,rfl,_,h2⟩:=h;simp[aA.len h2]
theorem aA.get:∀{ts:FK}{vs:List V},aA B al H ts vs->∀{i:Nat}{t:T},ts[i]?=some t->∃v,vs[i]?=some v/\Rep B al H t v
 |[],_,_,_,_,e=>by simp at e
 |t::ts,_,h,0,_,e=>by
  obtain⟨v,r,rfl,h1,_⟩:=h;simp at e;subst e;exact⟨v,rfl,h1⟩
 |t::ts,_,h,i+1,_,e=>by
  obtain⟨v,r,rfl,_,h2⟩:=h;obtain⟨v',e',h'⟩:=aA.get h2 (i:=i) (by simpa using e)
  exact⟨v',by simpa using e',h'⟩
theorem aA.xD:∀{ts:FK}{vs:List V},aA B al H ts vs->∀{i:Nat}{v:V},vs[i]?=some v->∃t,ts[i]?=some t/\Rep B al H t v
 |[],_,h,_,_,e=>by have h:_=[]:=h;subst h;simp at e
 |t::ts,_,h,0,_,e=>by
  obtain⟨v,r,rfl,h1,_⟩:=h;simp at e;subst e;exact⟨t,rfl,h1⟩
 |t::ts,_,h,i+1,_,e=>by
  obtain⟨v,r,rfl,_,h2⟩:=h;obtain⟨t',e',h'⟩:=aA.xD h2 (i:=i) (by simpa using e)
  exact⟨t',by simpa using e',h'⟩
theorem aA.app:∀{ts us:FK}{vs ws:List V},aA B al H ts vs->aA B al H us ws->aA B al H (ts++us) (vs++ws)
 |[],_,_,_,h,h'=>by have h:_=[]:=h;subst h;exact h'
 |t::ts,_,_,_,h,h'=>by
  obtain⟨v,r,rfl,h1,h2⟩:=h;exact⟨v,_,rfl,h1,h2.app h'⟩
theorem aA.drop:∀{ts:FK}{vs:List V}(n:Nat),aA B al H ts vs->aA B al H (ts.drop n) (vs.drop n)
 |ts,vs,0,h=>by simpa using h
 |[],_,n+1,h=>by have h:_=[]:=h;subst h;rfl
 |t::ts,_,n+1,h=>by
  obtain⟨v,r,rfl,_,h2⟩:=h;simpa using h2.drop n
theorem aA.take:∀{ts:FK}{vs:List V}(n:Nat),aA B al H ts vs->aA B al H (ts.take n) (vs.take n)
 |ts,vs,0,h=>by simp[aA]
 |[],_,n+1,h=>by have h:_=[]:=h;subst h;rfl
 |t::ts,_,n+1,h=>by
  obtain⟨v,r,rfl,h1,h2⟩:=h;exact⟨v,r.take n,rfl,h1,h2.take n⟩
theorem aA.set{t:T}{v:V}(q:Rep B al H t v):∀{ts:FK}{vs:List V}(n:Nat),aA B al H ts vs->aA B al H (ts.set n t) (vs.set n v)
 |[],_,n,h=>by have h:_=[]:=h;subst h;rfl
 |_::ts,_,0,h=>by
  obtain⟨w,r,rfl,h1,h2⟩:=h;exact⟨v,r,rfl,q,h2⟩
 |u::ts,_,n+1,h=>by
  obtain⟨w,r,rfl,h1,h2⟩:=h;exact⟨w,r.set n v,rfl,h1,h2.set q n⟩
theorem aA.flat{ts:FK}{vs:List V}(h:aA B al H ts vs):∀n:Nat,aA B al H (bX n ts).flatten (bX n vs).flatten
 |0=>rfl
 |n+1=>by
  rw[rD,rD,wM,wM];exact h.app (h.flat n)
theorem aA.one{t:T}{v:V}(q:Rep B al H t v):aA B al H [t] [v]:=⟨v,[],rfl,q,rfl⟩
theorem aA.ints:∀ns:Dx,aA B al H (ns.map T.int) (ns.map V.int)
 |[]=>rfl
 |n::ns=>⟨_,_,rfl,rfl,aA.ints ns⟩
theorem aA.signs:∀l:B1,aA B al H (l.map λc=>T.str [c]) (l.map λc=>V.str ⟨#[c]⟩)
 |[]=>rfl
 |c::l=>⟨_,_,rfl,⟨rfl,by simp⟩,aA.signs l⟩
mutual
theorem Rep.no:∀{t:T}{v:V},noOwn t=true->Rep B al H t v->Rep B HE H t v
 |.non,_,_,h=>h
 |.bl _,_,_,h=>h
 |.int _,_,_,h=>h
 |.str _,_,_,h=>h
 |.tup ts,_,n,h=>by
  obtain⟨a,vs,e,q,r⟩:=h;exact⟨a,vs,e,q,aA.no n r⟩
 |.lst ts,_,n,h=>by
  obtain⟨a,vs,e,q,r⟩:=h;exact⟨a,vs,e,q,aA.no n r⟩
 |.scr ns,_,_,h=>h
 |.obj c ts,_,n,h=>by
  obtain⟨a,C,dx,ns,vs,e,z,q,l,q2,r⟩:=h;exact⟨a,C,dx,ns,vs,e,z,q,l,q2,aA.no n r⟩
 |.own k,_,n,h=>by cases n
 |.du ks ts,_,n,h=>by
  obtain⟨a,vs,e,q,l,r⟩:=h;exact⟨a,vs,e,q,l,aA.no n r⟩
theorem aA.no:∀{ts:FK}{vs:List V},az ts=true->aA B al H ts vs->aA B HE H ts vs
 |[],_,_,h=>h
 |t::ts,_,n,h=>by
  obtain⟨v,r,e,h1,h2⟩:=h;have n:(noOwn t&&az ts)=true:=n;rw[dc]at n;exact⟨v,r,e,Rep.no n.1 h1,aA.no n.2 h2⟩
end
structure Gr(HF H gy H':Hp):Prop where
 fr:aL HF gy
 sub:aL gy H'
 rest:∀b o,H b=some o->HF b=none->H' b=some o/\gy b=none
theorem Gr.refl{HF H:Hp}(s:aL HF H):Gr HF H HF H:=⟨aL.refl _,s,λ_ _ h n=>⟨h,n⟩⟩
theorem Gr.trans{HF H Z6 H1 Z7 H2:Hp}(a:Gr HF H Z6 H1)(b:Gr Z6 H1 Z7 H2):Gr HF H Z7 H2:=
 ⟨a.fr.trans b.fr,b.sub,λc o h n=>let⟨h1,n1⟩:=a.rest c o h n;b.rest c o h1 n1⟩
theorem Gr.same{HF H gy H':Hp}(s:aL HF H)(a:Gr HF H gy H'):aL H H':=λb o h=>by
 cases e:HF b with
 |none=>exact(a.rest b o h e).1
 |some u=>
  have:=s b u e
  rw[h]at this;cases this;exact a.sub _ _ (a.fr _ _ e)
theorem aS{H:Hp}{p:Addr}{o:HO}(h:H p=none):aL H (upd H p o):=λb u e=>by rw[au (aJ e h)];exact e
theorem Gr.new{HF H:Hp}(s:aL HF H){p:Addr}{o:HO}(h:H p=none):Gr HF H (upd HF p o) (upd H p o):=by
 have hf:HF p=none:=s.free h;refine⟨aS hf,λb u e=>?_,λb u e n=>?_⟩
 ·by_cases hb:b=p
  ·subst hb;rw[ah]at e ⊢;exact e
  ·rw[au hb]at e ⊢;exact s _ _ e
 ·have hb:b≠p:=aJ e h
  rw[au hb,au hb];exact⟨e,n⟩
theorem Gr.om{HF H:Hp}(s:aL HF H){p:Addr}{o:HO}(h:H p=none):Gr HF H HF (upd H p o):=
 ⟨aL.refl _,s.trans (aS h),λb u e n=>⟨aS h _ _ e,n⟩⟩
def a_(B:KT)(g:G)(H:Hp)(p:jK):C->V->Prop
 |.val t,v=>Rep B g.al g.HF t v
 |.ol ts,v=>∃l vs,v=.ref l/\g.o l=some p/\H l=some (.lst vs)/\aA B g.al g.HF ts vs
 |.od ks ts,v=>∃l vs,v=.ref l/\g.o l=some p/\H l=some (.dK ((ks.map jZ).zip vs))/\ks.length=vs.length/\aA B g.al g.HF ts vs
 |.yg t,v=>∃HY:Hp,(∀b u,HY b=some u->g.o b=some p/\H b=some u)/\Rep B [] HY t v
structure BH(B:KT)(g:G)(H:Hp)(k:Nat)(ob:Ob)(a C dx:Addr)(ns:Bi)(vs:List V):Prop where
 al:g.al[k]?=some a
 o:g.o a=some (.ob k)
 cl:iR B ob.c C ns
 h:H a=some (.ins C dx (ns.zip vs))
 le:vs.length<=ns.length
 ln:vs.length=ob.fs.length
 f:∀j c,ob.fs[j]?=some c->∃v,vs[j]?=some v/\a_ B g H (.fld k j) c v
structure VA(B:KT)(g:G)(H:Hp)(k:Nat)(ob:Ob)(a:Addr):Prop where
 al:g.al[k]?=some a
 nc:B.cn[ob.c]?=none
 nf:B.fn[ob.c]?=none
 f:∀c,ob.fs=[c]->a_ B g H (.ob k) c (.ref a)
def M5(B:KT)(g:G)(H:Hp)(k:Nat)(ob:Ob):Prop:=(∃a C dx ns vs,BH B g H k ob a C dx ns vs)\/∃a,VA B g H k ob a
structure fX(B:KT)(g:G)(H:Hp)(m:FV):Prop where
 sub:aL g.HF H
 live:∀b p,g.o b=some p->g.HF b=none/\∃u,H b=some u
 len:m.length=g.al.length
 at_:∀k ob,m[k]?=some ob->M5 B g H k ob
structure oq(B:KT)(g:G)(H:Hp)(σ:St)(r:Fs):Prop where
 len:r.length=σ.length
 at_:∀i c,r[i]?=some (some c)->∃v,σ[i]?=some (some v)/\a_ B g H (.loc i) c v
structure SR(B:KT)(g:G)(H:Hp)(σ:St)(s:S):Prop where
 st:fX B g H s.m
 lc:oq B g H σ s.r
structure fj(g:G)(H:Hp)(g':G)(H':Hp):Prop where
 fr:aL g.HF g'.HF
 pre:g.al <+: g'.al
 rest:∀b u,H b=some u->g.HF b=none->g.o b=none->H' b=some u/\g'.HF b=none/\g'.o b=none
 there:∀b,H' b=none->H b=none
variable{g1 g2:G}{H1 H2:Hp}
theorem fj.refl:fj g H g H:=⟨aL.refl _,eK,λ_ _ h n o=>⟨h,n,o⟩,λ_ h=>h⟩
theorem fj.trans(a:fj g H g1 H1)(b:fj g1 H1 g2 H2):fj g H g2 H2:=
 ⟨a.fr.trans b.fr,a.pre.trans b.pre,λc u h n o=>let⟨h1,n1,o1⟩:=a.rest c u h n o;b.rest c u h1 n1 o1,λc h=>a.there c (b.there c h)⟩
abbrev G.grow(g:G)(gy:Hp):G:={g with HF:=gy}
theorem a_.grow(gr:Gr g.HF H gy H')(lv:∀b p,g.o b=some p->g.HF b=none/\∃u,H b=some u){p:jK}:∀{c:C}{v:V},a_ B g H p c v->a_ B (g.grow gy) H' p c v
 |.val t,v,h=>h.same gr.fr
 |.ol ts,v,h=>by
  obtain⟨l,vs,e,o,q,r⟩:=h;exact⟨l,vs,e,o,(gr.rest l _ q (lv l p o).1).1,r.same gr.fr⟩
 |.od ks ts,v,h=>by
  obtain⟨l,vs,e,o,q,n,r⟩:=h;exact⟨l,vs,e,o,(gr.rest l _ q (lv l p o).1).1,n,r.same gr.fr⟩
 |.yg t,v,h=>by
  obtain⟨HY,h1,r⟩:=h;exact⟨HY,λb u e=>let⟨h2,h3⟩:=h1 b u e;⟨h2,(gr.rest b u h3 (lv b p h2).1).1⟩,r⟩
theorem BH.grow{k:Nat}{ob:Ob}{a C dx:Addr}{ns:Bi}{vs:List V}(x:BH B g H k ob a C dx ns vs)(gr:Gr g.HF H gy H')(lv:∀b p,g.o b=some p->g.HF b=none/\∃u,H b=some u):BH B (g.grow gy) H' k ob a C dx ns vs:=
 ⟨x.al,x.o,x.cl,(gr.rest _ _ x.h (lv _ _ x.o).1).1,x.le,x.ln,λj c e=>let⟨v,h1,h2⟩:=x.f j c e;⟨v,h1,h2.grow gr lv⟩⟩
theorem M5.grow{k:Nat}{ob:Ob}(x:M5 B g H k ob)(gr:Gr g.HF H gy H')(lv:∀b p,g.o b=some p->g.HF b=none/\∃u,H b=some u):M5 B (g.grow gy) H' k ob:=by
 rcases x with⟨a,C,dx,ns,vs,y⟩|⟨a,y⟩
 ·exact .inl ⟨a,C,dx,ns,vs,y.grow gr lv⟩
 ·exact .inr ⟨a,y.al,y.nc,y.nf,λc e=>(y.f c e).grow gr lv⟩
theorem fX.grow{m:FV}(x:fX B g H m)(gr:Gr g.HF H gy H'):fX B (g.grow gy) H' m:=
 ⟨gr.sub,λb p e=>by
  obtain⟨h1,u,h2⟩:=x.live b p e;obtain⟨h3,h4⟩:=gr.rest b u h2 h1;exact⟨h4,u,h3⟩,x.len,λk ob e=>(x.at_ k ob e).grow gr x.live⟩
theorem SR.grow(x:SR B g H σ s)(gr:Gr g.HF H gy H'):SR B (g.grow gy) H' σ s:=
 ⟨x.st.grow gr,x.lc.len,λi c e=>let⟨v,h1,h2⟩:=x.lc.at_ i c e;⟨v,h1,h2.grow gr x.st.live⟩⟩
theorem SR.sub(x:SR B g H σ s):aL g.HF H:=x.st.sub
theorem Gr.free(gr:Gr HF H gy H')(sm:aL HF H){b:Addr}(h:H' b=none):H b=none:=(gr.same sm).free h
theorem SR.iE(x:SR B g H σ s)(gr:Gr g.HF H gy H'):fj g H (g.grow gy) H':=
 ⟨gr.fr,eK,λb u h n o=>let⟨h1,h2⟩:=gr.rest b u h n;⟨h1,h2,o⟩,λb h=>gr.free x.sub h⟩
variable{m:FV}
theorem a_.mv{p:jK}(fr:aL g.HF g'.HF)(pre:g.al <+: g'.al)(k:∀l,g.o l=some p->g'.o l=some p/\H' l=H l):∀{c:C}{v:V},a_ B g H p c v->a_ B g' H' p c v
 |.val t,v,h=>Rep.mv pre fr h
 |.ol ts,v,h=>by
  obtain⟨l,vs,e,o,q,r⟩:=h;obtain⟨o',h'⟩:=k l o;exact⟨l,vs,e,o',h'.trans q,r.mv pre fr⟩
 |.od ks ts,v,h=>by
  obtain⟨l,vs,e,o,q,n,r⟩:=h;obtain⟨o',h'⟩:=k l o;exact⟨l,vs,e,o',h'.trans q,n,r.mv pre fr⟩
 |.yg t,v,h=>by
  obtain⟨HY,h1,r⟩:=h;exact⟨HY,λb u e=>let⟨h2,h3⟩:=h1 b u e;let⟨h4,h5⟩:=k b h2;⟨h4,h5.trans h3⟩,r⟩
theorem BH.mv{k:Nat}{ob:Ob}{a C dx:Addr}{ns:Bi}{vs:List V}(x:BH B g H k ob a C dx ns vs)(fr:aL g.HF g'.HF)(pre:g.al <+: g'.al)(kk:∀l p,g.o l=some p->(p=.ob k\/∃j,p=.fld k j)->g'.o l=some p/\H' l=H l):BH B g' H' k ob a C dx ns vs:=by
 obtain⟨o',h'⟩:=kk a _ x.o (.inl rfl);exact⟨dX pre x.al,o',x.cl,h'.trans x.h,x.le,x.ln,λj c e=>let⟨v,h1,h2⟩:=x.f j c e;⟨v,h1,h2.mv fr pre λl z=>kk l _ z (.inr ⟨j,rfl⟩)⟩⟩
theorem M5.mv{k:Nat}{ob:Ob}(x:M5 B g H k ob)(fr:aL g.HF g'.HF)(pre:g.al <+: g'.al)(kk:∀l p,g.o l=some p->(p=.ob k\/∃j,p=.fld k j)->g'.o l=some p/\H' l=H l):M5 B g' H' k ob:=by
 rcases x with⟨a,C,dx,ns,vs,y⟩|⟨a,y⟩
 ·exact .inl ⟨a,C,dx,ns,vs,y.mv fr pre kk⟩
 ·exact .inr ⟨a,dX pre y.al,y.nc,y.nf,λc e=>(y.f c e).mv fr pre λl z=>kk l _ z (.inl rfl)⟩
theorem fX.mv(x:fX B g H m)(sub:aL g'.HF H')(live:∀b p,g'.o b=some p->g'.HF b=none/\∃u,H' b=some u)(fr:aL g.HF g'.HF)(RU:g'.al=g.al)(kk:∀l p,g.o l=some p->(∀i,p≠.loc i)->g'.o l=some p/\H' l=H l):fX B g' H' m:=
 ⟨sub,live,by rw[RU];exact x.len,λk ob e=>(x.at_ k ob e).mv fr (by rw[RU];exact eK) λl p h q=>kk l p h (by
  rcases q with q|⟨j,q⟩
  ·subst q;exact λi z=>by cases z
  ·subst q;exact λi z=>by cases z)⟩
theorem oq.set{r:Fs}{i:Nat}{v:V}{c:C}(x:oq B g H σ r)(q:a_ B g' H' (.loc i) c v)(kk:∀j c v,j≠i->a_ B g H (.loc j) c v->a_ B g' H' (.loc j) c v):oq B g' H' (σ.set i (some v)) (r.set i (some c)):=by
 refine⟨by rw[eW,eW];exact x.len,λj d h=>?_⟩
 by_cases hj:i=j
 ·subst hj
  have fM:i<r.length:=by have:=(eA.mp h).1;rw[eW]at this;exact this
  rw[eV fM]at h;cases h;exact⟨v,eV (by rw[<- x.len];exact fM),q⟩
 ·rw[c5 hj]at h
  obtain⟨w,h1,h2⟩:=x.at_ j d h;exact⟨w,by rw[c5 hj];exact h1,kk j d w (Ne.symm hj) h2⟩
theorem SR.set(x:SR B g H σ s){i:Nat}{t:T}{v:V}(r:Rep B g.al g.HF t v):SR B g H (σ.set i (some v)) (jr s i (.val t)):=
 ⟨x.st,x.lc.set r λ_ _ _ _ h=>h⟩
def G.jh(g:G)(l:Addr)(o:HO):G:={g with HF:=upd g.HF l o,o:=λb=>if b=l then none else g.o b}
theorem ou{p q:jK}{l:Addr}{o:HO}(hl:g.o l=some p)(hf:g.HF l=none)(hq:q≠p){c:C}{v:V}(h:a_ B g H q c v):a_ B (g.jh l o) H q c v:=
 a_.mv (g':=g.jh l o) (aS hf) eK (λb hb=>by
  have:b≠l:=λe=>hq (by rw[e,hl]at hb;cases hb;rfl)
  exact⟨by show(if b=l then none else g.o b)=_;rw[if_neg this];exact hb,rfl⟩) h
theorem sD{p:jK}{l:Addr}{o:HO}(hl:g.o l=some p)(hf:g.HF l=none):fj g H (g.jh l o) H:=
 ⟨aS hf,eK,λb u h n z=>by
  have:b≠l:=λe=>by rw[e,hl]at z;cases z
  exact⟨h,by show upd g.HF l o b=none;rw[au this];exact n,by show(if b=l then none else g.o b)=none;rw[if_neg this];exact z⟩,λ_ h=>h⟩
theorem yZ{i:Nat}{l:Addr}{o:HO}(x:fX B g H m)(hl:g.o l=some (.loc i))(hh:H l=some o):fX B (g.jh l o) H m:=by
 have hf:=(x.live l _ hl).1;refine x.mv (λb u e=>?_) (λb p e=>?_) (aS hf) rfl λb p hb hp=>?_
 ·have e:upd g.HF l o b=some u:=e
  by_cases hb:b=l
  ·subst hb;rw[ah]at e;cases e;exact hh
  ·rw[au hb]at e;exact x.sub _ _ e
 ·have e:(if b=l then none else g.o b)=some p:=e
  by_cases hb:b=l
  ·rw[if_pos hb]at e;cases e
  ·rw[if_neg hb]at e
   obtain⟨h1,h2⟩:=x.live b p e;exact⟨by show upd g.HF l o b=none;rw[au hb];exact h1,h2⟩
 ·have:b≠l:=λe=>hp i (by rw[e,hl]at hb;cases hb;rfl)
  exact⟨by show(if b=l then none else g.o b)=_;rw[if_neg this];exact hb,rfl⟩
theorem SR.jh(x:SR B g H σ s){i:Nat}{ts:FK}(h:s.r[i]?=some (some (.ol ts))):∃g' v,fj g H g' H/\SR B g' H σ (jr s i (.val (.lst ts)))/\σ[i]?=some (some v)/\Rep B g'.al g'.HF (.lst ts) v:=by
 obtain⟨v,h1,l,vs,rfl,ho,hh,r⟩:=x.lc.at_ i _ h;have hf:=(x.st.live l _ ho).1;have rp:Rep B (g.jh l (.lst vs)).al (g.jh l (.lst vs)).HF (.lst ts) (.ref l):=⟨l,vs,rfl,ah,r.mv eK (aS hf)⟩;refine⟨g.jh l (.lst vs),.ref l,sD ho hf,⟨yZ x.st ho hh,?_⟩,h1,rp⟩
 have:=x.lc.set (i:=i) (v:=.ref l) (c:=.val (.lst ts)) rp λj c v hj q=>ou (q:=.loc j) ho hf (λz=>hj (by cases z;rfl)) q
 have es:σ.set i (some (.ref l))=σ:=by
  apply Az;intro j;by_cases hj:i=j
  ·subst hj
   rw[eV (eA.mp h1).1,h1]
  ·rw[c5 hj]
 rw[es]at this;exact this
theorem SR.Xa(x:SR B g H σ s){i:Nat}{ks:List Ky}{ts:FK}(h:s.r[i]?=some (some (.od ks ts))):∃g' v,fj g H g' H/\SR B g' H σ (jr s i (.val (.du ks ts)))/\σ[i]?=some (some v)/\Rep B g'.al g'.HF (.du ks ts) v:=by
 obtain⟨v,h1,l,vs,rfl,ho,hh,hl,r⟩:=x.lc.at_ i _ h;have hf:=(x.st.live l _ ho).1;have rp:Rep B (g.jh l (.dK ((ks.map jZ).zip vs))).al (g.jh l (.dK ((ks.map jZ).zip vs))).HF (.du ks ts) (.ref l):=⟨l,vs,rfl,ah,hl,r.mv eK (aS hf)⟩;refine⟨g.jh l (.dK ((ks.map jZ).zip vs)),.ref l,sD ho hf,⟨yZ x.st ho hh,?_⟩,h1,rp⟩
 have:=x.lc.set (i:=i) (v:=.ref l) (c:=.val (.du ks ts)) rp λj c v hj q=>ou (q:=.loc j) ho hf (λz=>hj (by cases z;rfl)) q
 have es:σ.set i (some (.ref l))=σ:=by
  apply Az;intro j;by_cases hj:i=j
  ·subst hj
   rw[eV (eA.mp h1).1,h1]
  ·rw[c5 hj]
 rw[es]at this;exact this
def G.own(g:G)(l:Addr)(p:jK):G:={g with o:=λb=>if b=l then some p else g.o b}
theorem uN{p q:jK}{l:Addr}(hn:g.o l=none){c:C}{v:V}(h:a_ B g H q c v):a_ B (g.own l p) H q c v:=
 a_.mv (g:=g) (g':=g.own l p) (aL.refl g.HF) eK (λb hb=>by
  have:b≠l:=λe=>by rw[e,hn]at hb;cases hb
  exact⟨by show(if b=l then some p else g.o b)=_;rw[if_neg this];exact hb,rfl⟩) h
theorem y9{p:jK}{l:Addr}{u:HO}(x:fX B g H m)(hn:g.o l=none)(hf:g.HF l=none)(hh:H l=some u):fX B (g.own l p) H m:=by
 refine x.mv x.sub (λb q e=>?_) (aL.refl _) rfl λb q hb hp=>?_
 ·have e:(if b=l then some p else g.o b)=some q:=e
  by_cases hb:b=l
  ·subst hb;exact⟨hf,u,hh⟩
  ·rw[if_neg hb]at e;exact x.live b q e
 ·have:b≠l:=λe=>by rw[e,hn]at hb;cases hb
  exact⟨by show(if b=l then some p else g.o b)=_;rw[if_neg this];exact hb,rfl⟩
theorem SR.own(x:SR B g H σ s){i:Nat}{l:Addr}{ts:FK}{vs:List V}(hn:g.o l=none)(hf:g.HF l=none)(hh:H l=some (.lst vs))(r:aA B g.al g.HF ts vs):SR B (g.own l (.loc i)) H (σ.set i (some (.ref l))) (jr s i (.ol ts)):=
 ⟨y9 x.st hn hf hh,x.lc.set (c:=.ol ts) ⟨l,vs,rfl,by show(if l=l then some (jK.loc i)else g.o l)=_;rw[if_pos rfl],hh,r⟩ λj c v hj q=>uN hn q⟩
theorem SR.Xb(x:SR B g H σ s){i:Nat}{l:Addr}{ks:List Ky}{ts:FK}{vs:List V}(hn:g.o l=none)(hf:g.HF l=none)(hh:H l=some (.dK ((ks.map jZ).zip vs)))(hk:ks.length=vs.length)(r:aA B g.al g.HF ts vs):SR B (g.own l (.loc i)) H (σ.set i (some (.ref l))) (jr s i (.od ks ts)):=
 ⟨y9 x.st hn hf hh,x.lc.set (c:=.od ks ts) ⟨l,vs,rfl,by show(if l=l then some (jK.loc i)else g.o l)=_;rw[if_pos rfl],hh,hk,r⟩ λj c v hj q=>uN hn q⟩
theorem y_{l:Addr}{i:Nat}{u:HO}(x:fX B g H m)(ho:g.o l=some (.loc i)):fX B g (upd H l u) m:=by
 have hf:=(x.live l _ ho).1;refine x.mv (λb w e=>?_) (λb q e=>?_) (aL.refl _) rfl λb q hb hp=>?_
 ·have:b≠l:=λz=>by rw[z,hf]at e;cases e
  rw[au this];exact x.sub _ _ e
 ·obtain⟨h1,w,h2⟩:=x.live b q e
  by_cases hb:b=l
  ·exact⟨h1,u,by rw[hb,ah]⟩
  ·exact⟨h1,w,by rw[au hb];exact h2⟩
 ·have:b≠l:=λe=>hp i (by rw[e,ho]at hb;cases hb;rfl)
  exact⟨hb,by rw[au this]⟩
theorem m_{l:Addr}{p:jK}{u:HO}(ho:g.o l=some p):fj g H g (upd H l u):=
 ⟨aL.refl _,eK,λb w h n z=>by
  have:b≠l:=λe=>by rw[e,ho]at z;cases z
  exact⟨by rw[au this];exact h,n,z⟩,λb h=>by
  by_cases hb:b=l
  ·subst hb;rw[ah]at h;cases h
  ·rw[au hb]at h;exact h⟩
theorem SR.chg(x:SR B g H σ s){i:Nat}{ts A7:FK}{l:Addr}{gn:List V}(h:s.r[i]?=some (some (.ol ts)))(hσ:σ[i]?=some (some (.ref l)))(r:aA B g.al g.HF A7 gn):SR B g (upd H l (.lst gn)) σ (jr s i (.ol A7))/\fj g H g (upd H l (.lst gn)):=by
 obtain⟨v,h1,l',vs,rfl,ho,hh,r0⟩:=x.lc.at_ i _ h;rw[hσ]at h1;cases h1;refine⟨⟨y_ x.st ho,?_⟩,m_ ho⟩
 have:=x.lc.set (g':=g) (H':=upd H l (.lst gn)) (i:=i) (v:=.ref l) (c:=.ol A7) ⟨l,gn,rfl,ho,ah,r⟩ λj c v hj q=>q.mv (aL.refl _) eK λb hb=>by
  have:b≠l:=λe=>hj (by rw[e,ho]at hb;cases hb;rfl)
  exact⟨hb,au this⟩
 have es:σ.set i (some (.ref l))=σ:=by
  apply Az;intro j;by_cases hj:i=j
  ·subst hj
   rw[eV (eA.mp hσ).1,hσ]
  ·rw[c5 hj]
 rw[es]at this;exact this
theorem SR.Xc(x:SR B g H σ s){i:Nat}{ks BI:List Ky}{ts A7:FK}{l:Addr}{gn:List V}(h:s.r[i]?=some (some (.od ks ts)))(hσ:σ[i]?=some (some (.ref l)))(hk:BI.length=gn.length)(r:aA B g.al g.HF A7 gn):SR B g (upd H l (.dK ((BI.map jZ).zip gn))) σ (jr s i (.od BI A7))/\fj g H g (upd H l (.dK ((BI.map jZ).zip gn))):=by
 obtain⟨v,h1,l',vs,rfl,ho,hh,PR,r0⟩:=x.lc.at_ i _ h;rw[hσ]at h1;cases h1;refine⟨⟨y_ x.st ho,?_⟩,m_ ho⟩
 have:=x.lc.set (g':=g) (H':=upd H l (.dK ((BI.map jZ).zip gn))) (i:=i) (v:=.ref l) (c:=.od BI A7) ⟨l,gn,rfl,ho,ah,hk,r⟩ λj c v hj q=>q.mv (aL.refl _) eK λb hb=>by
  have:b≠l:=λe=>hj (by rw[e,ho]at hb;cases hb;rfl)
  exact⟨hb,au this⟩
 have es:σ.set i (some (.ref l))=σ:=by
  apply Az;intro j;by_cases hj:i=j
  ·subst hj
   rw[eV (eA.mp hσ).1,hσ]
  ·rw[c5 hj]
 rw[es]at this;exact this
def RV:Option jK->Option jK
 |some (.loc _)=>none
 |x=>x
def G.ai(g:G):G:={g with o:=λb=>RV (g.o b)}
theorem A8{q:Option jK}{p:jK}:RV q=some p ↔ q=some p/\∀i,p≠.loc i:=by
 cases q with
 |none=>exact⟨λh=>(by cases h),λh=>(by cases h.1)⟩
 |some q=>
  cases q with
  |loc i=>exact⟨λh=>(by cases h),λh=>(by obtain⟨h,n⟩:=h;cases h;exact absurd rfl (n i))⟩
  |ob k=>exact⟨λh=>(by cases h;exact⟨rfl,λi z=>(by cases z)⟩),λh=>h.1⟩
  |fld k j=>exact⟨λh=>(by cases h;exact⟨rfl,λi z=>(by cases z)⟩),λh=>h.1⟩
theorem kr{b:Addr}{p:jK}:g.ai.o b=some p ↔ g.o b=some p/\∀i,p≠.loc i:=A8
theorem fX.ai(x:fX B g H m):fX B g.ai H m:=
 x.mv x.sub (λb p e=>x.live b p (kr.mp e).1) (aL.refl _) rfl λl p h n=>⟨kr.mpr ⟨h,n⟩,rfl⟩
def Xd:Option jK->Option jK->Option jK
 |some (.loc i),_=>some (.loc i)
 |_,y=>y
def G.back(g g':G):G:={g' with o:=λb=>Xd (g.o b) (g'.o b)}
theorem Dv{b:Addr}{i:Nat}(h:g.o b=some (.loc i)):(G.back g g').o b=some (.loc i):=by
 show Xd (g.o b) (g'.o b)=_;rw[h];rfl
theorem ow{b:Addr}(h:∀i,g.o b≠some (.loc i)):(G.back g g').o b=g'.o b:=by
 show Xd (g.o b) (g'.o b)=_;cases q:g.o b with
 |none=>rfl
 |some p=>cases p with
  |loc i=>exact absurd q (h i)
  |ob k=>rfl
  |fld k j=>rfl
theorem SR.back(x:SR B g H σ s){m':FV}(p:fj g.ai H g' H')(y:fX B g' H' m'):fj g H (G.back g g') H'/\SR B (G.back g g') H' σ {s with m:=m'}:=by
 have keep:∀l i,g.o l=some (.loc i)->H' l=H l/\g'.HF l=none/\g'.o l=none:=λl i e=>by
  obtain⟨h1,u,h2⟩:=x.st.live l _ e;have h3:g.ai.o l=none:=by
   cases q:g.ai.o l with
   |none=>rfl
   |some p=>obtain⟨a,b⟩:=kr.mp q;rw[e]at a;cases a;exact absurd rfl (b i)
  obtain⟨h4,h5,h6⟩:=p.rest l u h2 h1 h3;exact⟨h4.trans h2.symm,h5,h6⟩
 have Xe:∀l q,g'.o l=some q->∀i,g.o l≠some (.loc i):=λl q e i z=>by rw[(keep l i z).2.2]at e;cases e
 refine⟨⟨p.fr,p.pre,λb u h n z=>?_,p.there⟩,⟨⟨y.sub,λb q e=>?_,y.len,λk ob e=>?_⟩,x.lc.len,λi c e=>?_⟩⟩
 ·have h3:g.ai.o b=none:=by
   cases q:g.ai.o b with
   |none=>rfl
   |some p=>rw[(kr.mp q).1]at z;cases z
  obtain⟨h4,h5,h6⟩:=p.rest b u h n h3;exact⟨h4,h5,(ow λi w=>by rw[z]at w;cases w).trans h6⟩
 ·by_cases hl:∃i,g.o b=some (.loc i)
  ·obtain⟨i,hl⟩:=hl
   obtain⟨h1,u,h2⟩:=x.st.live b _ hl;obtain⟨h4,h5,_⟩:=keep b i hl;exact⟨h5,u,h4.trans h2⟩
  ·rw[ow λi w=>hl ⟨i,w⟩]at e
   exact y.live b q e
 ·exact(y.at_ k ob e).mv (aL.refl _) eK λl q h _=>⟨(ow (Xe l q h)).trans h,rfl⟩
 ·obtain⟨v,h1,h2⟩:=x.lc.at_ i c e
  exact⟨v,h1,a_.mv (g:=g) (g':=G.back g g') p.fr p.pre (λl o=>⟨Dv o,(keep l i o).1⟩) h2⟩
variable{es:Bz}{fl:FL}{ft fu:FT}
abbrev KTb:=Bi×List Bi
def _root_.L2.Cx.kt(X:Cx)(t:KTb):KT:=⟨X.K,X.prog,X.w,t.1,t.2⟩
def tE(B:KT)(f:FE):TE:=λσ H Q=>∃g s t s',SR B g H σ s/\f s=.ok (t,s')/\∀v g' H',fj g H g' H'->SR B g' H' σ s'->Rep B g'.al g'.HF t v->Q v H'
def tA(B:KT)(f:FL):TA:=λσ H Q=>∃g s ts s',SR B g H σ s/\f s=.ok (ts,s')/\∀vs g' H',fj g H g' H'->SR B g' H' σ s'->aA B g'.al g'.HF ts vs->Q vs H'
def tT(B:KT)(f:FT):TT:=λσ H Q=>∃g s k s',SR B g H σ s/\f s=.ok (k,s')/\∀g' H',fj g H g' H'->SR B g' H' σ s'->Q k H'
def tP(B:KT)(f:FO):TO:=λσ H Q=>∃g s k s',SR B g H σ s/\f s=.ok (k,s')/\∀g' H',fj g H g' H'->SR B g' H' σ s'->Q k H'
def tO(B:KT)(f:FL):TE:=λσ H Q=>∃g s ts s',SR B g H σ s/\f s=.ok (ts,s')/\∀l vs g' H',fj g H g' H'->SR B g' H' σ s'->H l=none->g'.HF l=none->g'.o l=none->H' l=some (.lst vs)->aA B g'.al g'.HF ts vs->Q (.ref l) H'
theorem aM{t t':TE}(h:PE X e t)(i:∀σ H Q,t' σ H Q->t σ H Q):PE X e t':=λae s σ H Q I q=>h ae s σ H Q I (i σ H Q q)
theorem za{t t':TT}(h:PT X e t)(i:∀σ H Q,t' σ H Q->t σ H Q):PT X e t':=λae s σ H Q I q=>h ae s σ H Q I (i σ H Q q)
theorem K1{t t':TT}(h:PW X e t)(i:∀σ H Q,t' σ H Q->t σ H Q):PW X e t':=λwh ae s σ H Q I q=>h wh ae s σ H Q I (i σ H Q q)
theorem K2{es:Bz}{t t':TA}(h:PA X es t)(i:∀σ H Q,t' σ H Q->t σ H Q):PA X es t':=λpo ae s σ H Q I q=>h po ae s σ H Q I (i σ H Q q)
theorem c6{st:Stmt}{t t':TS}(h:PS X st t)(i:∀D σ H,t' D σ H->t D σ H):PS X st t':=λae s σ H D I q=>h ae s σ H D I (i D σ H q)
theorem Dw{st:Ee}{t t':TS}(h:j8 X st t)(i:∀D σ H,t' D σ H->t D σ H):j8 X st t':=λae s σ H D I q=>h ae s σ H D I (i D σ H q)
theorem K3{e:Option Expr}{t t':TO}(h:PO X e t)(i:∀σ H Q,t' σ H Q->t σ H Q):PO X e t':=λae s σ H Q I q=>h ae s σ H Q I (i σ H Q q)
theorem l_{tg:Expr}{t t':TI}(h:PI X tg e t)(i:∀σ H Rh,t' σ H Rh->t σ H Rh):PI X tg e t':=λae s σ H Rh I q=>h ae s σ H Rh I (i σ H Rh q)
theorem aP:PE X e (tE B bD):=λ_ _ _ _ _ _ ⟨_,_,_,_,_,h,_⟩=>by cases h
theorem jL:PT X e (tT B qm):=λ_ _ _ _ _ _ ⟨_,_,_,_,_,h,_⟩=>by cases h
theorem dY:PE X e (tO B fV):=λ_ _ _ _ _ _ ⟨_,_,_,_,_,h,_⟩=>by cases h
theorem ku{t:T}{v:V}(h:PE X e (tC v))(r:∀al H,Rep B al H t v):PE X e (tE B (cF t)):=aM h λσ H Q z=>by
 obtain⟨g,s,t',s',x,h,k⟩:=z;cases h;exact k v g H .refl x (r _ _)
theorem Dy{i:Nat}{x:Str}(hN:X.N[i]?=some x)(hv:rL X.env.scope x)(hd:bZ x)(jD:iO x):PE X (.Name x pos) (tE B (vF i)):=by
 refine aM (dD hN hv hd jD) λσ H Q zz=>?_;obtain⟨g,s,t,s',x,h,k⟩:=zz;unfold vF at h;split at h
 ·rename_i t' hr
  cases h;obtain⟨v,h1,h2⟩:=x.lc.at_ i _ hr;exact⟨v,h1,k v g H .refl x h2⟩
 ·rename_i ts hr
  cases h;obtain⟨g',v,p,y,h1,r⟩:=x.jh hr;exact⟨v,h1,k v g' H p y r⟩
 ·rename_i ks ts hr
  cases h;obtain⟨g',v,p,y,h1,r⟩:=x.Xa hr;exact⟨v,h1,k v g' H p y r⟩
 ·cases h
def L1(X:Cx)(f:T->FR)(r:V->Hp->VK->Prop):Prop:=∀(B:KT)(_:B.K=X.K)(al:BM)(HF H:Hp)(x:V)(t tx:T)(Q:VK),aL HF H->Rep B al HF tx x->f tx=some t->(∀v gy H',Gr HF H gy H'->Rep B al gy t v->Q v H')->r x H Q
def qp(X:Cx)(f:T->T->FR)(r:R2):Prop:=∀(B:KT)(_:B.K=X.K)(al:BM)(HF H:Hp)(x y:V)(t tx ty:T)(Q:VK),aL HF H->Rep B al HF tx x->Rep B al HF ty y->f tx ty=some t->(∀v gy H',Gr HF H gy H'->Rep B al gy t v->Q v H')->r x y H Q
def LN(X:Cx)(f:FK->FR)(r:List V->Hp->VK->Prop):Prop:=∀(B:KT)(_:B.K=X.K)(al:BM)(HF H:Hp)(xs:List V)(t:T)(ts:FK)(Q:VK),aL HF H->aA B al HF ts xs->f ts=some t->(∀v gy H',Gr HF H gy H'->Rep B al gy t v->Q v H')->r xs H Q
theorem Dz{f:T->FR}{r:V->Hp->VK->Prop}(hB:B.K=X.K)(hr:L1 X f r):∀σ H Q,tE B (cu f fa) σ H Q->Zt r (tE B fa) σ H Q:=by
 rintro σ H Q ⟨g,s,t,s',x,h,k⟩
 obtain⟨⟨tx,s1⟩,h1,h⟩:=aa h;obtain⟨t',h2,h⟩:=aa h;cases h;exact⟨g,s,tx,s1,x,h1,λv g1 H1 p1 x1 r1=>hr B hB g1.al g1.HF H1 v _ tx Q x1.sub r1 (aj h2) λu gy H' gr r2=>k u (g1.grow gy) H' (p1.trans (x1.iE gr)) (x1.grow gr) r2⟩
theorem i_{f:T->T->FR}{r:R2}(hB:B.K=X.K)(hr:qp X f r):∀σ H Q,tE B (bB f fa fb) σ H Q->CL r (tE B fa) (tE B fb) σ H Q:=by
 rintro σ H Q ⟨g,s,t,s',x,h,k⟩
 obtain⟨⟨tx,s1⟩,h1,h⟩:=aa h;obtain⟨⟨ty,s2⟩,h2,h⟩:=aa h;obtain⟨t',h3,h⟩:=aa h;cases h;exact⟨g,s,tx,s1,x,h1,λv g1 H1 p1 x1 r1=>⟨g1,s1,ty,s2,x1,h2,λw g2 H2 p2 x2 r2=>
  hr B hB g2.al g2.HF H2 v w _ tx ty Q x2.sub (r1.mv p2.pre p2.fr) r2 (aj h3) λu gy H' gr r3=>k u (g2.grow gy) H' ((p1.trans p2).trans (x2.iE gr)) (x2.grow gr) r3⟩⟩
theorem K4{f:FK->FR}{r:List V->Hp->VK->Prop}(hB:B.K=X.K)(hr:LN X f r):∀σ H Q,tE B (aR f fl) σ H Q->Wo r (tA B fl) σ H Q:=by
 rintro σ H Q ⟨g,s,t,s',x,h,k⟩
 obtain⟨⟨ts,s1⟩,h1,h⟩:=aa h;obtain⟨t',h2,h⟩:=aa h;cases h;exact⟨g,s,ts,s1,x,h1,λvs g1 H1 p1 x1 r1=>hr B hB g1.al g1.HF H1 vs _ ts Q x1.sub r1 (aj h2) λu gy H' gr r2=>k u (g1.grow gy) H' (p1.trans (x1.iE gr)) (x1.grow gr) r2⟩
theorem xE:PA X [] (tA B aZ):=K2 cK λσ H Q z=>by
 obtain⟨g,s,t,s',x,h,k⟩:=z;cases h;exact k [] g H .refl x rfl
theorem sE(ha:PE X e (tE B fa))(hr:PA X es (tA B fl))(hs:starEach (e::es) X.env=(false,eval e X.env)::starEach es X.env):PA X (e::es) (tA B (bK fa fl)):=K2 (aV ha hr hs) λσ H Q z=>by
 obtain⟨g,s,t,s',x,h,k⟩:=z;obtain⟨⟨tx,s1⟩,h1,h⟩:=aa h;obtain⟨⟨ty,s2⟩,h2,h⟩:=aa h;cases h;exact⟨g,s,tx,s1,x,h1,λv g1 H1 p1 x1 r1=>⟨g1,s1,ty,s2,x1,h2,λw g2 H2 p2 x2 r2=>k (v::w) g2 H2 (p1.trans p2) x2 ⟨v,w,rfl,r1.mv p2.pre p2.fr,r2⟩⟩⟩
theorem xF{n:Nat}(h:n<=1000):n<=sizeLine:=by rw[sizeLine_eq];omega
theorem RW{x1}(h:PA X es (tA B fl)):PE X (.Tuple es x1 pos) (tE B (aR bQ fl)):=aM (CS h) λσ H Q z=>by
 obtain⟨g,s,t,s',x,h,k⟩:=z;obtain⟨⟨ts,s1⟩,h1,h⟩:=aa h;obtain⟨t',h2,h⟩:=aa h;cases h;obtain⟨z,rfl⟩:=aT (aj h2);refine⟨g,s,ts,s1,x,h1,λvs g1 H1 p1 x1 r1=>⟨xF (by rw[<- r1.len];exact z),λq hq=>?_⟩⟩
 have gr:=Gr.new (o:=.tup vs) x1.sub hq;exact k _ _ _ (p1.trans (x1.iE gr)) (x1.grow gr) ⟨q,vs,rfl,.inl (.inl ah),r1.same gr.fr⟩
theorem RY(h:PA X es (tA B fl)):PE X (.List es pos) (tE B (aR dQ fl)):=aM (CT h) λσ H Q z=>by
 obtain⟨g,s,t,s',x,h,k⟩:=z;obtain⟨⟨ts,s1⟩,h1,h⟩:=aa h;obtain⟨t',h2,h⟩:=aa h;cases h;obtain⟨z,rfl⟩:=aT (aj h2);refine⟨g,s,ts,s1,x,h1,λvs g1 H1 p1 x1 r1=>⟨xF (by rw[<- r1.len];exact z),λq hq=>?_⟩⟩
 have gr:=Gr.new (o:=.lst vs) x1.sub hq;exact k _ _ _ (p1.trans (x1.iE gr)) (x1.grow gr) ⟨q,vs,rfl,ah,r1.same gr.fr⟩
def mO(fl:FL):FL:=λs=>(fl s).bind λp=>if p.1.length<=1000 then .ok p else .bad
theorem om{l:Addr}{u:HO}(x:SR B g H σ s)(h:H l=none):Gr g.HF H g.HF (upd H l u)/\g.HF l=none/\g.o l=none:=by
 refine⟨.om x.sub h,x.sub.free h,?_⟩;cases q:g.o l with
 |none=>rfl
 |some p=>obtain⟨_,u,z⟩:=x.st.live l p q;rw[h]at z;cases z
theorem M6(h:PA X es (tA B fl)):PE X (.List es pos) (tO B (mO fl)):=aM (CT h) λσ H Q z=>by
 obtain⟨g,s,t,s',x,h,k⟩:=z;obtain⟨⟨ts,s1⟩,h1,h⟩:=aa h;dsimp only at h;split at h
 ·rename_i z
  cases h;refine⟨g,s,_,_,x,h1,λvs g1 H1 p1 x1 r1=>⟨xF (by rw[<- r1.len];exact z),λq hq=>?_⟩⟩
  obtain⟨gr,n1,n2⟩:=om (u:=.lst vs) x1 hq;exact k q vs _ _ (p1.trans (x1.iE gr)) (x1.grow gr) (p1.there q hq) n1 n2 ah r1
 ·cases h
theorem SR.DA{l:Addr}{u:HO}(x:SR B g H σ s)(hf:g.HF l=none)(ho:g.o l=none)(hh:H l=some u):SR B (g.grow (upd g.HF l u)) H σ s:=by
 have sl:∀p c v,a_ B g H p c v->a_ B (g.grow (upd g.HF l u)) H p c v:=λp c v h=>a_.mv (g:=g) (g':=g.grow (upd g.HF l u)) (aS hf) eK (λ_ q=>⟨q,rfl⟩) h;refine⟨x.st.mv (λb w e=>?_) (λb p e=>?_) (aS hf) rfl λ_ _ q _=>⟨q,rfl⟩,x.lc.len,λi c e=>let⟨v,h1,h2⟩:=x.lc.at_ i c e;⟨v,h1,sl _ _ _ h2⟩⟩
 ·have e:upd g.HF l u b=some w:=e
  by_cases hb:b=l
  ·subst hb;rw[ah]at e;cases e;exact hh
  ·rw[au hb]at e;exact x.sub _ _ e
 ·obtain⟨h1,h2⟩:=x.st.live b p e
  have:b≠l:=λz=>by subst z;rw[show g.o b=some p from e]at ho;cases ho
  exact⟨by show upd g.HF l u b=none;rw[au this];exact h1,h2⟩
theorem fj.DA{g1:G}{H1:Hp}{l:Addr}{u:HO}(p:fj g H g1 H1)(h0:H l=none)(hf:g1.HF l=none):fj g H (g1.grow (upd g1.HF l u)) H1:=
 ⟨p.fr.trans (aS hf),p.pre,λb w h n z=>by
  obtain⟨a,b',c⟩:=p.rest b w h n z
  have:b≠l:=aJ h h0
  exact⟨a,by show upd g1.HF l u b=none;rw[au this];exact b',c⟩,p.there⟩
theorem xG(h:PE X e (tO B fl)):PE X e (tE B (eX fl)):=aM h λσ H Q z=>by
 obtain⟨g,s,t,s',x,h,k⟩:=z;obtain⟨⟨ts,s1⟩,h1,h⟩:=aa h;cases h;refine⟨g,s,_,_,x,h1,λl vs g1 H1 p1 x1 h0 n1 n2 hl r1=>?_⟩;exact k _ _ H1 (p1.DA h0 n1) (x1.DA n1 n2 hl) ⟨l,vs,rfl,ah,r1.same (aS n1)⟩
theorem M7(ha:PT X a (tT B ft)):PW X (.BoolOp .And [a] pos) (tT B ft):=GZ ha
theorem RZ(ha:PT X a (tT B ft)):PW X (.BoolOp .Or [a] pos) (tT B ft):=L8 ha
theorem R0{rest:Bz}(ha:PT X a (tT B ft))(hb:PW X (.BoolOp .And (b::rest) pos) (tT B fu)):PW X (.BoolOp .And (a::b::rest) pos) (tT B (gX ft fu)):=K1 (L_ ha hb) λσ H Q z=>by
 obtain⟨g,s,t,s',x,h,k⟩:=z;obtain⟨⟨d,s1⟩,h1,h⟩:=aa h;refine⟨g,s,d,s1,x,h1,λg1 H1 p1 x1=>?_⟩;cases d with
 |true=>exact r9 ⟨g1,s1,_,_,x1,h,λg2 H2 p2 x2=>k g2 H2 (p1.trans p2) x2⟩
 |false=>cases h;exact r8 (k g1 H1 p1 x1)
theorem Xf{rest:Bz}(ha:PT X a (tT B ft))(hb:PW X (.BoolOp .Or (b::rest) pos) (tT B fu)):PW X (.BoolOp .Or (a::b::rest) pos) (tT B (qo ft fu)):=K1 (Qi ha hb) λσ H Q z=>by
 obtain⟨g,s,t,s',x,h,k⟩:=z;obtain⟨⟨d,s1⟩,h1,h⟩:=aa h;refine⟨g,s,d,s1,x,h1,λg1 H1 p1 x1=>?_⟩;cases d with
 |true=>cases h;exact r9 (k g1 H1 p1 x1)
 |false=>exact r8 ⟨g1,s1,_,_,x1,h,λg2 H2 p2 x2=>k g2 H2 (p1.trans p2) x2⟩
theorem R3(ha:PT X a (tT B ft)):PT X (.UnaryOp .Not a pos) (tT B (dR ft)):=za (Ma ha) λσ H Q z=>by
 obtain⟨g,s,t,s',x,h,k⟩:=z;obtain⟨⟨d,s1⟩,h1,h⟩:=aa h;cases h;exact⟨g,s,d,s1,x,h1,λg1 H1 p1 x1=>k g1 H1 p1 x1⟩
theorem ng{t:T}{k:Bool}(h:M4 t=some k):t=.bl k:=by
 cases t<;>first|(cases h;done)|(cases h;rfl)
theorem DB{op}(ha:PE X a (tE B fa)):PE X (.BoolOp op [a] pos) (tE B fa):=Mb ha
theorem M8{rest:Bz}(ha:PE X a (tE B fa))(hb:PE X (.BoolOp .And (b::rest) pos) (tE B fb)):PE X (.BoolOp .And (a::b::rest) pos) (tE B (ko fa fb)):=aM (Mc ha hb) λσ H Q z=>by
 obtain⟨g,s,t,s',x,h,k⟩:=z;obtain⟨⟨d,s1⟩,h1,h⟩:=aa h;obtain⟨d',h2,h⟩:=aa h;cases ng (aj h2);refine⟨g,s,_,s1,x,h1,λv g1 H1 p1 x1 r1=>⟨d',r1,?_⟩⟩;cases d' with
 |true=>exact r9 ⟨g1,s1,_,_,x1,h,λw g2 H2 p2 x2 r2=>k w g2 H2 (p1.trans p2) x2 r2⟩
 |false=>cases h;exact r8 (k _ g1 H1 p1 x1 rfl)
theorem R4{rest:Bz}(ha:PE X a (tE B fa))(hb:PE X (.BoolOp .Or (b::rest) pos) (tE B fb)):PE X (.BoolOp .Or (a::b::rest) pos) (tE B (Z5 fa fb)):=aM (Ql ha hb) λσ H Q z=>by
 obtain⟨g,s,t,s',x,h,k⟩:=z;obtain⟨⟨d,s1⟩,h1,h⟩:=aa h;obtain⟨d',h2,h⟩:=aa h;cases ng (aj h2);refine⟨g,s,_,s1,x,h1,λv g1 H1 p1 x1 r1=>⟨d',r1,?_⟩⟩;cases d' with
 |true=>cases h;exact r9 (k _ g1 H1 p1 x1 rfl)
 |false=>exact r8 ⟨g1,s1,_,_,x1,h,λw g2 H2 p2 x2 r2=>k w g2 H2 (p1.trans p2) x2 r2⟩
theorem M9(ha:PE X a (tE B fa)):PE X (.UnaryOp .Not a pos) (tE B (uJ fa)):=aM (Me ha) λσ H Q z=>by
 obtain⟨g,s,t,s',x,h,k⟩:=z;obtain⟨⟨d,s1⟩,h1,h⟩:=aa h;obtain⟨d',h2,h⟩:=aa h;cases ng (aj h2);cases h;exact⟨g,s,_,s1,x,h1,λv g1 H1 p1 x1 r1=>⟨d',r1,k _ g1 H1 p1 x1 rfl⟩⟩
theorem R5(hc:PT X c (tT B ft))(ha:PE X a (tE B fa))(hb:PE X b (tE B fb)):PE X (.IfExp c a b pos) (tE B (uK ft fa fb)):=aM (uu hc ha hb) λσ H Q z=>by
 obtain⟨g,s,t,s',x,h,k⟩:=z;obtain⟨⟨d,s1⟩,h1,h⟩:=aa h;refine⟨g,s,d,s1,x,h1,λg1 H1 p1 x1=>?_⟩;cases d with
 |true=>exact r9 ⟨g1,s1,_,_,x1,h,λw g2 H2 p2 x2 r2=>k w g2 H2 (p1.trans p2) x2 r2⟩
 |false=>exact r8 ⟨g1,s1,_,_,x1,h,λw g2 H2 p2 x2 r2=>k w g2 H2 (p1.trans p2) x2 r2⟩
theorem DC{al:BM}{HF:Hp}{t:T}{k:Bool}{v:V}(h:HC t=some k)(sm:aL HF H)(r:Rep B al HF t v):Mz B.K v H k:=by
 cases t<;>first|(cases h;done)|skip
 ·cases h;cases r;rfl
 ·cases h
  obtain⟨a,vs,rfl,q,rr⟩:=r;refine .inl ⟨vs,df.of (sm _ _ q),?_⟩
  have:=rr.len
  rename_i xs;cases xs<;>cases vs<;>first|rfl|(cases this)
theorem K5(ha:PE X a (tE B fa))(hB:B.K=X.K)(he:∀iB,isTrue a X.env iB=(do let v <- iB;standAt a.pos;holding [v] (truthy v))):PT X a (tT B (tB fa)):=za (CM ha he) λσ H Q z=>by
 obtain⟨g,s,t,s',x,h,k⟩:=z;obtain⟨⟨d,s1⟩,h1,h⟩:=aa h;obtain⟨d',h2,h⟩:=aa h;cases h;exact⟨g,s,_,s1,x,h1,λv g1 H1 p1 x1 r1=>⟨_,hB▸DC (aj h2) x1.sub r1,k g1 H1 p1 x1⟩⟩
section
theorem fH(l:B1):(⟨l.toArray⟩:Str).length=l.length:=by show l.toArray.size=_;simp
theorem Xg{l:B1}(h:l.length<=1000000):(⟨l.toArray⟩:Str).length<=sizeLine:=by rw[fH,sizeLine_eq];omega
theorem M_(a b:B1):(⟨a.toArray⟩:Str)++⟨b.toArray⟩=⟨(a++b).toArray⟩:=by
 show(⟨a.toArray++b.toArray⟩:Str)=_;simp
def K6:R2:=λx y H Q=>BG (λi j=>.int (i+j)) x y H Q\/(∃i j,x=.str i/\y=.str j/\i.length+j.length<=sizeLine/\Q (.str (i++j)) H)\/Q7 x y H Q
theorem HG:gi X (binaryOp .Add) K6:=Mt.or (xl.or C8)
theorem R6:qp X RK K6:=λB hB al HF H x y t tx ty Q sm rx ry h k=>by
 cases tx<;>first|(cases h;done)|(cases ty<;>first|(cases h;done)|skip)
 ·cases h;exact .inl ⟨_,_,rx,ry,k _ HF H (.refl sm) rfl⟩
 ·obtain⟨c,rfl⟩:=aT h
  obtain⟨rfl,_⟩:=rx;obtain⟨rfl,_⟩:=ry;refine .inr (.inl ⟨_,_,rfl,rfl,?_,?_⟩)
  ·rw[fH,fH,sizeLine_eq];omega
  ·rw[M_]
   exact k _ HF H (.refl sm) ⟨rfl,by rw[cC];omega⟩
 ·obtain⟨c,rfl⟩:=aT h
  obtain⟨l,xs,rfl,q,r⟩:=rx;obtain⟨m,ys,rfl,q',r'⟩:=ry;refine .inr (.inr ⟨l,m,xs,ys,rfl,rfl,sm _ _ q,sm _ _ q',by rw[<- r.len,<- r'.len,sizeLine_eq];omega,λp hp=>?_⟩)
  have gr:=Gr.new (o:=.lst (xs++ys)) sm hp;exact k _ _ _ gr ⟨p,_,rfl,ah,(r.app r').same gr.fr⟩
theorem R7{f:T->T->FR}{gg:Int->Int->V}{G:Int->Int->T}(hf:∀tx ty t,f tx ty=some t->∃i j,tx=.int i/\ty=.int j/\t=G i j)(hg:∀B al i j H,Rep B al H (G i j) (gg i j)):qp X f (BG gg):=λB hB al HF H x y t tx ty Q sm rx ry h k=>by
 obtain⟨i,j,rfl,rfl,rfl⟩:=hf _ _ _ h;exact⟨i,j,rx,ry,k _ HF H (.refl sm) (hg B al i j HF)⟩
theorem DE{f:T->T->FR}{gg:Int->Int->V}{G:Int->Int->T}{C:Int->Int->Prop}(hf:∀tx ty t,f tx ty=some t->∃i j,tx=.int i/\ty=.int j/\t=G i j/\C i j)(hg:∀B al i j H,Rep B al H (G i j) (gg i j)):qp X f (rI C gg):=λB hB al HF H x y t tx ty Q sm rx ry h k=>by
 obtain⟨i,j,rfl,rfl,rfl,c⟩:=hf _ _ _ h;exact⟨i,j,rx,ry,c,k _ HF H (.refl sm) (hg B al i j HF)⟩
theorem R8:qp X RL (BG λi j=>.int (i-j)):=R7 (G:=λi j=>.int (i-j)) (λtx ty t h=>by
 cases tx<;>first | (cases h;done) | (cases ty<;>first | (cases h;done) | (cases h;exact⟨_,_,rfl,rfl,rfl⟩))) λ_ _ _ _ _=>rfl
theorem R9:qp X MW (rI QF λi j=>.int (i/j)):=DE (G:=λi j=>.int (i/j)) (λtx ty t h=>by
 cases tx<;>first | (cases h;done) | (cases ty<;>first | (cases h;done) | (obtain⟨c,rfl⟩:=aT h;exact⟨_,_,rfl,rfl,rfl,c⟩))) λ_ _ _ _ _=>rfl
theorem R_:qp X MX (rI (λ_ j=>0<j) λi j=>.int (i % j)):=DE (G:=λi j=>.int (i % j)) (λtx ty t h=>by
 cases tx<;>first | (cases h;done) | (cases ty<;>first | (cases h;done) | (obtain⟨c,rfl⟩:=aT h;exact⟨_,_,rfl,rfl,rfl,c⟩))) λ_ _ _ _ _=>rfl
theorem Sa:qp X RM (rI QG λi j=>.int (i^j.toNat)):=DE (G:=λi j=>.int (i^j.toNat)) (λtx ty t h=>by
 cases tx<;>first | (cases h;done) | (cases ty<;>first | (cases h;done) | (obtain⟨c,rfl⟩:=aT h;exact⟨_,_,rfl,rfl,rfl,c⟩))) λ_ _ _ _ _=>rfl
def zb(i j:Int):Prop:=Ms i j\/(i.natAbs.log2<2000000/\j.natAbs.log2<2000000)
theorem qP{i:Int}(h:i.natAbs.log2<2000000):Builtin.Int.intBits i<=2000000:=by
 unfold Builtin.Int.intBits;split
 ·omega
 ·omega
theorem zb.ok{i j:Int}(h:zb i j):IntMulOk i j:=by
 rcases h with h|⟨h1,h2⟩
 ·exact h.ok
 ·have a:=qP h1
  have b:=qP h2;intro q;rw[dc]at q;have c:=of_decide_eq_true (show decide (((Builtin.Int.intBits i:Nat):Int)+(Builtin.Int.intBits j:Nat) > (bitsLine:Nat))=true from q.2);have d:(bitsLine:Nat)=134217728:=rfl;omega
theorem HH:gi X (binaryOp .Mult) (rI zb λi j=>.int (i*j)):=Vn λ_ _ _ _ _ _ _ hc q=>PyProof.Rows.mul_int q hc.ok
def DF:R2:=λx y H Q=>∃l k,x=SV l/\y=.int k/\(k=0\/k=1)/\l≠[]/\l.length<=1000000/\Q (SV (bX k.toNat l).flatten) H
theorem DG:gi X (binaryOp .Mult) DF:=by
 intro ae s σ H x y v u Q I rx ry h;obtain⟨l,k,rfl,rfl,hk,iQ,hz,q⟩:=h;obtain⟨t,rfl⟩:=rx;obtain⟨t',rfl⟩:=ry;have len:=fH l;have hsz:=sizeLine_eq;have aae:0<l.length:=List.length_pos_iff.mpr iQ;refine PySem.P.mul_str (by rw[decide_eq_false (by omega),decide_eq_false (by omega)];rfl) (λhn _=>?_) (λ_ _=>?_) ?_
 ·intro Sb
  rw[len]at Sb;rcases hk with rfl|rfl<;>omega
 ·rw[len]
  unfold Builtin.Str.tooLong;exact decide_eq_false (by rcases hk with rfl|rfl<;>simp<;>omega)
 ·rcases hk with rfl|rfl
  ·rw[if_pos (by omega)]
   exact⟨by show 0<=_;omega,⟨SV [],H,I.tok _,⟨_,rfl⟩,q⟩⟩
  ·rw[if_neg (by omega),if_pos (by simp)]
   have e:(bX (Int.toNat 1) l).flatten=l:=by simp
   rw[e]at q;exact⟨SV l,H,I,⟨_,rfl⟩,q⟩
def K7:R2:=λx y H Q=>rI zb (λi j=>.int (i*j)) x y H Q\/Q9 x y H Q\/DF x y H Q
theorem HJ:gi X (binaryOp .Mult) K7:=HH.or (C9.or DG)
def K8:T->T->FR
 |.int i,.int j=>HA (.int i) (.int j)
 |.lst a,.int k=>HA (.lst a) (.int k)
 |.str l,.int k=>gd ((k=0\/k=1)/\l≠[]/\l.length<=1000000) (.str (bX k.toNat l).flatten)
 |_,_=>none
theorem Sd:qp X K8 K7:=λB hB al HF H x y t tx ty Q sm rx ry h k=>by
 cases tx<;>first|(cases h;done)|(cases ty<;>first|(cases h;done)|skip)
 ·obtain⟨c,rfl⟩:=aT h
  exact .inl ⟨_,_,rx,ry,c,k _ HF H (.refl sm) rfl⟩
 ·obtain⟨c,rfl⟩:=aT h
  obtain⟨rfl,_⟩:=rx;refine .inr (.inr ⟨_,_,rfl,ry,c.1,c.2.1,c.2.2,k _ HF H (.refl sm) ⟨rfl,?_⟩⟩);rcases c.1 with e|e
  ·rw[e];simp
  ·rw[e];simpa using c.2.2
 ·obtain⟨c,rfl⟩:=aT h
  obtain⟨l,xs,rfl,q,r⟩:=rx;refine .inr (.inl ⟨l,_,xs,rfl,ry,sm _ _ q,by omega,by omega,by rw[<- r.len,sizeLine_eq];omega,λp hp=>?_⟩)
  exact k _ _ _ (Gr.new sm hp) ⟨p,_,rfl,ah,(r.flat _).same (aS (sm.free hp))⟩
def fY:Operator->T->T->FR
 |.Add=>RK
 |.Sub=>RL
 |.Mult=>K8
 |.FloorDiv=>MW
 |.Mod=>MX
 |.Pow=>RM
 |_=>λ_ _=>none
theorem Se(hB:B.K=X.K)(op:Operator)(ha:PE X a (tE B fa))(hb:PE X b (tE B fb)):PE X (.BinOp a op b pos) (tE B (bB (fY op) fa fb)):=by
 have no:∀f:T->T->FR,(∀x y,f x y=none)->PE X (.BinOp a op b pos) (tE B (bB f fa fb)):=λf hf _ _ _ _ _ _ z=>by
  obtain⟨_,_,_,_,_,h,_⟩:=z;obtain⟨⟨tx,s1⟩,h1,h⟩:=aa h;obtain⟨⟨ty,s2⟩,h2,h⟩:=aa h;obtain⟨t',h3,h⟩:=aa h;rw[hf]at h3;cases h3
 cases op
 case Add=>exact aM (lW HG ha hb) (i_ hB R6)
 case Sub=>exact aM (lW Mu ha hb) (i_ hB R8)
 case Mult=>exact aM (lW HJ ha hb) (i_ hB Sd)
 case FloorDiv=>exact aM (lW G6 ha hb) (i_ hB R9)
 case Mod=>exact aM (lW Mv ha hb) (i_ hB R_)
 case Pow=>exact aM (lW Mw ha hb) (i_ hB Sa)
 all_goals exact no _ λ_ _=>rfl
theorem Sf(hB:B.K=X.K)(ha:PE X a (tE B fa)):PE X (.UnaryOp .USub a pos) (tE B (cu gT fa)):=
 aM (QD Mx ha) (Dz hB λB hB al HF H x t tx Q sm rx h k=>by
  cases tx<;>first|(cases h;done)|skip
  cases h;exact⟨_,rx,k _ HF H (.refl sm) rfl⟩)
end
section
theorem dZ{B:KT}{al:BM}{H:Hp}{t:T}{v:V}(h:Rep B al H t v)(f:bo t=true):eE v=true:=by
 cases t with
 |non=>cases(show v=.non from h);rfl
 |bl b=>cases(show v=.bl b from h);rfl
 |int i=>cases(show v=.int i from h);rfl
 |str l=>obtain⟨rfl,_⟩:=h;rfl
 |tup _=>cases f
 |lst _=>cases f
 |scr _=>cases f
 |obj _ _=>cases f
 |own _=>cases f
 |du _ _=>cases f
theorem str_beq(l m:B1):((⟨l.toArray⟩:Str) == ⟨m.toArray⟩)=decide (l=m):=by
 by_cases h:l=m
 ·subst h;simp
 ·rw[decide_eq_false h,beq_eq_false_iff_ne]
  intro e;injection e with e
  exact h (by simpa using e)
theorem kB{B:KT}{al:BM}{H:Hp}{t u:T}{v w:V}(h:Rep B al H t v)(h':Rep B al H u w)(f:bo t=true)(f':bo u=true):C4 v w=eqT t u:=by
 cases t with
 |tup _=>cases f
 |lst _=>cases f
 |scr _=>cases f
 |obj _ _=>cases f
 |own _=>cases f
 |du _ _=>cases f
 |non=>
  cases(show v=.non from h);cases u with
  |tup _=>cases f'
  |lst _=>cases f'
  |scr _=>cases f'
  |obj _ _=>cases f'
  |own _=>cases f'
  |du _ _=>cases f'
  |non=>cases(show w=.non from h');rfl
  |bl b=>cases(show w=.bl b from h');rfl
  |int i=>cases(show w=.int i from h');rfl
  |str l=>obtain⟨rfl,_⟩:=h';rfl
 |bl b0=>
  cases(show v=.bl b0 from h);cases u with
  |tup _=>cases f'
  |lst _=>cases f'
  |scr _=>cases f'
  |obj _ _=>cases f'
  |own _=>cases f'
  |du _ _=>cases f'
  |non=>cases(show w=.non from h');rfl
  |bl b=>cases(show w=.bl b from h');rfl
  |int i=>
   cases(show w=.int i from h');show((if b0 then 1 else 0) == i)=decide ((if b0 then 1 else 0:Int)=i)
   rw[Cj]
  |str l=>obtain⟨rfl,_⟩:=h';rfl
 |int i0=>
  cases(show v=.int i0 from h);cases u with
  |tup _=>cases f'
  |lst _=>cases f'
  |scr _=>cases f'
  |obj _ _=>cases f'
  |own _=>cases f'
  |du _ _=>cases f'
  |non=>cases(show w=.non from h');rfl
  |bl b=>
   cases(show w=.bl b from h');show(i0 == (if b then 1 else 0))=decide (i0=(if b then 1 else 0:Int))
   rw[Cj]
  |int i=>
   cases(show w=.int i from h');show(i0 == i)=decide (i0=i);rw[Cj]
  |str l=>obtain⟨rfl,_⟩:=h';rfl
 |str l0=>
  obtain⟨rfl,_⟩:=h;cases u with
  |tup _=>cases f'
  |lst _=>cases f'
  |scr _=>cases f'
  |obj _ _=>cases f'
  |own _=>cases f'
  |du _ _=>cases f'
  |non=>cases(show w=.non from h');rfl
  |bl b=>cases(show w=.bl b from h');rfl
  |int i=>cases(show w=.int i from h');rfl
  |str l=>obtain⟨rfl,_⟩:=h';exact str_beq _ _
theorem kC{ae:dm}{σ:St}{H HF:Hp}{s:Shared}{a:Addr}{vs:List V}(I:Inv X ae σ H s)(sm:aL HF H)(h:lV X.K HF a vs):∃its:B2,Vals vs its/\s.heap.IsTuple a its.toArray:=by
 obtain⟨its,r,ht,hz⟩:=I.tuple (xs:=vs) (bW sm h);exact⟨its,r,ht⟩
theorem kD{ae:dm}{σ:St}{H HF:Hp}{s:Shared}{a:Addr}{vs:List V}(I:Inv X ae σ H s)(sm:aL HF H)(h:HF a=some (.lst vs)):∃its:B2,Vals vs its/\s.heap.IsList a its.toArray:=by
 obtain⟨its,r,p,hz⟩:=I.list (df.of (sm _ _ h));exact⟨its,r,p.isList⟩
theorem DH{v:V}(f:eE v=true):C4 v v=true:=by
 cases v<;>first|(cases f;done)|rfl|(show(_ == _)=true;exact beq_self_eq_true _)
theorem lH{n:Nat}{ks:List Ky}{ts:FK}{u:T}(h:shape (n+1) (.du ks ts) u=true):ks=[]/\ts=[]/\u=.du [] []:=by
 cases ks<;>cases ts<;>cases u<;>first|(cases h;done)|(rename_i ls us;cases ls<;>cases us<;>first|(cases h;done)|exact⟨rfl,rfl,rfl⟩)
theorem kE{P P':Program}{w w':World}{h:Heap}{a:Addr}(d:h.DictOf (bx P w) a []):h.DictOf (bx P' w') a []:=by
 obtain⟨o,es,ep,h1,h2,h3,h4,h5,h6⟩:=d;obtain⟨l⟩:=es;cases l with
 |nil=>exact⟨o,_,ep,h1,h2,h3,λe he=>by simp at he,.nil,h6⟩
 |cons x l=>cases h5
theorem DI{ae:dm}{σ:St}{H HF:Hp}{s:Shared}{A:Around}{a b:Addr}(I:Inv X ae σ H s)(sm:aL HF H)(q:HF a=some (.dK []))(q':HF b=some (.dK []))(hu:A.units<cLine):SeqAt.RcAt A s (.ref a) (.ref b) true/\SeqAt.RcNeAt A s (.ref a) (.ref b) false:=by
 obtain⟨_,s1,vs,k1,d1⟩:=(show b7 X.prog X.w H s.heap a (.dK [])from I.ba a _ (sm _ _ q));obtain⟨_,s2,ws,k2,d2⟩:=(show b7 X.prog X.w H s.heap b (.dK [])from I.ba b _ (sm _ _ q'));cases k1;cases k2;exact⟨λP w E Q h=>PySem.W.keq_eq s1 s2 (kE d1) (kE d2) hu (λ_=>.nil) h,λP w E Q h=>PySem.W.keq_ne s1 s2 (kE d1) (kE d2) hu (λ_=>.nil) h⟩
theorem DJ(t u:T):shape 0 t u=(bo t&&bo u):=rfl
theorem zc{al:BM}(hB:B.K=X.K){ae:dm}{σ:St}{H HF:Hp}{s:Shared}(I:Inv X ae σ H s)(sm:aL HF H)(n:Nat):∀{t u:T}{v:V},Rep B al HF t v->Rep B al HF u v->shape n t u=true->eqT t u=true:=by
 have flat:∀{t u:T}{v:V},Rep B al HF t v->Rep B al HF u v->(bo t&&bo u)=true->eqT t u=true:=λh h' f=>by
  obtain⟨f1,f2⟩:=wN.mp f;rw[<- kB h h' f1 f2];exact DH (dZ h f1)
 induction n with
 |zero=>exact λ{t u v} h h' sh=>flat h h' ((DJ t u).symm.trans sh)
 |succ n ih=>
  intro t u v h h' sh;have items:∀{ts us:FK}{vs:List V},aA B al HF ts vs->aA B al HF us vs->all2 (shape n) ts us=true->i8 ts us=true:=by
   intro ts
   induction ts with
   |nil=>intro us vs h h' _;cases(show vs=[]from h);cases us with
    |nil=>rfl
    |cons u us=>obtain⟨_,_,e,_⟩:=h';cases e
   |cons t ts iht=>intro us vs h h' sh;cases us with
    |nil=>obtain⟨_,_,e,_⟩:=h;cases(show vs=[]from h');cases e
    |cons u us=>
     obtain⟨v,r,rfl,h1,h2⟩:=h;obtain⟨v',r',e,Sh,GO⟩:=h';cases e;obtain⟨sh1,sh2⟩:=wN.mp (show(shape n t u&&all2 (shape n) ts us)=true from sh);show(eqT t u&&i8 ts us)=true;rw[ih h1 Sh sh1,iht h2 GO sh2];rfl
  cases t with
  |tup ts=>
   cases u with
   |tup us=>
    obtain⟨a,vs,rfl,q,r⟩:=h;obtain⟨a',gn,e,q',r'⟩:=h';cases e;have ev:=I.qD (bW sm (hB▸q)) (bW sm (hB▸q'));subst ev;exact items r r' sh
   |_=>exact flat h h' sh
  |lst ts=>
   cases u with
   |lst us=>
    obtain⟨a,vs,rfl,q,r⟩:=h;obtain⟨a',gn,e,q',r'⟩:=h';cases e;rw[q]at q';cases q';exact items r r' sh
   |_=>exact flat h h' sh
  |du ks ts=>
   obtain⟨rfl,rfl,rfl⟩:=lH sh;rfl
  |_=>exact flat h h' (by cases u<;>exact sh)
theorem uO{p:T->T->Bool}:∀{as bs:FK},all2 p as bs=true->∀{j:Nat}{a b:T},as[j]?=some a->bs[j]?=some b->p a b=true
 |a::as,b::bs,h,0,_,_,e1,e2=>by
  simp at e1 e2;subst e1 e2;exact(wN.mp h).1
 |a::as,b::bs,h,j+1,_,_,e1,e2=>uO (wN.mp h).2 (j:=j) (by simpa using e1) (by simpa using e2)
 |[],_,_,_,_,_,e1,_=>by simp at e1
 |_::_,[],_,_,_,_,_,e2=>by simp at e2
theorem fZ:∀(xs ys:FK),((b9 (min xs.length ys.length)).all (λj=>eqT (xs.getD j .non) (ys.getD j .non))&&xs.length == ys.length)=i8 xs ys
 |[],[]=>rfl
 |[],_::_=>by simp[i8]
 |_::_,[]=>by simp[i8]
 |x::xs,y::ys=>by
  have ih:=fZ xs ys;rw[dP,dP,Nat.succ_min_succ,B8,fF,JY];have e:(xs.length+1 == ys.length+1)=(xs.length == ys.length):=by
   by_cases h:xs.length=ys.length<;>simp[h]
  rw[e];show((eqT x y&&(b9 (min xs.length ys.length)).all λj=>eqT (xs.getD j .non) (ys.getD j .non))&&_)=(eqT x y&&i8 xs ys);rw[<- ih,Bool.and_assoc]
theorem oz:∀{xs ys:FK},xs.length≠ys.length->i8 xs ys=false
 |[],[],h=>absurd rfl h
 |[],_::_,_=>rfl
 |_::_,[],_=>rfl
 |x::xs,y::ys,h=>by
  show(eqT x y&&i8 xs ys)=false;rw[oz (λe=>h (by simp[e])),Kl]
theorem in1_units(A:Around):A.in1.units=A.units+1:=rfl
theorem kF{al:BM}{HF:Hp}{A:Around}{s:Shared}{ts us:FK}{vs ws:List V}{its its':B2}{n:Nat}(r:aA B al HF ts vs)(r':aA B al HF us ws)(rv:Vals vs its)(zd:Vals ws its')(sh:all2 (shape n) ts us=true)
  (ih:∀{t u:T}{v w:V}{x y:Value},Rep B al HF t v->Rep B al HF u w->RelV v x->RelV w y->shape n t u=true->SeqAt.EqAt A s x y (eqT t u)) :
  ∀j(h1:j<its.toArray.size)(h2:j<its'.toArray.size),SeqAt.EqAt A s its.toArray[j] its'.toArray[j] ((λj=>eqT (ts.getD j .non) (us.getD j .non)) j):=by
 intro j h1 h2;have l1:=rv.length;have l2:=zd.length;have l3:=r.len;have l4:=r'.len;have Sh:j<ts.length:=by rw[l3,l1];simpa using h1
 have GO:j<us.length:=by rw[l4,l2];simpa using h2
 obtain⟨v,e1,q1⟩:=r.get (cj Sh);obtain⟨w,e2,q2⟩:=r'.get (cj GO);obtain⟨x,e3,q3⟩:=rv.get e1;obtain⟨y,e4,q4⟩:=zd.get e2;have q5:its.toArray[j]=x:=by
  obtain⟨_,z⟩:=eA.mp e3;simpa using z
 have q6:its'.toArray[j]=y:=by
  obtain⟨_,z⟩:=eA.mp e4;simpa using z
 rw[q5,q6];have g1:ts.getD j .non=ts[j]:=by rw[j6,cj Sh];rfl
 have g2:us.getD j .non=us[j]:=by rw[j6,cj GO];rfl
 show SeqAt.EqAt A s x y (eqT (ts.getD j .non) (us.getD j .non));rw[g1,g2];exact ih q1 q2 q3 q4 (uO sh (cj Sh) (cj GO))
theorem HK{al:BM}(hB:B.K=X.K){ae:dm}{σ:St}{H HF:Hp}{s:Shared}(I:Inv X ae σ H s)(sm:aL HF H)(n:Nat):∀(A:Around){t u:T}{v w:V}{x y:Value},A.units+n<cLine->Rep B al HF t v->Rep B al HF u w->RelV v x->RelV w y->shape n t u=true->SeqAt.EqAt A s x y (eqT t u):=by
 induction n with
 |zero=>
  intro A t u v w x y hu rt ru rx ry sh;have sh:=(DJ t u).symm.trans sh;obtain⟨f1,f2⟩:=wN.mp sh;rw[<- kB rt ru f1 f2];exact xy rx ry (dZ rt f1) (dZ ru f2)
 |succ n ih=>
  intro A t u v w x y hu rt ru rx ry sh;have flat:(bo t&&bo u)=true->SeqAt.EqAt A s x y (eqT t u):=λsh=>by
   obtain⟨f1,f2⟩:=wN.mp sh;rw[<- kB rt ru f1 f2];exact xy rx ry (dZ rt f1) (dZ ru f2)
  cases t with
  |tup ts=>
   cases u with
   |tup us=>
    obtain⟨a,vs,rfl,q,r⟩:=id rt;obtain⟨b,ws,rfl,q',r'⟩:=id ru;cases rx;cases ry;by_cases hab:a=b
    ·subst hab
     rw[zc hB I sm (n+1) rt ru sh];exact SeqAt.EqAt.same _
    obtain⟨its,rv,ht⟩:=kC I sm (hB▸q);obtain⟨its',zd,BJ⟩:=kC I sm (hB▸q');have z:=SeqAt.RcAt.tuples ht BJ (yJ (wR _ _) hu) (kF (A:=A.in1) r r' rv zd sh (λa b c d e=>ih A.in1 (by rw[in1_units];omega) a b c d e))
    rw[b_,b_,<- rv.length,<- zd.length,<- r.len,<- r'.len,fZ]at z;exact .of_refs hab z
   |_=>exact flat sh
  |lst ts=>
   cases u with
   |lst us=>
    obtain⟨a,vs,rfl,q,r⟩:=id rt;obtain⟨b,ws,rfl,q',r'⟩:=id ru;cases rx;cases ry;by_cases hab:a=b
    ·subst hab
     rw[zc hB I sm (n+1) rt ru sh];exact SeqAt.EqAt.same _
    obtain⟨its,rv,ht⟩:=kD I sm q;obtain⟨its',zd,BJ⟩:=kD I sm q';have l1:=rv.length;have l2:=zd.length;have l3:=r.len;have l4:=r'.len;by_cases hsz:ts.length=us.length
    ·have z:=SeqAt.RcAt.lists ht BJ (by rw[b_,b_];omega) (yJ (wR _ _) hu) (kF (A:=A.in1) r r' rv zd sh (λa b c d e=>ih A.in1 (by rw[in1_units];omega) a b c d e))
     have e:=fZ ts us;rw[<- hsz,Kq,beq_self_eq_true,yG]at e;rw[b_,<- l1,<- l3,e]at z;exact .of_refs hab z
    ·have z:=SeqAt.RcAt.lists_lengths (s:=s) (A:=A) ht BJ (by rw[b_,b_,bne_iff_ne];omega) (yJ (wR _ _) hu)
     rw[<- oz hsz]at z;exact .of_refs hab z
   |_=>exact flat sh
  |du ks ts=>
   obtain⟨rfl,rfl,rfl⟩:=lH sh;obtain⟨a,vs,rfl,q,_,r⟩:=rt;obtain⟨b,ws,rfl,q',_,r'⟩:=ru;cases(show vs=[]from r);cases(show ws=[]from r');cases rx;cases ry;by_cases hab:a=b
   ·subst hab
    exact SeqAt.EqAt.same _
   ·exact .of_refs hab (DI I sm q q' (yJ (wR _ _) hu)).1
  |_=>exact flat (by cases u<;>exact sh)
theorem HL{al:BM}{HF:Hp}{A:Around}{s:Shared}{t u:T}{v w:V}{x y:Value}(rt:Rep B al HF t v)(ru:Rep B al HF u w)(rx:RelV v x)(ry:RelV w y)(f1:bo t=true)(f2:bo u=true):SeqAt.RcAt A s x y (eqT t u)/\SeqAt.RcNeAt A s x y (!eqT t u):=by
 rw[<- kB rt ru f1 f2];have g1:=dZ rt f1;have g2:=dZ ru f2;cases v with
 |non=>
  cases rx;cases w with
  |non=>cases ry;exact⟨SeqAt.RcAt.none_none,SeqAt.RcNeAt.none_none⟩
  |bl b=>cases ry;exact⟨SeqAt.RcAt.none_bool b,SeqAt.RcNeAt.none_bool b⟩
  |int b=>obtain⟨t,rfl⟩:=ry;exact⟨SeqAt.RcAt.none_int b t,SeqAt.RcNeAt.none_int b t⟩
  |str b=>obtain⟨t,rfl⟩:=ry;exact⟨SeqAt.RcAt.none_str b t,SeqAt.RcNeAt.none_str b t⟩
  |_=>exact absurd (show false=true from g2) dC
 |bl a=>
  cases rx;cases w with
  |non=>cases ry;exact⟨SeqAt.RcAt.bool_none a,SeqAt.RcNeAt.bool_none a⟩
  |bl b=>cases ry;exact⟨SeqAt.RcAt.bool_bool a b,SeqAt.RcNeAt.bool_bool a b⟩
  |int b=>obtain⟨t,rfl⟩:=ry;exact⟨SeqAt.RcAt.bool_int a b t,SeqAt.RcNeAt.bool_int a b t⟩
  |str b=>obtain⟨t,rfl⟩:=ry;exact⟨SeqAt.RcAt.bool_str a b t,SeqAt.RcNeAt.bool_str a b t⟩
  |_=>exact absurd (show false=true from g2) dC
 |int a=>
  obtain⟨t',rfl⟩:=rx;cases w with
  |non=>cases ry;exact⟨SeqAt.RcAt.int_none a t',SeqAt.RcNeAt.int_none a t'⟩
  |bl b=>cases ry;exact⟨SeqAt.RcAt.int_bool a t' b,SeqAt.RcNeAt.int_bool a t' b⟩
  |int b=>obtain⟨t,rfl⟩:=ry;exact⟨SeqAt.RcAt.int_int a t' b t,SeqAt.RcNeAt.int_int a t' b t⟩
  |str b=>obtain⟨t,rfl⟩:=ry;exact⟨SeqAt.RcAt.int_str a t' b t,SeqAt.RcNeAt.int_str a t' b t⟩
  |_=>exact absurd (show false=true from g2) dC
 |str a=>
  obtain⟨t',rfl⟩:=rx;cases w with
  |non=>cases ry;exact⟨SeqAt.RcAt.str_none a t',SeqAt.RcNeAt.str_none a t'⟩
  |bl b=>cases ry;exact⟨SeqAt.RcAt.str_bool a t' b,SeqAt.RcNeAt.str_bool a t' b⟩
  |int b=>obtain⟨t,rfl⟩:=ry;exact⟨SeqAt.RcAt.str_int a t' b t,SeqAt.RcNeAt.str_int a t' b t⟩
  |str b=>obtain⟨t,rfl⟩:=ry;exact⟨SeqAt.RcAt.str_str a t' b t,SeqAt.RcNeAt.str_str a t' b t⟩
  |_=>exact absurd (show false=true from g2) dC
 |_=>exact absurd (show false=true from g1) dC
theorem DK{al:BM}(hB:B.K=X.K){ae:dm}{σ:St}{H HF:Hp}{s:Shared}(I:Inv X ae σ H s)(sm:aL HF H)(A:Around){t u:T}{v w:V}{x y:Value}(hu:A.units+6<cLine)(rt:Rep B al HF t v)(ru:Rep B al HF u w)(rx:RelV v x)(ry:RelV w y)(sh:shape 5 t u=true) :
  SeqAt.RcAt A s x y (eqT t u)/\SeqAt.RcNeAt A s x y (!eqT t u):=by
 have flat:(bo t&&bo u)=true->SeqAt.RcAt A s x y (eqT t u)/\SeqAt.RcNeAt A s x y (!eqT t u):=λsh=>by
  obtain⟨f1,f2⟩:=wN.mp sh;exact HL rt ru rx ry f1 f2
 have DL:A.units<cLine:=by omega
 have dp:=λ{t u:T} {v w:V} {x y:Value} (a:Rep B al HF t v) (b:Rep B al HF u w) (c:RelV v x) (d:RelV w y) (e:shape 4 t u=true)=>HK hB I sm 4 A.in1 (by rw[in1_units];omega) a b c d e
 cases t with
 |tup ts=>
  cases u with
  |tup us=>
   obtain⟨a,vs,rfl,q,r⟩:=id rt;obtain⟨b,ws,rfl,q',r'⟩:=id ru;cases rx;cases ry;obtain⟨its,rv,ht⟩:=kC I sm (hB▸q);obtain⟨its',zd,BJ⟩:=kC I sm (hB▸q');have it:=kF (A:=A.in1) (s:=s) r r' rv zd sh dp;have z:=SeqAt.RcAt.tuples ht BJ DL it;have z2:=SeqAt.RcNeAt.tuples ht BJ DL it;rw[b_,b_,<- rv.length,<- zd.length,<- r.len,<- r'.len,fZ]at z z2;exact⟨z,z2⟩
  |_=>exact flat sh
 |lst ts=>
  cases u with
  |lst us=>
   obtain⟨a,vs,rfl,q,r⟩:=id rt;obtain⟨b,ws,rfl,q',r'⟩:=id ru;cases rx;cases ry;obtain⟨its,rv,ht⟩:=kD I sm q;obtain⟨its',zd,BJ⟩:=kD I sm q';have l1:=rv.length;have l2:=zd.length;have l3:=r.len;have l4:=r'.len;by_cases hsz:ts.length=us.length
   ·have it:=kF (A:=A.in1) (s:=s) r r' rv zd sh dp
    have hs:its.toArray.size=its'.toArray.size:=by rw[b_,b_];omega
    have z:=SeqAt.RcAt.lists ht BJ hs DL it;have z2:=SeqAt.RcNeAt.lists ht BJ hs DL it;have e:=fZ ts us;rw[<- hsz,Kq,beq_self_eq_true,yG]at e;rw[b_,<- l1,<- l3,e]at z z2;exact⟨z,z2⟩
   ·have hs:(its.toArray.size != its'.toArray.size)=true:=by rw[b_,b_,bne_iff_ne];omega
    have z:=SeqAt.RcAt.lists_lengths (s:=s) (A:=A) ht BJ hs DL;have z2:=SeqAt.RcNeAt.lists_lengths (s:=s) (A:=A) ht BJ hs DL;have e:eqT (.lst ts) (.lst us)=false:=oz hsz;rw[e];exact⟨z,z2⟩
  |_=>exact flat sh
 |du ks ts=>
  obtain⟨rfl,rfl,rfl⟩:=lH sh;obtain⟨a,vs,rfl,q,_,r⟩:=rt;obtain⟨b,ws,rfl,q',_,r'⟩:=ru;cases(show vs=[]from r);cases(show ws=[]from r');cases rx;cases ry;exact DI I sm q q' DL
 |_=>exact flat (by cases u<;>exact sh)
theorem Na(hu:X.A.units+6<cLine):gi X (compareOp .Eq) (λx y H Q=>∃B al HF t u,B.K=X.K/\aL HF H/\Rep B al HF t x/\Rep B al HF u y/\shape 5 t u=true/\Q (.bl (eqT t u)) H):=by
 intro ae s σ H x y v u Q I rx ry h;obtain⟨B,al,HF,t,u',hB,sm,rt,ru,sh,q⟩:=h;exact(DK hB I sm X.A hu rt ru rx ry sh).1 _ _ _ _ (iU I q rfl)
theorem Nb(hu:X.A.units+6<cLine):gi X (compareOp .NotEq) (λx y H Q=>∃B al HF t u,B.K=X.K/\aL HF H/\Rep B al HF t x/\Rep B al HF u y/\shape 5 t u=true/\Q (.bl (!eqT t u)) H):=by
 intro ae s σ H x y v u Q I rx ry h;obtain⟨B,al,HF,t,u',hB,sm,rt,ru,sh,q⟩:=h;exact(DK hB I sm X.A hu rt ru rx ry sh).2 _ _ _ _ (iU I q rfl)
theorem DM:gi X (compareOp .Is) (λx y H Q=>∃a b,x=.bl a/\y=.bl b/\Q (.bl (a == b)) H):=by
 intro ae s σ H x y v u Q I rx ry h;obtain⟨a,b,rfl,rfl,q⟩:=h;cases rx;cases ry;exact PyProof.Rows.is_bool (iU I q rfl)
theorem uP{B:KT}{al:BM}{H:Hp}:∀{ts:FK}{vs:List V},aA B al H ts vs->ts.all bo=true->vs.all eE=true
 |[],_,h,_=>by cases(show _=[]from h);rfl
 |t::ts,_,h,f=>by
  obtain⟨v,r,rfl,h1,h2⟩:=h;rw[fF,dc]at f;rw[fF,dZ h1 f.1,uP h2 f.2];rfl
theorem any_eq{B:KT}{al:BM}{H:Hp}{x:T}{xv:V}(hx:Rep B al H x xv)(fx:bo x=true):∀{ts:FK}{vs:List V},aA B al H ts vs->ts.all bo=true->(vs.any λy=>C4 y xv)=ts.any λy=>eqT y x
 |[],_,h,_=>by cases(show _=[]from h);rfl
 |t::ts,_,h,f=>by
  obtain⟨v,r,rfl,h1,h2⟩:=h;rw[fF,dc]at f;rw[nB,nB,kB h1 hx f.1 fx,any_eq hx fx h2 f.2]
theorem xH{α:Type}(xs:List α)(i:Int):atT xs i=C3 xs i:=by
 unfold atT C3 Hh;by_cases h0:0<=i
 ·rw[if_pos h0,if_pos h0]
  by_cases h1:i<xs.length
  ·rw[if_pos h1,if_pos h1];rfl
  ·rw[if_neg h1,if_neg h1];rfl
 ·rw[if_neg h0,if_neg h0]
  by_cases h1:-(xs.length:Int)<=i
  ·rw[if_pos h1,if_pos h1];rfl
  ·rw[if_neg h1,if_neg h1];rfl
theorem sF{B:KT}{al:BM}{H:Hp}{ts:FK}{vs:List V}{i:Int}{t:T}(r:aA B al H ts vs)(h:atT ts i=some t):∃v,C3 vs i=some v/\Rep B al H t v:=by
 rw[xH]at h;unfold C3 at h ⊢;rw[<- r.len];cases e:Hh ts.length i with
 |none=>rw[e]at h;cases h
 |some j=>
  rw[e]at h;exact r.get h
end
section
variable{p2:Pos}{Xh Xi:FO}{Xj Xk:Option Expr}
def Nc:T->Bool
 |.non=>true
 |_=>false
theorem DN{al:BM}{H:Hp}{t:T}{v:V}(h:Rep B al H t v):decide (v=.non)=Nc t:=by
 cases t with
 |non=>cases(show v=.non from h);rfl
 |bl b=>cases(show v=.bl b from h);rfl
 |int i=>cases(show v=.int i from h);rfl
 |str l=>obtain⟨rfl,_⟩:=h;rfl
 |tup ts=>obtain⟨a,vs,rfl,_⟩:=h;rfl
 |lst ts=>obtain⟨a,vs,rfl,_⟩:=h;rfl
 |scr ts=>obtain⟨a,rfl,_⟩:=h;rfl
 |obj _ _=>obtain⟨a,_,_,_,_,rfl,_⟩:=h;rfl
 |own _=>obtain⟨a,rfl,_⟩:=h;rfl
 |du _ _=>obtain⟨a,xs,rfl,_⟩:=h;rfl
def rIs:R2:=λx y H Q=>(y=.non/\Q (.bl (decide (x=.non))) H)\/∃a b,x=.bl a/\y=.bl b/\Q (.bl (a == b)) H
def Xl:R2:=λx y H Q=>(y=.non/\Q (.bl (!decide (x=.non))) H)\/∃a b,x=.bl a/\y=.bl b/\Q (.bl (a != b)) H
theorem HM{tx ty t:T}(h:W_ tx ty=some t):(ty=.non/\t=.bl (Nc tx))\/∃a b,tx=.bl a/\ty=.bl b/\t=.bl (a == b):=by
 cases tx<;>cases ty<;>first|(cases h;done)|(cases h;exact .inl ⟨rfl,rfl⟩)|(cases h;exact .inr ⟨_,_,rfl,rfl,rfl⟩)
theorem DO{tx ty t:T}(h:MY tx ty=some t):(ty=.non/\t=.bl (!Nc tx))\/∃a b,tx=.bl a/\ty=.bl b/\t=.bl (a != b):=by
 cases tx<;>cases ty<;>first|(cases h;done)|(cases h;exact .inl ⟨rfl,rfl⟩)|(cases h;exact .inr ⟨_,_,rfl,rfl,rfl⟩)
theorem Xm:qp X W_ rIs:=λB hB al HF H x y t tx ty Q sm rx ry h k=>by
 rcases HM h with⟨rfl,rfl⟩|⟨a,b,rfl,rfl,rfl⟩
 ·exact .inl ⟨ry,by rw[DN rx];exact k _ HF H (.refl sm) rfl⟩
 ·exact .inr ⟨a,b,rx,ry,k _ HF H (.refl sm) rfl⟩
theorem Si:qp X MY Xl:=λB hB al HF H x y t tx ty Q sm rx ry h k=>by
 rcases DO h with⟨rfl,rfl⟩|⟨a,b,rfl,rfl,rfl⟩
 ·exact .inl ⟨ry,by rw[DN rx];exact k _ HF H (.refl sm) rfl⟩
 ·exact .inr ⟨a,b,rx,ry,k _ HF H (.refl sm) rfl⟩
def uQ(K:bu)(neg:Bool):R2:=λx y H Q=>(∃i j,x=.str i/\y=.str j/\Q (.bl (if neg then(!(!(Builtin.Str.occurrences j i 0 j.length 1).isEmpty))else(!(Builtin.Str.occurrences j i 0 j.length 1).isEmpty))) H)\/Vq K neg x y H Q
theorem DP:gi X (compareOp .In) (uQ X.K false):=AL.or AU
theorem ze:gi X (compareOp .NotIn) (uQ X.K true):=rT.or r6
theorem HN{tx ty:T}{k:Bool}(h:MZ tx ty=some k):(∃c l,tx=.str [c]/\ty=.str l/\k=decide (c∈l))\/((∃ys,(ty=.tup ys\/ty=.lst ys)/\(bo tx=true/\ys.all bo=true)/\k=ys.any λy=>eqT y tx)):=by
 cases ty with
 |str l=>
  cases tx with
  |str m=>match m with
   |[]=>cases h
   |[c]=>cases h;exact .inl ⟨c,l,rfl,rfl,rfl⟩
   |_::_::_=>cases h
  |_=>cases h
 |tup ys=>
  have h:gd (bo tx=true/\ys.all bo=true) (ys.any λy=>eqT y tx)=some k:=by
   cases tx with
   |str m=>match m with
    |[]=>exact h
    |[c]=>exact h
    |_::_::_=>exact h
   |_=>exact h
  obtain⟨c,rfl⟩:=aT h;exact .inr ⟨ys,.inl rfl,c,rfl⟩
 |lst ys=>
  have h:gd (bo tx=true/\ys.all bo=true) (ys.any λy=>eqT y tx)=some k:=by
   cases tx with
   |str m=>match m with
    |[]=>exact h
    |[c]=>exact h
    |_::_::_=>exact h
   |_=>exact h
  obtain⟨c,rfl⟩:=aT h;exact .inr ⟨ys,.inr rfl,c,rfl⟩
 |_=>
  cases tx with
  |str m=>match m with
   |[]=>cases h
   |[c]=>cases h
   |_::_::_=>cases h
  |_=>cases h
theorem DQ{neg:Bool}{B:KT}(hB:B.K=X.K){al:BM}{HF H:Hp}{x y:V}{tx ty:T}{k:Bool}{Q:VK}(sm:aL HF H)(rx:Rep B al HF tx x)(ry:Rep B al HF ty y)(h:MZ tx ty=some k)(q:Q (.bl (if neg then !k else k)) H):uQ X.K neg x y H Q:=by
 rcases HN h with⟨c,l,rfl,rfl,rfl⟩|⟨ys,hy,⟨f1,f2⟩,rfl⟩
 ·obtain⟨rfl,_⟩:=rx
  obtain⟨rfl,_⟩:=ry;refine .inl ⟨_,_,rfl,rfl,?_⟩;have e:(!(Builtin.Str.occurrences ⟨l.toArray⟩ ⟨#[c]⟩ 0 (⟨l.toArray⟩:Str).length 1).isEmpty)=decide (c∈l):=StrLaws.found_one ..;have e':(!(Builtin.Str.occurrences (⟨l.toArray⟩:Str) ⟨[c].toArray⟩ 0 (⟨l.toArray⟩:Str).length 1).isEmpty)=decide (c∈l):=e;rw[e'];exact q
 ·right
  have main:∀a vs,y=.ref a->(df X.K H a vs\/lV X.K H a vs)->aA B al HF ys vs->Vq X.K neg x y H Q:=λa vs ey sq r=>by
   refine⟨a,vs,ey,sq,dZ rx f1,uP r f2,?_⟩;unfold Wq;rw[any_eq rx f1 r f2];exact q
  rcases hy with rfl|rfl
  ·obtain⟨a,vs,rfl,q1,r⟩:=ry
   exact main a vs rfl (.inr (hB▸bW sm q1)) r
  ·obtain⟨a,vs,rfl,q1,r⟩:=ry
   exact main a vs rfl (.inl (df.of (sm _ _ q1))) r
theorem Xn:qp X inD (uQ X.K false):=λB hB al HF H x y t tx ty Q sm rx ry h k=>by
 unfold inD at h;cases e:MZ tx ty with
 |none=>rw[e]at h;cases h
 |some d=>rw[e]at h;cases h;exact DQ hB sm rx ry e (k _ HF H (.refl sm) rfl)
theorem Sj:qp X M0 (uQ X.K true):=λB hB al HF H x y t tx ty Q sm rx ry h k=>by
 unfold M0 at h;cases e:MZ tx ty with
 |none=>rw[e]at h;cases h
 |some d=>rw[e]at h;cases h;exact DQ hB sm rx ry e (k _ HF H (.refl sm) rfl)
def Sk(X:Cx)(neg:Bool):R2:=λx y H Q=>∃B al HF t u,B.K=X.K/\aL HF H/\Rep B al HF t x/\Rep B al HF u y/\shape 5 t u=true/\Q (.bl (if neg then !eqT t u else eqT t u)) H
theorem Xo:qp X W8 (Sk X false):=λB hB al HF H x y t tx ty Q sm rx ry h k=>by
 obtain⟨c,rfl⟩:=aT h;exact⟨B,al,HF,tx,ty,hB,sm,rx,ry,c,k _ HF H (.refl sm) rfl⟩
theorem Xp:qp X W9 (Sk X true):=λB hB al HF H x y t tx ty Q sm rx ry h k=>by
 obtain⟨c,rfl⟩:=aT h;exact⟨B,al,HF,tx,ty,hB,sm,rx,ry,c,k _ HF H (.refl sm) rfl⟩
theorem zf(f:Int->Int->Bool):qp X (Dq f) (BG λi j=>.bl (f i j)):=R7 (G:=λi j=>.bl (f i j)) (λtx ty t h=>by
 cases tx<;>first | (cases h;done) | (cases ty<;>first | (cases h;done) | (cases h;exact⟨_,_,rfl,rfl,rfl⟩))) λ_ _ _ _ _=>rfl
def HP:CmpOp->T->T->FR
 |.Eq=>W8
 |.NotEq=>W9
 |.Lt=>Dq λi j=>decide (i<j)
 |.LtE=>Dq λi j=>decide (i<=j)
 |.Gt=>Dq λi j=>decide (j<i)
 |.GtE=>Dq λi j=>decide (j<=i)
 |.Is=>W_
 |.IsNot=>MY
 |.In=>inD
 |.NotIn=>M0
theorem Nd{op:CmpOp}{k:Nat}(hr:bH k X.A):∃r,gi X (compareOp op) r/\qp X (HP op) r:=by
 have hu:X.A.units+6<cLine:=by have:=hr.units;omega
 cases op
 case Eq=>exact⟨_,Na hu,Xo⟩
 case NotEq=>exact⟨_,Nb hu,Xp⟩
 case Lt=>exact⟨_,QH,zf _⟩
 case LtE=>exact⟨_,QI,zf _⟩
 case Gt=>exact⟨_,QJ,zf _⟩
 case GtE=>exact⟨_,QK,zf _⟩
 case Is=>exact⟨_,My.or DM,Xm⟩
 case IsNot=>exact⟨_,G7.or uC,Si⟩
 case In=>exact⟨_,DP,Xn⟩
 case NotIn=>exact⟨_,ze,Sj⟩
def bw(a:FE):FT:=λs=>(a s).bind λp=>(aY (M4 p.1)).bind λb=>.ok (b,p.2)
theorem DR{f:FE}{σ:St}{H:Hp}{Q:Bool->Hp->Prop}(h:tT B (bw f) σ H Q):tE B f σ H (λx H'=>∃k,x=.bl k/\Q k H'):=by
 obtain⟨g,s,t,s',x,h,k⟩:=h;obtain⟨⟨d,s1⟩,h1,h⟩:=aa h;obtain⟨d',h2,h⟩:=aa h;cases ng (aj h2);cases h;exact⟨g,s,_,s1,x,h1,λv g1 H1 p1 x1 r1=>⟨_,r1,k g1 H1 p1 x1⟩⟩
def gq:T->T->FR
 |.du _ _,_=>none
 |x,y=>xC x y
theorem DS{tx ty t:T}(h:gq tx ty=some t):∃i,ty=.int i/\((∃xs,(tx=.lst xs\/tx=.tup xs)/\atT xs i=some t)\/(∃l c,tx=.str l/\atT l i=some c/\t=.str [c])\/∃ns n,tx=.scr ns/\atT ns i=some n/\t=.int n):=by
 cases tx<;>first|(cases h;done)|(cases ty<;>first|(cases h;done)|skip)
 ·rename_i l i
  have h:(atT l i).map (λc=>T.str [c])=some t:=h;cases e:atT l i with
  |none=>rw[e]at h;cases h
  |some c=>rw[e]at h;cases h;exact⟨i,rfl,.inr (.inl ⟨l,c,rfl,e,rfl⟩)⟩
 ·exact⟨_,rfl,.inl ⟨_,.inr rfl,h⟩⟩
 ·exact⟨_,rfl,.inl ⟨_,.inl rfl,h⟩⟩
 ·rename_i l i
  have h:(atT l i).map T.int=some t:=h;cases e:atT l i with
  |none=>rw[e]at h;cases h
  |some c=>rw[e]at h;cases h;exact⟨i,rfl,.inr (.inr ⟨l,c,rfl,e,rfl⟩)⟩
theorem Nf{α β:Type}(f:α->β){l:List α}{i:Int}{c:α}(h:atT l i=some c):C3 (l.map f) i=some (f c):=by
 rw[xH]at h;unfold C3 at h ⊢;rw[cD];cases e:Hh l.length i with
 |none=>rw[e]at h;cases h
 |some j=>
  rw[e]at h;show(B0 f _)[j]?=_;rw[eG,show _[j]?=some c from h];rfl
theorem Xq:qp X gq (Zw X.K):=λB hB al HF H x y t tx ty Q sm rx ry h k=>by
 obtain⟨i,rfl,⟨xs,hx|hx,e⟩|⟨l,c,rfl,e,rfl⟩|⟨ns,n,rfl,e,rfl⟩⟩:=DS h
 ·subst hx
  obtain⟨p,vs,rfl,q,r⟩:=rx;obtain⟨v,e,rv⟩:=sF r e;exact .inl ⟨p,vs,_,v,rfl,ry,df.of (sm _ _ q),e,k v HF H (.refl sm) rv⟩
 ·subst hx
  obtain⟨p,vs,rfl,q,r⟩:=rx;obtain⟨v,e,rv⟩:=sF r e;exact .inr (.inl ⟨p,vs,_,v,rfl,ry,hB▸bW sm q,e,k v HF H (.refl sm) rv⟩)
 ·obtain⟨rfl,hz⟩:=rx
  refine .inr (.inr ⟨_,_,c,rfl,ry,Xg hz,?_,k _ HF H (.refl sm) ⟨rfl,by simp⟩⟩)
  rw[<- xH];exact e
 ·obtain⟨p,rfl,q⟩:=rx
  exact .inl ⟨p,_,_,.int n,rfl,ry,hB▸sm.seq q,Nf V.int e,k _ HF H (.refl sm) rfl⟩
theorem Ng(hB:B.K=X.K)(ha:PE X a (tE B fa))(hb:PE X b (tE B fb))(hs:ji b):PE X (.Subscript a b pos) (tE B (bB gq fa fb)):=aM (KQ ME ha hb hs) (i_ hB Xq)
end
end D
namespace L2
open PySem PySem.Spec PyProof.Rows
section
variable{X:Cx}
theorem qQ:∀(ls:Bi)(t:Nat),Vals (ls.map V.str) (strsFrom t ls)
 |[],_=>.nil
 |x::ls,t=>.cons ⟨_,rfl⟩ (qQ ls (t+1))
theorem DT:AS X "str.split" (λx vs H Q=>∃a b,x=.str a/\vs=[.str b]/\(b.length == 0)=false/\a.length<=sizeLine/\(Txt.split a b).length<=sizeLine/\∀l,H l=none->Q (.ref l) (upd H l (.lst ((Txt.split a b).map V.str)))):=by
 intro ae s σ H x vs v us Q I rx rv h;obtain⟨a,b,rfl,rfl,hb,ha,hz,q⟩:=h;obtain⟨t,rfl⟩:=rx;obtain⟨u,rfl,⟨t',rfl⟩⟩:=rv.one;unfold Txt.split at hz q;by_cases c1:(decide (a.length<b.length) ||decide (Builtin.Str.strKind a<Builtin.Str.strKind b))=true
 ·rw[if_pos c1]at hz q
  refine call_meets F.slot_str_split (typeIs_str s a t) F.entry_str_split (F.args_str_split_2 _ _) (meets_str_split_cannot_occur a b t t' c1) ?_;exact⟨.ref s.heap.objs.size,_,I.AV (t':=s.toks) (ys:=[V.str a]) (.cons ⟨_,rfl⟩ .nil) hz,rfl,q _ I.fresh⟩
 ·rw[if_neg c1]at hz q
  have Z8:(decide (a.length<b.length) ||decide (Builtin.Str.strKind a<Builtin.Str.strKind b))=false:=by
   rcases Km (decide (a.length<b.length) ||decide (Builtin.Str.strKind a<Builtin.Str.strKind b))with z|z
   ·exact absurd z c1
   ·exact z
  by_cases c2:(Builtin.Str.occurrences a b 0 a.length (a.length+1)).isEmpty=true
  ·rw[if_pos c2]at hz q
   refine call_meets F.slot_str_split (typeIs_str s a t) F.entry_str_split (F.args_str_split_2 _ _) (meets_str_split_not_found a b t t' Z8 hb c2) ?_;exact⟨.ref s.heap.objs.size,_,I.AV (t':=s.toks) (ys:=[V.str a]) (.cons ⟨_,rfl⟩ .nil) hz,rfl,q _ I.fresh⟩
  ·rw[if_neg c2]at hz q
   have c2':(Builtin.Str.occurrences a b 0 a.length (a.length+1)).isEmpty=false:=by
    rcases Km (Builtin.Str.occurrences a b 0 a.length (a.length+1)).isEmpty with z|z
    ·exact absurd z c2
    ·exact z
   refine call_meets F.slot_str_split (typeIs_str s a t) F.entry_str_split (F.args_str_split_2 _ _) (meets_str_split_sep a b t t' Z8 hb c2' ha hz) ?_;exact⟨.ref s.heap.objs.size,_,I.AV (qQ _ _) (by rw[cD];exact hz),rfl,q _ I.fresh⟩
end
section
variable{X:Cx}
theorem DU:AS X "str.find" (λx vs H Q=>∃a b,x=.str a/\vs=[.str b]/\Q (.int (Txt.find a b)) H):=by
 intro ae s σ H x vs v us Q I rx rv h;obtain⟨a,b,rfl,rfl,q⟩:=h;obtain⟨t,rfl⟩:=rx;obtain⟨u,rfl,⟨t',rfl⟩⟩:=rv.one;exact SC.find ⟨.int _,H,I.tok _,⟨_,rfl⟩,q⟩
end
end L2
namespace D
open PySem L2
variable{X:Cx}{env:Env}{a b c e o tg:Expr}{fa fb fc fo:FE}{fl:FL}{g g':G}{H H':Hp}{B:KT}{es:Bz}{cL dq p pos:Pos}{s s':S}{σ:St}{x y:Str}
section
variable{p2:Pos}{Xh Xi:FO}{Xj Xk:Option Expr}
theorem DV(lo hi:D2)(n:Nat):Builtin.Str.strSliceIndices lo hi 1 n=Builtin.Str.strSliceIndices (some ((D.gf n 0 lo:Nat):Int)) (some ((D.gf n n hi:Nat):Int)) 1 n:=by
 have c:∀v:Int,max 0 (min (if v<0 then v+(n:Int)else v) (n:Int))=((if v<0 then(v+(n:Int)).toNat else min v.toNat n:Nat):Int):=λv=>by
  by_cases hv:v<0
  ·rw[if_pos hv,if_pos hv];omega
  ·rw[if_neg hv,if_neg hv];omega
 have d:∀m:Nat,m<=n->max 0 (min (if((m:Nat):Int)<0 then((m:Nat):Int)+(n:Int)else((m:Nat):Int)) (n:Int))=((m:Nat):Int):=λm hm=>by
  rw[if_neg (by omega)];omega
 have l1:D.gf n 0 lo<=n:=by
  cases lo with
  |none=>exact iN _
  |some v=>show(if v<0 then(v+(n:Int)).toNat else min v.toNat n)<=n;split<;>omega
 have l2:D.gf n n hi<=n:=by
  cases hi with
  |none=>exact dj _
  |some v=>show(if v<0 then(v+(n:Int)).toNat else min v.toNat n)<=n;split<;>omega
 unfold Builtin.Str.strSliceIndices;simp only[show((1:Int) > 0)from by decide,if_true]
 rw[d _ l1,d _ l2]
 congr 1
 ·cases lo with
  |none=>rfl
  |some v=>exact c v
 ·cases hi with
  |none=>rfl
  |some v=>exact c v
theorem DW(n d:Nat)(hd:d<=n)(o:D2):D.gf n d o<=n:=by
 cases o with
 |none=>exact hd
 |some v=>show(if v<0 then(v+(n:Int)).toNat else min v.toNat n)<=n;split<;>omega
theorem cut_str(l:B1)(lo hi:D2):Txt.slice ⟨l.toArray⟩ lo hi=⟨(bg l lo hi).toArray⟩:=by
 have e0:Txt.slice ⟨l.toArray⟩ lo hi=StrLaws.sliceText ⟨l.toArray⟩ lo hi:=rfl;have e1:StrLaws.sliceText ⟨l.toArray⟩ lo hi=StrLaws.sliceText ⟨l.toArray⟩ (some ((D.gf l.length 0 lo:Nat):Int)) (some ((D.gf l.length l.length hi:Nat):Int)):=by
  unfold StrLaws.sliceText;rw[fH,DV]
 rw[e0,e1];have h2:=DW l.length l.length (dj _) hi;by_cases hab:D.gf l.length 0 lo<=D.gf l.length l.length hi
 ·rw[StrLaws.sliceText_nat _ hab (by rw[fH];exact h2)]
  rfl
 ·have h1:=DW l.length 0 (iN _) lo
  have e3:bg l lo hi=[]:=by
   unfold bg;rw[show D.gf l.length l.length hi-D.gf l.length 0 lo=0 by omega,List.take_zero]
  rw[e3];have e4:Builtin.Str.strSliceIndices (some ((D.gf l.length 0 lo:Nat):Int)) (some ((D.gf l.length l.length hi:Nat):Int)) 1 l.length=[]:=by
   have d:∀m:Nat,m<=l.length->max 0 (min (if((m:Nat):Int)<0 then((m:Nat):Int)+(l.length:Int)else((m:Nat):Int)) (l.length:Int))=((m:Nat):Int):=λm hm=>by
    rw[if_neg (by omega)];omega
   unfold Builtin.Str.strSliceIndices;simp only[show((1:Int) > 0)from by decide,if_true]
   rw[d _ h1,d _ h2];simp only[sliceRange];rw[if_pos (by decide),if_neg (by omega)]
   rfl
  unfold StrLaws.sliceText;rw[fH,e4];rw[if_neg (by simp;omega)]
  rfl
theorem DX{α:Type}(l:List α)(lo hi:D2):(bg l lo hi).length<=l.length:=by
 unfold bg;rw[p_,mC];omega
theorem zg(xs:List V)(lo hi:D2):AR xs lo hi=bg xs lo hi:=by
 have e:∀(n d:Nat)(o:D2),HT.gf n d o=D.gf n d o:=λn d o=>by cases o<;>rfl
 unfold AR bg;rw[e,e]
theorem aA.cut{B:KT}{al:BM}{H:Hp}{ts:FK}{vs:List V}(r:aA B al H ts vs)(lo hi:D2):aA B al H (bg ts lo hi) (bg vs lo hi):=by
 unfold bg;rw[r.len];exact(r.drop _).take _
theorem sG{α β:Type}(f:α->β)(l:List α)(lo hi:D2):(bg l lo hi).map f=bg (l.map f) lo hi:=by
 unfold bg;rw[cD,B3,tZ]
theorem uR{B:KT}{al:BM}{H:Hp}:∀{ts:FK}{vs:List V}{ls:Ap},aA B al H ts vs->strsOf ts=some ls->vs=(ls.map λl=>(⟨l.toArray⟩:Str)).map V.str
 |[],_,_,h,e=>by cases(show _=[]from h);cases e;rfl
 |t::ts,_,ls,h,e=>by
  obtain⟨v,r,rfl,h1,h2⟩:=h;cases t<;>first|(cases e;done)|skip
  rename_i l;have e:(strsOf ts).map (l::·)=some ls:=e
  cases e':strsOf ts with
  |none=>rw[e']at e;cases e
  |some ms=>
   rw[e']at e;cases e;obtain⟨rfl,_⟩:=h1;rw[uR h2 e'];rfl
theorem join_eq(sep:B1):∀ls:Ap,Str.join ⟨sep.toArray⟩ (ls.map λl=>(⟨l.toArray⟩:Str))=⟨(bq sep ls).toArray⟩
 |[]=>rfl
 |[c]=>rfl
 |c::d::r=>by
  have ih:=join_eq sep (d::r);show(⟨c.toArray⟩:Str)++⟨sep.toArray⟩++Str.join ⟨sep.toArray⟩ ((d::r).map λl=>(⟨l.toArray⟩:Str))=⟨(c++sep++bq sep (d::r)).toArray⟩;rw[ih,M_,M_]
theorem qR(sep:B1):∀ls:Ap,(bq sep ls).length<=(ls.map (·.length)).sum+ls.length*sep.length
 |[]=>by simp[bq]
 |[c]=>by simp[bq]
 |c::d::r=>by
  have ih:=qR sep (d::r);show(c++sep++bq sep (d::r)).length<=_;rw[cC,cC,dz,List.sum_cons,dP,Kp];omega
theorem DY(ls:Ap):((ls.map λl=>(⟨l.toArray⟩:Str)).map (·.length))=ls.map (·.length):=by
 rw[iL];apply AA;intro l _;exact fH l
theorem Nh(l s:B1):Txt.startswith ⟨l.toArray⟩ ⟨s.toArray⟩=pre s l:=by
 unfold Txt.startswith pre;rw[StrLaws.subAt_eq];show(decide (0+(⟨s.toArray⟩:Str).length<=l.toArray.size)&&((l.drop 0).take (⟨s.toArray⟩:Str).length == s))=_;rw[fH,b_,ud,lq]
theorem Ni(l s:B1):Txt.endswith ⟨l.toArray⟩ ⟨s.toArray⟩=M1 s l:=by
 unfold Txt.endswith M1;rw[StrLaws.subAt_eq,fH,fH];show(decide (0+s.length<=l.length)&&((l.drop (l.length-s.length)).take s.length == s))=_;rw[ud];by_cases h:s.length<=l.length
 ·rw[decide_eq_true h,Cm,Cm]
  rw[B_ (by rw[mC];omega)]
 ·rw[decide_eq_false h,Ci,Ci]
theorem lI{B:KT}{al:BM}{H:Hp}:∀{ts:FK}{vs:List V}{ks:Fh},aA B al H ts vs->boolsOf ts=some ks->vs=ks.map V.bl
 |[],_,_,h,e=>by cases(show _=[]from h);cases e;rfl
 |t::ts,_,ls,h,e=>by
  obtain⟨v,r,rfl,h1,h2⟩:=h;cases t<;>first|(cases e;done)|skip
  rename_i l;have e:(boolsOf ts).map (l::·)=some ls:=e
  cases e':boolsOf ts with
  |none=>rw[e']at e;cases e
  |some ms=>
   rw[e']at e;cases e;cases(show v=.bl l from h1);rw[lI h2 e'];rfl
def uS(tn T:String):Option Bool:=if(Value.type tn == Value.type T)=true then some true else if PySem.W.kitMeta T=true then(fastBuiltinMro tn).map (·.contains (Value.type T))else none
theorem lJ(K:bu){tn T:String}{b:Bool}(h:uS tn T=some b):rB K (.type tn) (.type T)=some b:=h
structure jM(T:String):Prop where
 non:uS "NoneType" T=some false
 bl:uS "bool" T=some (T == "bool" ||T == "int")
 int:uS "int" T=some (T == "int")
 str:uS "str" T=some (T == "str")
 tup:uS "tuple" T=some (T == "tuple")
 lst:uS "list" T=some (T == "list")
 dic:uS "dict" T=some (T == "dict")
theorem Nj:jM "int" := by constructor<;>decide +kernel
theorem HQ:jM "bool" := by constructor<;>decide +kernel
theorem Nk:jM "str" := by constructor<;>decide +kernel
theorem DZ:jM "tuple" := by constructor<;>decide +kernel
theorem HR:jM "list" := by constructor<;>decide +kernel
def aX(c:Nat):B1->Ap
 |[]=>[[]]
 |d::l=>if d=c then[]::aX c l else match aX c l with
  |p::r=>(d::p)::r
  |[]=>[[d]]
theorem jN{c:Nat}:∀{p:B1},c∉p->aX c p=[p]
 |[],_=>rfl
 |d::p,h=>by
  have hd:d≠c:=λe=>h (by rw[e];exact er ..)
  have hp:c∉p:=λe=>h (eF _ e);unfold aX;rw[if_neg hd,jN hp]
theorem oF{c:Nat}(l:B1):∀{p:B1},c∉p->aX c (p++[c]++l)=p::aX c l
 |[],_=>by
  show aX c (c::l)=_;rw[aX,if_pos rfl]
 |d::p,h=>by
  have hd:d≠c:=λe=>h (by rw[e];exact er ..)
  have hp:c∉p:=λe=>h (eF _ e);show aX c (d::(p++[c]++l))=_;rw[aX,if_neg hd,oF l hp]
theorem mf{c:Nat}:∀{ls:Ap},ls≠[]->(∀p∈ls,c∉p)->aX c (bq [c] ls)=ls
 |[],h,_=>absurd rfl h
 |[p],_,h=>jN (h p (er ..))
 |p::q::r,_,h=>by
  show aX c (p++[c]++bq [c] (q::r))=_;rw[oF _ (h p (er ..)),mf (by simp) λx hx=>h x (eF _ hx)]
theorem split_len(x y:Str):(Txt.split x y).length<=x.length+2:=by
 unfold Txt.split;split
 ·simp
 ·split
  ·simp
  ·rw[length_partsBetween]
   have:=StrLaws.occ_length_le x y 0 x.length (x.length+1)
   omega
theorem D0(x y:Str):Txt.split x y≠[]:=by
 unfold Txt.split;split
 ·simp
 ·split
  ·simp
  ·intro e
   have:=length_partsBetween x (Builtin.Str.occurrences x y 0 x.length (x.length+1)) y.length
   rw[e]at this;simp at this
theorem D3(a:B1)(c:Nat):Txt.split ⟨a.toArray⟩ ⟨#[c]⟩=(aX c a).map λl=>(⟨l.toArray⟩:Str):=by
 obtain⟨L,hL⟩:∃L:Ap,L=(Txt.split ⟨a.toArray⟩ ⟨#[c]⟩).map λp=>p.cps.toList:=⟨_,rfl⟩;have e1:Txt.split ⟨a.toArray⟩ ⟨#[c]⟩=L.map λl=>(⟨l.toArray⟩:Str):=by
  rw[hL,iL]
  conv=>lhs;rw[<- List.map_id (Txt.split ⟨a.toArray⟩ ⟨#[c]⟩)]
  apply AA;intro p _;show p=(⟨p.cps.toList.toArray⟩:Str);rw[Array.toArray_toList]
 have iQ:L≠[]:=by
  rw[hL];intro e;exact D0 _ _ (List.map_eq_nil_iff.mp e)
 have qC:∀p∈L,c∉p:=by
  rw[hL];intro p hp;obtain⟨q,hq,rfl⟩:=fG.mp hp;exact StrLaws.split_free _ c q hq
 have hj:=StrLaws.join_split ⟨a.toArray⟩ ⟨#[c]⟩;rw[e1,show(⟨#[c]⟩:Str)=⟨([c]:B1).toArray⟩from rfl,join_eq]at hj;have hj2:bq [c] L=a:=by
  injection hj with hj
  simpa using hj
 rw[e1,<- hj2,mf iQ qC]
theorem qS{B:KT}{al:BM}{H:Hp}:∀{ls:Ap},(∀l∈ls,l.length<=1000000)->aA B al H (ls.map T.str) (ls.map λl=>SV l)
 |[],_=>rfl
 |l::ls,h=>⟨_,_,rfl,⟨rfl,h l (er ..)⟩,qS λx hx=>h x (eF _ hx)⟩
theorem kG(c:Nat):∀(a:B1),∀l∈aX c a,l.length<=a.length
 |[],l,h=>by
  rw[dB.mp h];simp
 |d::a,l,h=>by
  have ih:=kG c a;rw[aX]at h;split at h
  ·rcases bA.mp h with e|e
   ·rw[e];simp
   ·have:=ih l e;simp;omega
  ·split at h
   ·rename_i p r Z9
    rcases bA.mp h with e|e
    ·have:=ih p (by rw[Z9];exact er ..)
     rw[e];simp;omega
    ·have:=ih l (by rw[Z9];exact eF _ e)
     simp;omega
   ·rw[dB.mp h];simp
theorem Sl:PO X none (tP B wH):=K3 Hf λσ H Q z=>by
 obtain⟨g,s,t,s',x,h,k⟩:=z;cases h;exact k g H .refl x
theorem zh{t:T}{i:Int}(h:RO t=some i):t=.int i:=by
 cases t<;>first|(cases h;done)|(cases h;rfl)
theorem Sm(ha:PE X a (tE B fa)):PO X (some a) (tP B (jY fa)):=K3 (Hg ha) λσ H Q z=>by
 obtain⟨g,s,t,s',x,h,k⟩:=z;obtain⟨⟨d,s1⟩,h1,h⟩:=aa h;obtain⟨i,h2,h⟩:=aa h;cases zh (aj h2);cases h;exact⟨g,s,_,s1,x,h1,λv g1 H1 p1 x1 r1=>⟨_,r1,k g1 H1 p1 x1⟩⟩
def Xr(K:bu):V->D2->D2->Hp->VK->Prop:=λx lo hi H Q=>(∃z,x=.str z/\z.length<=sizeLine/\Q (.str (Txt.slice z lo hi)) H)\/Q5 K x lo hi H Q
theorem Xs:KP X (Xr X.K):=ML.or Hj
theorem Xu(hB:B.K=X.K)(ha:PE X a (tE B fa))(hl:PO X Xj (tP B Xh))(hh:PO X Xk (tP B Xi)):PE X (.Subscript a (.Slice Xj Xk none p2) pos) (tE B (mZ fa Xh Xi)):=by
 refine aM (C2 Xs ha hl hh) λσ H Q zz=>?_;obtain⟨g,s,t,s',x,h,k⟩:=zz;obtain⟨⟨tx,s1⟩,h1,h⟩:=aa h;obtain⟨⟨lo,s2⟩,h2,h⟩:=aa h;obtain⟨⟨hi,s3⟩,h3,h⟩:=aa h;obtain⟨t',h4,h⟩:=aa h;cases h;have h4:HB lo hi tx=some _:=aj h4;refine⟨g,s,_,s1,x,h1,λv g1 H1 p1 x1 r1=>⟨g1,s1,_,s2,x1,h2,λg2 H2 p2 x2=>⟨g2,s2,_,_,x2,h3,λg3 H3 p3 x3=>?_⟩⟩⟩;have r3:=(r1.mv p2.pre p2.fr).mv p3.pre p3.fr;have pp:=(p1.trans p2).trans p3;cases tx<;>first|(cases h4;done)|skip
 ·cases h4
  obtain⟨rfl,hz⟩:=r3;refine .inl ⟨_,rfl,Xg hz,?_⟩;rw[cut_str];exact k _ g3 H3 pp x3 ⟨rfl,gP (DX _ _ _) hz⟩
 ·cases h4
  obtain⟨a,vs,rfl,q,r⟩:=r3;refine .inr ⟨a,vs,rfl,df.of (x3.sub _ _ q),λl hl=>?_⟩;rw[zg];have gr:=Gr.new (o:=.lst (bg vs lo hi)) x3.sub hl;exact k _ _ _ (pp.trans (x3.iE gr)) (x3.grow gr) ⟨l,_,rfl,ah,(r.cut _ _).same gr.fr⟩
 ·cases h4
  obtain⟨a,rfl,q⟩:=r3;refine .inr ⟨a,_,rfl,hB▸x3.sub.seq q,λl hl=>?_⟩;rw[zg,<- sG];exact k _ _ _ (pp.trans (x3.iE (Gr.new x3.sub hl))) (x3.grow (Gr.new x3.sub hl)) ⟨l,_,rfl,ah,aA.ints _⟩
end
section
def noStar:Expr->Bool
 |.Starred _ _=>false
 |_=>true
theorem aq(h:noStar e=true):starEach (e::es) env=(false,eval e env)::starEach es env:=by
 cases e<;>first|rfl|(cases h)
theorem eY:∀{es:Bz},es.all noStar=true->(backTo pos (starEach es env)).any (·.1)=false
 |[],_=>rfl
 |e::es,h=>by
  rw[fF,dc]at h;rw[aq h.1];show(false ||(backTo pos (starEach es env)).any (·.1))=false
  rw[eY h.2];rfl
theorem oG:∀{es:Bz},es.all noStar=true->(backTo pos (starEach es env)).all (λx=>!x.1)=true
 |[],_=>rfl
 |e::es,h=>by
  rw[fF,dc]at h;rw[aq h.1];show(true&&(backTo pos (starEach es env)).all (λx=>!x.1))=true;rw[oG h.2];rfl
theorem jX(h:(e::es).all noStar=true)(hl:es.length<29):((backTo dq (starEach (e::es) env)).all (λx=>!x.1)&&(backToKw dq (keywordEach [] env)).all (λx=>x.1.isSome)
   && decide ((e::es).length+([]:List Keyword).length+(if([]:List Keyword).isEmpty then 0 else 1)<30))=true:=by
 rw[oG h,dc];exact⟨rfl,decide_eq_true (show es.length+1+0+0<30 by omega)⟩
def bU:Expr->Bool
 |.Call (.Name _ _) [] [] _=>false
 |_=>true
theorem ie{f:Str}{iB:Sem Value}(h:bU o=true):attributeBase o f env iB=iB:=by
 unfold attributeBase;split
 ·cases h
 ·rfl
def LM(X:Cx)(f:B1->FK->FR)(r:V->List V->Hp->VK->Prop):Prop:=∀(B:KT)(_:B.K=X.K)(al:BM)(HF H:Hp)(l:B1)(xs:List V)(t:T)(ts:FK)(Q:VK),aL HF H->l.length<=1000000->aA B al HF ts xs->f l ts=some t->(∀v gy H',Gr HF H gy H'->Rep B al gy t v->Q v H')->r (SV l) xs H Q
def HS:T->Option B1
 |.str l=>some l
 |_=>none
def pU(f:B1->FK->FR)(o:FE)(fl:FL):FE:=λs=>(o s).bind λp=>(aY (HS p.1)).bind λl=>(fl p.2).bind λq=>(aY (f l q.1)).bind λt=>.ok (t,q.2)
theorem D4{t:T}{l:B1}(h:HS t=some l):t=.str l:=by
 cases t<;>first|(cases h;done)|(cases h;rfl)
theorem Xv{f:B1->FK->FR}{r:V->List V->Hp->VK->Prop}(hB:B.K=X.K)(hr:LM X f r):∀σ H Q,tE B (pU f fo fl) σ H Q->Zy X.K "str" r (tE B fo) (tA B fl) σ H Q:=by
 rintro σ H Q ⟨g,s,t,s',x,h,k⟩
 obtain⟨⟨tx,s1⟩,h1,h⟩:=aa h;obtain⟨l,h2,h⟩:=aa h;obtain⟨⟨ts,s2⟩,h3,h⟩:=aa h;obtain⟨t',h4,h⟩:=aa h;cases h;cases D4 (aj h2);refine⟨g,s,_,s1,x,h1,λv g1 H1 p1 x1 r1=>?_⟩;obtain⟨rfl,hz⟩:=r1;exact⟨rfl,g1,s1,_,_,x1,h3,λvs g2 H2 p2 x2 r2=>hr B hB g2.al g2.HF H2 l vs _ ts Q x2.sub hz r2 (aj h4) λu gy H' gr r3=>k u (g2.grow gy) H' ((p1.trans p2).trans (x2.iE gr)) (x2.grow gr) r3⟩
def A9(l:B1):FK->FR
 |[.str s]=>some (.bl (pre s l))
 |_=>none
def Xw(l:B1):FK->FR
 |[.str s]=>some (.bl (M1 s l))
 |_=>none
def joinM(l:B1):FK->FR
 |[t]=>qN (.str l) t
 |_=>none
def splitM(l:B1):FK->FR
 |[.str [c]]=>gd (l.length<=100000) (.lst ((aX c l).map .str))
 |_=>none
open PySem.Spec PyProof.Rows in
def oH(l:B1):FK->FR
 |[.str s]=>some (.int (Txt.find ⟨l.toArray⟩ ⟨s.toArray⟩))
 |[.str s,.int i]=>some (.int (Txt.find3 ⟨l.toArray⟩ ⟨s.toArray⟩ i))
 |_=>none
theorem cO{al:BM}{H:Hp}{t:T}{xs:List V}(r:aA B al H [t] xs):∃v,xs=[v]/\Rep B al H t v:=by
 obtain⟨v,w,rfl,h,e⟩:=r;cases(show w=[]from e);exact⟨v,rfl,h⟩
theorem HU{al:BM}{H:Hp}{t u:T}{xs:List V}(r:aA B al H [t,u] xs):∃v w,xs=[v,w]/\Rep B al H t v/\Rep B al H u w:=by
 obtain⟨v,ws,rfl,h,e⟩:=r;obtain⟨w,rfl,h'⟩:=cO e;exact⟨v,w,rfl,h,h'⟩
theorem Xx:LM X A9 (λx vs H Q=>∃a b,x=.str a/\vs=[.str b]/\Q (.bl (Txt.startswith a b)) H):=λB hB al HF H l xs t ts Q sm hz r h k=>by
 match ts,h with
 |[.str s],h=>
  cases h;obtain⟨v,rfl,rfl,_⟩:=cO r;refine⟨_,_,rfl,rfl,?_⟩;rw[Nh];exact k _ HF H (.refl sm) rfl
theorem Xy:LM X Xw (λx vs H Q=>∃a b,x=.str a/\vs=[.str b]/\Q (.bl (Txt.endswith a b)) H):=λB hB al HF H l xs t ts Q sm hz r h k=>by
 match ts,h with
 |[.str s],h=>
  cases h;obtain⟨v,rfl,rfl,_⟩:=cO r;refine⟨_,_,rfl,rfl,?_⟩;rw[Ni];exact k _ HF H (.refl sm) rfl
theorem Nl:LM X joinM (λx vs H Q=>∃sep l ys,x=.str sep/\vs=[.ref l]/\df X.K H l (ys.map V.str)/\(ys.map (·.length)).sum+ys.length*sep.length<=16777216/\Q (.str (Str.join sep ys)) H):=λB hB al HF H l xs t ts Q sm hz r h k=>by
 match ts,h with
 |[u],h=>
  obtain⟨v,rfl,ru⟩:=cO r;have h:qN (.str l) u=some t:=h;cases u with
  |lst us=>
   have h:(strsOf us).bind (λys=>gd ((ys.map (·.length)).sum+ys.length*l.length<=1000000) (T.str (bq l ys)))=some t:=h
   obtain⟨ls,h1,h⟩:=eM.mp h;obtain⟨z,rfl⟩:=aT h;obtain⟨a,vs,rfl,q,r⟩:=ru;have e:=uR r h1;subst e;refine⟨_,a,_,rfl,rfl,df.of (sm _ _ q),?_,?_⟩
   ·rw[DY,cD,fH];omega
   ·rw[join_eq]
    exact k _ HF H (.refl sm) ⟨rfl,gP (qR _ _) z⟩
  |_=>cases h
theorem m_find:LM X oH (λx vs H Q=>(∃a b,x=.str a/\vs=[.str b]/\Q (.int (Txt.find a b)) H)\/∃a b i,x=.str a/\vs=[.str b,.int i]/\Q (.int (Txt.find3 a b i)) H):=λB hB al HF H l xs t ts Q sm hz r h k=>by
 match ts,h with
 |[.str s],h=>
  cases h;obtain⟨v,rfl,rfl,_⟩:=cO r;exact .inl ⟨_,_,rfl,rfl,k _ HF H (.refl sm) rfl⟩
 |[.str s,.int i],h=>
  cases h;obtain⟨v,w,rfl,⟨rfl,_⟩,rfl⟩:=HU r;exact .inr ⟨_,_,_,rfl,rfl,k _ HF H (.refl sm) rfl⟩
theorem m_split:LM X splitM (λx vs H Q=>∃a b,x=.str a/\vs=[.str b]/\(b.length == 0)=false/\a.length<=sizeLine/\(Txt.split a b).length<=sizeLine/\∀l,H l=none->Q (.ref l) (upd H l (.lst ((Txt.split a b).map V.str)))):=λB hB al HF H l xs t ts Q sm hz r h k=>by
 match ts,h with
 |[.str [c]],h=>
  obtain⟨z,rfl⟩:=aT h;obtain⟨v,rfl,rfl,_⟩:=cO r;have Sn:=split_len ⟨l.toArray⟩ ⟨([c]:B1).toArray⟩;rw[fH]at Sn;refine⟨_,_,rfl,rfl,rfl,by rw[fH,sizeLine_eq];omega,by rw[sizeLine_eq];omega,λq hq=>?_⟩
  have e:(Txt.split ⟨l.toArray⟩ ⟨([c]:B1).toArray⟩).map V.str=(aX c l).map λl=>SV l:=by
   rw[show(⟨([c]:B1).toArray⟩:Str)=⟨#[c]⟩from rfl,D3,iL];rfl
  rw[e];refine k _ _ _ (Gr.new sm hq) ⟨q,_,rfl,ah,qS λm hm=>?_⟩
  have:=kG c l m hm
  omega
 |[.str []],h=>cases h
 |[.str (_::_::_)],h=>cases h
theorem AS.or{id:String}{r r':V->List V->Hp->VK->Prop}(h:AS X id r)(h':AS X id r'):AS X id (λx vs H Q=>r x vs H Q\/r' x vs H Q):=λae s σ H x vs v us Q I rx rv q=>by
 rcases q with q|q
 ·exact h ae s σ H x vs v us Q I rx rv q
 ·exact h' ae s σ H x vs v us Q I rx rv q
structure Z_(X:Cx)(n:Str)(f:B1->FK->FR):Prop where
 ex:∃id r,Slot "str" n id/\typeOf (.builtin id)=pure (.type "method_descriptor")/\AS X id r/\LM X f r
theorem So{n:Str}{f:B1->FK->FR}(M:Z_ X n f)(hB:B.K=X.K)(ho:PE X o (tE B fo))(ha:PA X (e::es) (tA B fl))(hb:bU o=true)(hs:(e::es).all noStar=true)(hl:es.length<29)(nR:(cL.endLine == dq.line)=true) :
  PE X (.Call (.Attribute o n cL) (e::es) [] dq) (tE B (pU f fo fl)):=by
 obtain⟨id,r,h1,h2,h3,h4⟩:=M.ex;have Dd:=hs;rw[fF,dc]at Dd;exact aM (C6 PySem.F.plainAttrs_str h1 h2 h3 ho ha (ie hb) (jX hs hl) nR (aq Dd.1) (eY Dd.2)) (Xv hB h4)
def xJ:List (Str×(B1->FK->FR)):=[("startswith",A9),("endswith",Xw),("join",joinM),("split",splitM),("find",oH)]
theorem Nn:∀p∈xJ,Z_ X p.1 p.2:=by
 intro p h;simp only[xJ,bA,iK,or_false]at h;rcases h with rfl|rfl|rfl|rfl|rfl
 ·exact⟨_,_,PySem.F.slot_str_startswith,PySem.F.type_str_startswith,qj,Xx⟩
 ·exact⟨_,_,PySem.F.slot_str_endswith,PySem.F.type_str_endswith,uB,Xy⟩
 ·exact⟨_,_,PySem.F.slot_str_join,PySem.F.type_str_join,Ht,Nl⟩
 ·exact⟨_,_,PySem.F.slot_str_split,PySem.F.type_str_split,DT,m_split⟩
 ·exact⟨_,_,PySem.F.slot_str_find,PySem.F.type_str_find,AS.or DU Dh,m_find⟩
end
section
def bJ:FK->FR
 |[t]=>(match t with
  |.du _ _=>none
  |t=>uI t)
 |_=>none
theorem Sq:LN X bJ (λxs H Q=>∃x n,xs=[x]/\QN X.K x H n/\Q (.int n) H):=λB hB al HF H xs t ts Q sm r h k=>by
 match ts,h with
 |[tx],h=>
  obtain⟨v,rfl,rx⟩:=cO r;cases tx<;>first|(cases h;done)|skip
  ·cases h
   obtain⟨rfl,hz⟩:=rx;exact⟨_,_,rfl,⟨Xg hz,(fH _).symm⟩,k _ HF H (.refl sm) rfl⟩
  ·cases h
   obtain⟨a,vs,rfl,q,r⟩:=rx;exact⟨_,_,rfl,.inr ⟨vs,hB▸bW sm q,r.len⟩,k _ HF H (.refl sm) rfl⟩
  ·cases h
   obtain⟨a,vs,rfl,q,r⟩:=rx;exact⟨_,_,rfl,.inl ⟨vs,df.of (sm _ _ q),r.len⟩,k _ HF H (.refl sm) rfl⟩
  ·cases h
   obtain⟨a,rfl,q⟩:=rx;exact⟨_,_,rfl,.inl ⟨_,hB▸sm.seq q,(cD _).symm⟩,k _ HF H (.refl sm) rfl⟩
def Ss:FK->FR
 |[t]=>RN t
 |_=>none
theorem Su:LN X Ss (λxs H Q=>∃i,xs=[.int i]/\Q (.int (if i<0 then -i else i)) H):=λB hB al HF H xs t ts Q sm r h k=>by
 match ts,h with
 |[tx],h=>
  obtain⟨v,rfl,rx⟩:=cO r;have h:RN tx=some t:=h;cases tx<;>first|(cases h;done)|skip
  cases h;exact⟨_,by rw[show v=_ from rx],k _ HF H (.refl sm) rfl⟩
def HV:FK->FR
 |[t]=>M3 t
 |_=>none
def mQ:FK->FR
 |[t]=>A6 t
 |_=>none
theorem Sv:LN X HV (λxs H Q=>∃(p:Addr)(ks:Fh),xs=[.ref p]/\df X.K H p (ks.map V.bl)/\Q (.bl (ks.all id)) H):=λB hB al HF H xs t ts Q sm r h k=>by
 match ts,h with
 |[tx],h=>
  obtain⟨v,rfl,rx⟩:=cO r;have h:M3 tx=some t:=h;cases tx with
  |lst us=>
   obtain⟨ks,h1,h⟩:=cH.mp (show(boolsOf us).map _=some t from h);obtain⟨a,vs,rfl,q,r⟩:=rx;have e:=lI r h1;subst e h;exact⟨a,ks,rfl,df.of (sm _ _ q),k _ HF H (.refl sm) rfl⟩
  |_=>cases h
theorem Sw:LN X mQ (λxs H Q=>∃(p:Addr)(ks:Fh),xs=[.ref p]/\df X.K H p (ks.map V.bl)/\Q (.bl (ks.any id)) H):=λB hB al HF H xs t ts Q sm r h k=>by
 match ts,h with
 |[tx],h=>
  obtain⟨v,rfl,rx⟩:=cO r;have h:A6 tx=some t:=h;cases tx with
  |lst us=>
   obtain⟨ks,h1,h⟩:=cH.mp (show(boolsOf us).map _=some t from h);obtain⟨a,vs,rfl,q,r⟩:=rx;have e:=lI r h1;subst e h;exact⟨a,ks,rfl,df.of (sm _ _ q),k _ HF H (.refl sm) rfl⟩
  |_=>cases h
def HW(i:Int):B1:=(toString i).toList.map Char.toNat
def strN:FK->FR
 |[.int i]=>gd (i.natAbs.log2<1920/\(HW i).length<=1000000) (.str (HW i))
 |_=>none
theorem Sx:LN X strN (λxs H Q=>∃i,xs=[.int i]/\i.natAbs.log2<1920/\Q (.str (toString i)) H):=λB hB al HF H xs t ts Q sm r h k=>by
 match ts,h with
 |[.int i],h=>
  obtain⟨v,rfl,rx⟩:=cO r;obtain⟨⟨h1,h2⟩,rfl⟩:=aT h;cases rx;refine⟨i,rfl,h1,k _ HF H (.refl sm) ⟨?_,h2⟩⟩;show V.str (Str.ofString (toString i))=_;rw[Str.ofString_eq_toList];rfl
def sH:FK->FR
 |[.str l]=>(PySem.intText? ⟨l.toArray⟩).bind λn=>gd (l.length<=640) (.int n)
 |[.bl b]=>some (.int (if b then 1 else 0))
 |_=>none
abbrev Sy:List V->Hp->VK->Prop:=λxs H Q=>(∃y n,xs=[.str y]/\PySem.intText? y=some n/\y.length<=640/\Q (.int n) H)\/∃b,xs=[.bl b]/\Q (.int (if b then 1 else 0)) H
theorem A_:fm X (.type "int") Sy:=by
 intro ae s σ H xs us Q I r h;rcases h with⟨y,n,rfl,hn,hl,q⟩|⟨b,rfl,q⟩
 ·obtain⟨u,rfl,t,rfl⟩:=vals1 r
  exact PySem.W.KIN.call_text hn hl ⟨.int n,H,I.tok _,⟨_,rfl⟩,q⟩
 ·obtain⟨u,rfl,e⟩:=vals1 r
  cases(show u=Value.bool b from e);exact PySem.call_int_bool ⟨.int (if b then 1 else 0),H,I.tok _,⟨_,rfl⟩,q⟩
theorem Sz:LN X sH Sy:=λB hB al HF H xs t ts Q sm r h k=>by
 match ts,h with
 |[.str l],h=>
  obtain⟨v,rfl,rx⟩:=cO r;obtain⟨n,h1,h⟩:=eM.mp h;obtain⟨z,rfl⟩:=aT h;obtain⟨rfl,_⟩:=rx;exact .inl ⟨_,n,rfl,h1,by rw[fH];exact z,k _ HF H (.refl sm) rfl⟩
 |[.bl b],h=>
  obtain⟨v,rfl,rx⟩:=cO r;cases h;cases rx;exact .inr ⟨b,rfl,k _ HF H (.refl sm) rfl⟩
def D5:FK->FR
 |[t]=>KZ t
 |_=>none
theorem Np:LN X D5 (λxs H Q=>∃p ys,xs=[.ref p]/\(df X.K H p ys\/lV X.K H p ys)/\∀l,H l=none->Q (.ref l) (upd H l (.lst ys))):=λB hB al HF H xs t ts Q sm r h k=>by
 match ts,h with
 |[tx],h=>
  obtain⟨v,rfl,rx⟩:=cO r;have h:KZ tx=some t:=h;cases tx<;>first|(cases h;done)|skip
  ·cases h
   obtain⟨l,xs,rfl,q,r⟩:=rx;exact⟨l,xs,rfl,.inr (hB▸bW sm q),λp hp=>k _ _ _ (Gr.new sm hp) ⟨p,_,rfl,ah,r.same (aS (sm.free hp))⟩⟩
  ·cases h
   obtain⟨l,xs,rfl,q,r⟩:=rx;exact⟨l,xs,rfl,.inl (df.of (sm _ _ q)),λp hp=>k _ _ _ (Gr.new sm hp) ⟨p,_,rfl,ah,r.same (aS (sm.free hp))⟩⟩
structure Blt(X:Cx)(n:Str)(f:FK->FR):Prop where
 ex:∃r,LN X f r/\((∃id,bootBuiltins n=some (.builtin id)/\fm X (.builtin id) r)\/∃ty,bootBuiltins n=some (.type ty)/\fm X (.type ty) r)
 nn:n ≠ "__name__"
 nd:bZ n
theorem K9{f:FK->FR}(M:Blt X x f)(hB:B.K=X.K)(hg:Gl X x)(hm:X.mg x=none)(ha:PA X (e::es) (tA B fl))(hs:(e::es).all noStar=true):PE X (.Call (.Name x p) (e::es) [] pos) (tE B (aR f fl)):=by
 obtain⟨⟨r,h1,h2⟩,nn,nd⟩:=M;rw[fF,dc]at hs;rcases h2 with⟨id,hb,hc⟩|⟨ty,hb,hc⟩
 ·exact aM (gQ hc hg hm hb ha nn nd (aq hs.1) (eY hs.2)) (K4 hB h1)
 ·exact aM (gR hc hg hm hb ha nn nd (aq hs.1) (eY hs.2)) (K4 hB h1)
def xK:List (Str×(FK->FR)):=[("len",bJ),("abs",Ss),("all",HV),("any",mQ),("str",strN),("int",sH),("list",D5)]
theorem D6(hc:X.calm=true):∀p∈xK,Blt X p.1 p.2:=by
 intro p h;simp only[xK,bA,iK,or_false]at h;rcases h with rfl|rfl|rfl|rfl|rfl|rfl|rfl
 ·exact⟨⟨_,Sq,.inl ⟨_,PySem.boot_len,nM⟩⟩,by decide,by decide⟩
 ·exact⟨⟨_,Su,.inl ⟨_,PyProof.Rows.boot_abs,CN⟩⟩,by decide,by decide⟩
 ·exact⟨⟨_,Sv,.inl ⟨_,PyProof.Rows.boot_all,Di hc⟩⟩,by decide,by decide⟩
 ·exact⟨⟨_,Sw,.inl ⟨_,PyProof.Rows.boot_any,Dj hc⟩⟩,by decide,by decide⟩
 ·exact⟨⟨_,Sx,.inr ⟨_,KC,rV⟩⟩,by decide,by decide⟩
 ·exact⟨⟨_,Sz,.inr ⟨_,KD,A_⟩⟩,by decide,by decide⟩
 ·exact⟨⟨_,Np,.inr ⟨_,ug,ia⟩⟩,by decide,by decide⟩
end
structure Pg where
 cn:Bi
 an:Bi
 tab:Ap
 sub:Ap
def Pg.fn(P:Pg):List Bi:=P.tab.map λl=>l.map λi=>P.an.getD i Str.empty
structure PU(K:bu)(mg:Str->D1)(n:Str)(ns:Bi)(C:Addr):Prop where
 at_:pY K mainGlobals n=some (some (.ref C))
 gl:mg n=some (.ref C)
 nd:ns.Nodup
 jX:ns.length<=100
 cl:qe K C
 na:∀f∈ns,eO K C f
 ca:gE K (.ref C) "__class__" = some (some (.builtin "object.__class__"))
 mo:yt K C (.type "object")=some true
structure mR(K:bu)(mg:Str->D1)(P:Pg):Prop where
 cls:∀(c:Nat)(n:Str)(ns:Bi),P.cn[c]?=some n->P.fn[c]?=some ns->∃C,PU K mg n ns C
 sub:∀(c d:Nat)(n n':Str)(C D:Addr)(l:B1),P.cn[c]?=some n->P.cn[d]?=some n'->mg n=some (.ref C)->mg n'=some (.ref D)->P.sub[c]?=some l->rB K (.ref C) (.ref D)=some (decide (d∈l))
 gt:yq K (.builtin "object.__class__") "__get__" = some (some (.builtin "getset_descriptor.__get__"))/\yr K (.builtin "object.__class__")=some true
abbrev Pg.kt(P:Pg)(X:Cx):KT:=⟨X.K,X.prog,X.w,P.cn,P.fn⟩
variable{P:Pg}
theorem mR.of(O:mR X.K X.mg P){c:Nat}{C:Addr}{ns:Bi}(h:iR (P.kt X) c C ns):∃n,P.cn[c]?=some n/\P.fn[c]?=some ns/\PU X.K X.mg n ns C:=by
 obtain⟨n,h1,h2,h3,h4⟩:=h;obtain⟨C',F⟩:=O.cls c n ns h1 h2
 have:C=C':=by
  have:=(show pY X.K mainGlobals n=some (some (.ref C))from h4).symm.trans F.at_
  injection this with this
  injection this with this
  injection this
 subst this;exact⟨n,h1,h2,F⟩
theorem ig{f:Str}:∀{ns:Bi}{vs:List V}{j:Nat},ns.Nodup->ns[j]?=some f->(ns.zip vs).lookup f=vs[j]?
 |[],vs,j,_,h=>by simp at h
 |n::ns,[],j,_,_=>by simp
 |n::ns,v::vs,0,nd,h=>by
  simp at h;subst h;rw[nE,List.lookup_cons_self];rfl
 |n::ns,v::vs,j+1,nd,h=>by
  simp at h;have e:(f == n)=false:=beq_eq_false_iff_ne.mpr λz=>by subst z;exact(j4.mp nd).1 (jB h)
  rw[nE,jC,e];simpa using ig (j4.mp nd).2 h
theorem oJ{f:Str}:∀{ns:Bi}{vs:List V},f∉ns->(ns.zip vs).lookup f=none
 |[],vs,_=>by simp
 |n::ns,[],_=>by simp
 |n::ns,v::vs,h=>by
  have e:(f == n)=false:=beq_eq_false_iff_ne.mpr λz=>h (by rw[z];exact er ..)
  rw[nE,jC,e];exact oJ λz=>h (eF _ z)
theorem zj{f:Str}{v:V}:∀{ns:Bi}{vs:List V}{j:Nat},ns.Nodup->ns[j]?=some f->vs.length<=ns.length->j<vs.length->L2.dF f v (ns.zip vs)=ns.zip (vs.set j v)
 |[],vs,j,_,h,_,_=>by simp at h
 |n::ns,[],j,_,_,_,h=>by simp at h
 |n::ns,w::vs,0,nd,h,_,_=>by
  simp at h;subst h;show(if n=n then(n,v)::ns.zip vs else(n,w)::L2.dF n v (ns.zip vs))=_
  rw[if_pos rfl];rfl
 |n::ns,w::vs,j+1,nd,h,hl,hj=>by
  simp at h hl hj;show(if n=f then(n,v)::ns.zip vs else(n,w)::L2.dF f v (ns.zip vs))=_
  rw[if_neg λz=>(j4.mp nd).1 (by rw[z];exact jB h),zj (j4.mp nd).2 h hl hj]
  rfl
theorem sI{f:Str}{v:V}:∀{ns:Bi}{vs:List V},ns.Nodup->ns[vs.length]?=some f->L2.dF f v (ns.zip vs)=ns.zip (vs++[v])
 |[],vs,_,h=>by simp at h
 |n::ns,[],nd,h=>by
  simp at h;subst h;show L2.dF n v []=(n,v)::ns.zip [];simp[L2.dF]
 |n::ns,w::vs,nd,h=>by
  simp at h;show(if n=f then(n,v)::ns.zip vs else(n,w)::L2.dF f v (ns.zip vs))=_
  rw[if_neg λz=>(j4.mp nd).1 (by rw[z];exact jB h),sI (j4.mp nd).2 h]
  rfl
theorem HX{l:B1}{f j:Nat}(h:l.idxOf? f=some j):l[j]?=some f:=by
 rw[J0,J1]at h;obtain⟨hj,h1,_⟩:=h;rw[cj hj,eq_of_beq h1]
theorem nh{c f j:Nat}{n:Str}{ns:Bi}(hf:P.an[f]?=some n)(hc:P.fn[c]?=some ns)(h:ic P.tab c f=some j):ns[j]?=some n:=by
 unfold ic at h;obtain⟨l,h1,h2⟩:=eM.mp h;unfold Pg.fn at hc;rw[eG,h1]at hc;cases hc;rw[eG,HX h2];show some (P.an.getD f Str.empty)=_;rw[j6,hf];rfl
theorem K_(O:mR X.K X.mg P){f:Nat}{n:Str}(hf:P.an[f]?=some n)(he:PE X e (tE (P.kt X) fa))(hb:bU e=true):PE X (.Attribute e n pos) (tE (P.kt X) (aE P.tab f fa)):=by
 refine aM (CQ he (ie hb)) λσ H Q zz=>?_;obtain⟨g,s,t,s',x,h,k⟩:=zz;obtain⟨⟨tx,s1⟩,h1,h⟩:=aa h;refine⟨g,s,_,s1,x,h1,λv g1 H1 p1 x1 r1=>?_⟩;cases tx<;>first|(cases h;done)|skip
 ·rename_i c fs
  obtain⟨u,h2,h⟩:=aa h;cases h;obtain⟨j,h3,h4⟩:=eM.mp (aj h2);obtain⟨a,C,dx,ns,vs,rfl,hC,hq,hl,hd,r⟩:=r1;obtain⟨m,hm,wF,F⟩:=O.of hC;have hj:=nh hf wF h3;obtain⟨w,hw,xw⟩:=r.get h4;exact⟨a,C,dx,_,w,rfl,x1.sub _ _ hq,F.cl,F.na _ (jB hj),by rw[ig F.nd hj,hw],k _ g1 H1 p1 x1 xw⟩
 ·rename_i kk
  obtain⟨c,h2,h⟩:=aa h;obtain⟨ob,h3,h4⟩:=eM.mp (aj h2);obtain⟨j,h5,h6⟩:=eM.mp h4;obtain⟨a,rfl,ha⟩:=r1;rcases x1.st.at_ kk ob h3 with⟨a',C,dx,ns,vs,Z⟩|⟨a',Z⟩
  case inr=>
   obtain⟨l,q,_⟩:=eM.mp h5;have z:(P.tab.map _)[ob.c]?=none:=Z.nf;rw[eG,q]at z;cases z
  have:=Z.al.symm.trans ha
  cases this;obtain⟨m,hm,wF,F⟩:=O.of Z.cl;have hj:=nh hf wF h5;obtain⟨w,hw,sl⟩:=Z.f j c h6;cases c with
  |val t'=>
   cases h;exact⟨a,C,dx,_,w,rfl,Z.h,F.cl,F.na _ (jB hj),by rw[ig F.nd hj,hw],k _ g1 H1 p1 x1 sl⟩
  |ol ts=>cases h
  |od ks ts=>cases h
  |yg t=>cases h
def tyB(ty:String):T->Option Bool
 |.non=>some false
 |.bl _=>some (ty == "bool" ||ty == "int")
 |.int _=>some (ty == "int")
 |.str _=>some (ty == "str")
 |.tup _=>some (ty == "tuple")
 |.lst _=>some (ty == "list")
 |_=>none
def D7(ty:String):T->FR:=λt=>(tyB ty t).map .bl
theorem Nq{B:KT}{al:BM}{H:Hp}{t:T}{v:V}{Ty:String}{u:Bool}(ka:jM Ty)(r:Rep B al H t v)(h:tyB Ty t=some u):∃tn,jo B.K H v tn/\rB B.K tn (.type Ty)=some u:=by
 cases t with
 |non=>cases(show v=.non from r);cases h;exact⟨_,.non,lJ B.K ka.non⟩
 |bl b=>cases(show v=.bl b from r);cases h;exact⟨_,.bl _,lJ B.K ka.bl⟩
 |int i=>cases(show v=.int i from r);cases h;exact⟨_,.int _,lJ B.K ka.int⟩
 |str l=>obtain⟨rfl,_⟩:=r;cases h;exact⟨_,.str _,lJ B.K ka.str⟩
 |tup ts=>obtain⟨a,vs,rfl,q,_⟩:=r;cases h;exact⟨_,.tup q,lJ B.K ka.tup⟩
 |lst ts=>obtain⟨a,vs,rfl,q,_⟩:=r;cases h;exact⟨_,.lst q,lJ B.K ka.lst⟩
 |_=>cases h
def uT:List (Str×String):=[("int","int"),("bool","bool"),("str","str"),("tuple","tuple"),("list","list")]
theorem SA:∀q∈uT,jM q.2/\bootBuiltins q.1=some (.type q.2)/\q.1 ≠ "__name__" /\ (q.1 == ("__debug__" : Str))=false:=by
 intro p h;simp only[uT,bA,iK,or_false]at h;rcases h with rfl|rfl|rfl|rfl|rfl
 ·exact⟨Nj,KD,by decide,by decide⟩
 ·exact⟨HQ,PyProof.Rows.boot_bool,by decide,by decide⟩
 ·exact⟨Nk,KC,by decide,by decide⟩
 ·exact⟨DZ,PyProof.Rows.boot_tuple,by decide,by decide⟩
 ·exact⟨HR,ug,by decide,by decide⟩
theorem Nr{B:KT}(hB:B.K=X.K){ty:String}{py:Pos}(hy:(y,ty)∈uT)(hm:X.mg "isinstance" = none)(PV:X.mg y=none)(ha:PE X a (tE B fa))(hg:Gl X "isinstance")(Sb:Gl X y)(hs:noStar a=true) :
  PE X (.Call (.Name "isinstance" p) [a,.Name y py] [] pos) (tE B (cu (D7 ty) fa)):=by
 obtain⟨ka,hb,hn,hd⟩:=SA _ hy;have xg:starEach [Expr.Name y py] X.env=(false,eval (.Name y py) X.env)::starEach [] X.env:=rfl;refine aM (gQ uD hg hm Cy (aV ha (aV (GY Sb PV hb (v:=.ty ty) rfl hn hd) cK xg) (aq hs)) (he:=aq hs) (hpl:=rfl))
  (Dz hB (r:=λx H Q=>∃x' T' t b,[x,.ty ty]=[x',.ty T']/\jo X.K H x' t/\rB X.K t (.type T')=some b/\Q (.bl b) H) λB hB al HF H x t tx Q sm rx h k=>?_)
 obtain⟨u,h1,rfl⟩:=cH.mp h;obtain⟨tn,h2,h3⟩:=Nq ka (rx.same sm) h1;exact⟨x,ty,tn,u,rfl,hB▸h2,hB▸h3,k _ HF H (.refl sm) rfl⟩
def gH(sub:Ap)(ds:B1):T->FR
 |.obj c _=>(sub[c]?).map λl=>.bl (ds.any λd=>decide (d∈l))
 |_=>none
theorem D8:fm X (.builtin "isinstance") (λxs H Q=>∃x D t b,xs=[x,.ref D]/\jo X.K H x t/\rB X.K t (.ref D)=some b/\Q (.bl b) H):=by
 intro ae s σ H xs us Q I r h;obtain⟨x,D,t,b,rfl,ty,e,q⟩:=h;obtain⟨u,u',rfl,ru,Ri⟩:=vals2 r;cases Ri;exact qE I ru ty e λtk=>⟨.bl b,H,I.tok _,rfl,q⟩
theorem SD(O:mR X.K X.mg P){d:Nat}{py:Pos}(hy:P.cn[d]?=some y)(hm:X.mg "isinstance" = none)(ha:PE X a (tE (P.kt X) fa))(hg:Gl X "isinstance")(Sb:Gl X y)(hs:noStar a=true)(hd:bZ y)(Qf:(P.fn[d]?).isSome=true) :
  PE X (.Call (.Name "isinstance" p) [a,.Name y py] [] pos) (tE (P.kt X) (cu (gH P.sub [d]) fa)):=by
 obtain⟨ns,wF⟩:=Ct.mp Qf;obtain⟨D,FD⟩:=O.cls d y ns hy wF;have xg:starEach [Expr.Name y py] X.env=(false,eval (.Name y py) X.env)::starEach [] X.env:=rfl;refine aM (gQ D8 hg hm Cy (aV ha (aV (rN (v:=.ref D) Sb FD.gl rfl hd) cK xg) (aq hs)) (he:=aq hs) (hpl:=rfl)) λσ H Q zz=>?_;obtain⟨g,s,t,s',x,h,k⟩:=zz;obtain⟨⟨tx,s1⟩,h1,h⟩:=aa h;obtain⟨t',h2,h⟩:=aa h;cases h;refine⟨g,s,_,_,x,h1,λv g1 H1 p1 x1 r1=>?_⟩;have h2:=aj h2;cases tx<;>first|(cases h2;done)|skip
 obtain⟨l,hl,rfl⟩:=cH.mp h2;obtain⟨a,C,dx,Du,vs,rfl,hC,hq,hle,hdx,r⟩:=r1;obtain⟨m,Xz,XA,F⟩:=O.of hC;refine⟨_,D,_,_,rfl,.ins (x1.sub _ _ hq) F.cl F.ca O.gt.1 O.gt.2 F.mo,O.sub _ d m y C D l Xz hy F.gl FD.gl hl,?_⟩
 have:=k (V.bl (decide (d∈l))) g1 H1 p1 x1 (by show _=V.bl (([d]:B1).any λd=>decide (d∈l));simp)
 exact this
abbrev jO(P:Pg)(K:bu)(Pr:Program)(w:World):KT:=⟨K,Pr,w,P.cn,P.fn⟩
def qT(B:KT)(f:Fn):Sp:=λvs H Q _=>∃g ts m t m',fX B g H m/\aA B g.al g.HF ts vs/\f ts m=.ok (t,m')/\∀v g' H',fj g H g' H'->fX B g' H' m'->Rep B g'.al g'.HF t v->Q v H'
structure XC(P:Pg)(Pr:Program)(w:World)(K:bu)(mg:Str->D1)(base:Heap)(k:Nat)(x:Str)(ds:FK)(f:Fn):Prop where
 ex:∃(fa:Addr)(fd:FuncData)(ps:Bi)(gF:B2)(dV:List V),dO Pr w K mg base mK k fa fd ps (qT (jO P K Pr w) f)/\mg x=some (.ref fa)/\pX K (.ref fa)=true/\Binds K fd ps gF/\Vals dV gF/\∀al H,aA (jO P K Pr w) al H ds dV
theorem kH{f:Fn}{ds:FK}{t:T}(h:ao f ds fl s=.ok (t,s')):∃ts s1 m',fl s=.ok (ts,s1)/\f (ts++ds) s1.m=.ok (t,m')/\s'={s1 with m:=m'}:=by
 obtain⟨⟨ts,s1⟩,h1,h⟩:=aa h;dsimp only at h;cases q:f (ts++ds) s1.m with
 |ok r=>rw[q]at h;cases h;exact⟨ts,s1,r.2,h1,q,rfl⟩
 |bad=>rw[q]at h;cases h
 |exc c fs s2=>rw[q]at h;cases h
theorem uU{B:KT}{f:Fn}{ts:FK}{t:T}{m':FV}{vs:List V}{Q:VK}{E:XK}(x:SR B g H σ s)(r:aA B g.al g.HF ts vs)(h:f ts s.m=.ok (t,m'))(k:∀v g' H',fj g H g' H'->SR B g' H' σ {s with m:=m'}->Rep B g'.al g'.HF t v->Q v H'):qT B f vs H Q E:=
 ⟨g.ai,ts,s.m,t,m',x.st.ai,r,h,λv g' H' p y rv=>let⟨p2,x2⟩:=x.back p y;k v (G.back g g') H' p2 x2 rv⟩
theorem s_call{k j:Nat}{ds:FK}{f:Fn}(D:XC P X.prog X.w X.K X.mg X.base k x ds f)(hr:bH j X.A)(Ba:k<=j)(ha:PA X (e::es) (tA (P.kt X) fl))(hg:Gl X x)(nQ:bZ x)(hs:(e::es).all noStar=true) :
  PE X (.Call (.Name x p) (e::es) [] pos) (tE (P.kt X) (ao f ds fl)):=by
 obtain⟨ff,fd,ps,gF,dV,F,hm,hk,hb,hd,uV⟩:=D.ex;rw[fF,dc]at hs;refine aM (Hb F (hr.mono Ba) hg hm hk hb hd nS ha nQ (aq hs.1) (eY hs.2)) λσ H Q zz=>?_;obtain⟨g,s,t,s',x,h,k⟩:=zz;obtain⟨ts,s1,m',h1,h2,rfl⟩:=kH h;exact⟨g,s,ts,s1,x,h1,λvs g1 H1 p1 x1 r1=>uU x1 (r1.app (uV _ _)) h2 λv g' H' p2 x2 rv=>k v g' H' (p1.trans p2) x2 rv⟩
theorem HZ{k j:Nat}{ds:FK}{f:Fn}(D:XC P X.prog X.w X.K X.mg X.base k x ds f)(hr:bH j X.A)(Ba:k<=j)(hg:Gl X x)(nQ:bZ x) :
  PE X (.Call (.Name x p) [] [] pos) (tE (P.kt X) (ao f ds aZ)):=by
 obtain⟨ff,fd,ps,gF,dV,F,hm,hk,hb,hd,uV⟩:=D.ex;refine aM (CW F (hr.mono Ba) hg hm hk hb hd nS nQ) λσ H Q zz=>?_;obtain⟨g,s,t,s',x,h,k⟩:=zz;obtain⟨ts,s1,m',h1,h2,rfl⟩:=kH h;cases h1;exact uU (E:=E0) (vs:=[]++dV) x (uV _ _) h2 λv g' H' p2 x2 rv=>k v g' H' p2 x2 rv
structure VB(P:Pg)(Pr:Program)(w:World)(K:bu)(mg:Str->D1)(base:Heap)(k:Nat)(c:Nat)(m:Str)(f:Fn):Prop where
 ex:∃(C fa:Addr)(fd:FuncData)(ps:Bi)(ns:Bi),iR (jO P K Pr w) c C ns/\qe K C/\Meth K C m fa/\dO Pr w K mg base mK k fa fd ps (qT (jO P K Pr w) f)/\Binds K fd ps []/\m∉ns
theorem D9{ι:Type}{t:ι->TE}{t':TE}{C:ι->Prop}(h:∀i,C i->PE X e (t i))(k:∀σ H Q,t' σ H Q->∃i,C i/\t i σ H Q):PE X e t':=λae s σ H Q I q=>by
 obtain⟨i,hi,hq⟩:=k σ H Q q;exact h i hi ae s σ H Q I hq
def D_(X:Cx)(o:Expr)(m:Str)(cL:Pos)(es:Bz)(pos:Pos):Prop:=∃pl,eval (.Call (.Attribute o m cL) es [] pos) X.env=(do
   let ov <- eval o X.env
   standAt cL.atName
   let(f,first) <- holding [ov] (getMethod ov m pl)
   callWith pos f first (backTo pos (starEach es X.env)) (backToKw pos (keywordEach [] X.env)))
theorem uW{gm:Nat->Option Fn}{t:T}(h:aw gm fo fl s=.ok (t,s')):∃tx s1 c f ts s2 m',fo s=.ok (tx,s1)/\((∃k ob,tx=.own k/\s1.m[k]?=some ob/\ob.c=c)\/∃fs,tx=.obj c fs)/\gm c=some f/\fl s1=.ok (ts,s2)/\f (tx::ts) s2.m=.ok (t,m')/\s'={s2 with m:=m'}:=by
 obtain⟨⟨tx,s1⟩,h1,h⟩:=aa h;cases tx<;>first|(cases h;done)|skip
 ·rename_i c fs
  obtain⟨f,h2,h⟩:=aa h;obtain⟨us,s2,m',h3,h4,rfl⟩:=kH h;obtain⟨⟨ts,s3⟩,h5,h6⟩:=aa h3;cases h6;rw[cY]at h4;exact⟨_,s1,c,f,ts,_,m',h1,.inr ⟨fs,rfl⟩,aj h2,h5,h4,rfl⟩
 ·rename_i kk
  obtain⟨f,h2,h⟩:=aa h;obtain⟨ob,h7,h8⟩:=eM.mp (aj h2);obtain⟨us,s2,m',h3,h4,rfl⟩:=kH h;obtain⟨⟨ts,s3⟩,h5,h6⟩:=aa h3;cases h6;rw[cY]at h4;exact⟨_,s1,ob.c,f,ts,_,m',h1,.inl ⟨kk,ob,rfl,h7,rfl⟩,h8,h5,h4,rfl⟩
theorem Ea{B:KT}{C:Addr}{ns:Bi}{c:Nat}{tx:T}{v:V}(x:SR B g H σ s)(hC:iR B c C ns)(r:Rep B g.al g.HF tx v)(h:(∃k ob,tx=.own k/\s.m[k]?=some ob/\ob.c=c)\/∃fs,tx=.obj c fs):∃a dx vs,v=.ref a/\H a=some (.ins C dx (ns.zip vs)):=by
 rcases h with⟨k,ob,rfl,h1,rfl⟩|⟨fs,rfl⟩
 ·obtain⟨a,rfl,ha⟩:=r
  rcases x.st.at_ k ob h1 with⟨a',C',dx,Du,vs,Z⟩|⟨a',Z⟩
  case inr=>
   obtain⟨n,q,_⟩:=hC;rw[Z.nc]at q;cases q
  have:=Z.al.symm.trans ha
  cases this;obtain⟨rfl,rfl⟩:=Z.cl.eq hC;exact⟨a,dx,vs,rfl,Z.h⟩
 ·obtain⟨a,C',dx,Du,vs,rfl,hC',hq,_⟩:=r
  obtain⟨rfl,rfl⟩:=hC'.eq hC;exact⟨a,dx,vs,rfl,x.sub _ _ hq⟩
theorem Nt{m:Str}{k j:Nat}{gm:Nat->Option Fn}(D:∀c f,gm c=some f->VB P X.prog X.w X.K X.mg X.base k c m f)(hr:bH j X.A)(Ba:k<=j)(ho:PE X o (tE (P.kt X) fo))(ha:PA X (e::es) (tA (P.kt X) fl))(hs:(e::es).all noStar=true)(mc:D_ X o m cL (e::es) pos) :
  PE X (.Call (.Attribute o m cL) (e::es) [] pos) (tE (P.kt X) (aw gm fo fl)):=by
 obtain⟨pl,mc⟩:=mc;rw[fF,dc]at hs;refine D9 (ι:=Addr×Fn) (C:=λi=>∃c fa fd ps ns,iR (P.kt X) c i.1 ns/\gm c=some i.2/\qe X.K i.1/\Meth X.K i.1 m fa/\dO X.prog X.w X.K X.mg X.base mK k fa fd ps (qT (P.kt X) i.2)/\Binds X.K fd ps []/\m∉ns)
  (t:=λi=>yS i.1 m (qT (P.kt X) i.2) [] E0 (tE (P.kt X) fo) (tA (P.kt X) fl)) (λi ⟨c,fa,fd,ps,ns,hC,_,cl,M,F,hb,_⟩=>Hc (pl:=pl) ho cl M F (hr.mono Ba) hb .nil nS ha (aq hs.1) (eY hs.2) mc) ?_
 rintro σ H Q ⟨g,s,t,s',x,h,k⟩
 obtain⟨tx,s1,c,f,ts,s2,m',h1,hc,hf,h3,h4,rfl⟩:=uW h;obtain⟨C,fa,fd,ps,ns,hC,cl,M,F,hb,hn⟩:=(D c f hf).ex;refine⟨(C,f),⟨c,fa,fd,ps,ns,hC,hf,cl,M,F,hb,hn⟩,g,s,_,s1,x,h1,λv g1 H1 p1 x1 r1=>?_⟩;obtain⟨a,dx,vs,rfl,hi⟩:=Ea x1 hC r1 hc;refine⟨a,dx,_,rfl,hi,oJ hn,g1,s1,ts,s2,x1,h3,λus g2 H2 p2 x2 r2=>?_⟩;show qT _ _ (V.ref a::(us++[])) H2 Q E0;rw[cY];exact uU (ts:=tx::ts) x2 ⟨_,us,rfl,r1.mv p2.pre p2.fr,r2⟩ h4 λv g' H' p3 x3 rv=>k v g' H' ((p1.trans p2).trans p3) x3 rv
theorem H0{m:Str}{k j:Nat}{gm:Nat->Option Fn}(D:∀c f,gm c=some f->VB P X.prog X.w X.K X.mg X.base k c m f)(hr:bH j X.A)(Ba:k<=j)(ho:PE X o (tE (P.kt X) fo))(mc:D_ X o m cL [] pos) :
  PE X (.Call (.Attribute o m cL) [] [] pos) (tE (P.kt X) (aw gm fo aZ)):=by
 obtain⟨pl,mc⟩:=mc;refine D9 (ι:=Addr×Fn) (C:=λi=>∃c fa fd ps ns,iR (P.kt X) c i.1 ns/\gm c=some i.2/\qe X.K i.1/\Meth X.K i.1 m fa/\dO X.prog X.w X.K X.mg X.base mK k fa fd ps (qT (P.kt X) i.2)/\Binds X.K fd ps []/\m∉ns)
  (t:=λi=>yS i.1 m (qT (P.kt X) i.2) [] E0 (tE (P.kt X) fo) Ha) (λi ⟨c,fa,fd,ps,ns,hC,_,cl,M,F,hb,_⟩=>CY (pl:=pl) ho cl M F (hr.mono Ba) hb .nil nS mc) ?_
 rintro σ H Q ⟨g,s,t,s',x,h,k⟩
 obtain⟨tx,s1,c,f,ts,s2,m',h1,hc,hf,h3,h4,rfl⟩:=uW h;cases h3;obtain⟨C,fa,fd,ps,ns,hC,cl,M,F,hb,hn⟩:=(D c f hf).ex;refine⟨(C,f),⟨c,fa,fd,ps,ns,hC,hf,cl,M,F,hb,hn⟩,g,s,_,s1,x,h1,λv g1 H1 p1 x1 r1=>?_⟩;obtain⟨a,dx,vs,rfl,hi⟩:=Ea x1 hC r1 hc;exact⟨a,dx,_,rfl,hi,oJ hn,uU (E:=E0) (ts:=[tx]) (vs:=[.ref a]) x1 (.one r1) h4 λv g' H' p3 x3 rv=>k v g' H' (p1.trans p3) x3 rv⟩
def spI(C:Addr)(ns:Bi):Sp:=λvs H Q _=>∃x dx args,vs=.ref x::args/\args.length=ns.length/\H x=some (.ins C dx [])/\Q .non (upd H x (.ins C dx (ns.zip args)))
structure DnC(P:Pg)(Pr:Program)(w:World)(K:bu)(mg:Str->D1)(base:Heap)(k:Nat)(c n:Nat)(x:Str):Prop where
 ex:∃(C fi:Addr)(fd:FuncData)(ps:Bi)(ns:Bi),iR (jO P K Pr w) c C ns/\ns.length=n/\mg x=some (.ref C)/\Mk K C fi/\dO Pr w K mg base mK k fi fd ps (spI C ns)/\Binds K fd ps []
theorem zk{B:KT}{c:Nat}{C x dx:Addr}{ns:Bi}{ts:FK}{vs:List V}(X1:SR B g H σ s)(hC:iR B c C ns)(hl:vs.length<=ns.length)(r:aA B g.al g.HF ts vs)(nx:H x=none)(nd:H dx=none)(iQ:dx≠x) :
  ∃gr:Gr g.HF H (upd (upd g.HF dx (.own x)) x (.ins C dx (ns.zip vs))) (upd (upd H dx (.own x)) x (.ins C dx (ns.zip vs))),Rep B g.al (upd (upd g.HF dx (.own x)) x (.ins C dx (ns.zip vs))) (.obj c ts) (.ref x):=by
 have g2:=Gr.new (o:=.own x) X1.sub nd;have XD:upd H dx (.own x) x=none:=by rw[au (Ne.symm iQ)];exact nx
 have g3:=Gr.new (o:=.ins C dx (ns.zip vs)) g2.sub XD;exact⟨g2.trans g3,x,C,dx,ns,vs,rfl,hC,ah,hl,by rw[au iQ,ah],r.same (g2.fr.trans g3.fr)⟩
theorem SE{k j c n:Nat}(D:DnC P X.prog X.w X.K X.mg X.base k c n x)(hr:bH j X.A)(Ba:k+1<=j)(ha:PA X (e::es) (tA (P.kt X) fl))(hg:Gl X x)(nQ:bZ x)(hs:(e::es).all noStar=true) :
  PE X (.Call (.Name x p) (e::es) [] pos) (tE (P.kt X) (cT c n fl)):=by
 obtain⟨C,f,fd,ps,ns,hC,hn,hm,M,F,hb⟩:=D.ex;rw[fF,dc]at hs;refine aM (rX M F (hr.mono Ba) hg hm hb .nil nS ha nQ (aq hs.1) (eY hs.2)) λσ H Q zz=>?_;obtain⟨g,s,t,s',x,h,k⟩:=zz;obtain⟨⟨ts,s1⟩,h1,h⟩:=aa h;dsimp only at h;split at h
 ·rename_i hl
  cases h;refine⟨g,s,ts,_,x,h1,λvs g1 H1 p1 x1 r1 x dx nx nd iQ=>?_⟩;have hvl:vs.length=ns.length:=by rw[<- r1.len,hl,hn]
  refine⟨x,dx,vs++[],rfl,by rw[cY,hvl],ah,rfl,?_⟩
  rw[cY,rH];obtain⟨gr,rp⟩:=zk (c:=c) (ts:=ts) x1 hC (by omega) r1 nx nd iQ
  exact k _ (g1.grow _) _ (p1.trans (x1.iE gr)) (x1.grow gr) rp
 ·cases h
section
structure Mk0(K:bu)(C:Addr):Prop where
 makes:BN K C=true
 init:gE K (.ref C) "__init__" = some (some (.builtin "object.__init__"))
 kp:pX K (.ref C)=true
def XE(C:Addr):TE:=λ_ H Q=>∀x dx,H x=none->H dx=none->dx≠x->Q (.ref x) (upd (upd H dx (.own x)) x (.ins C dx []))
open PySem.W in
theorem Nu{C:Addr}(M:Mk0 X.K C)(hg:Gl X x)(hm:X.mg x=some (.ref C))(nQ:bZ x:=by decide):PE X (.Call (.Name x p) [] [] pos) (XE C):=by
 intro ae s σ H Q I h;refine wpAny_Call_Name_kw (j9 I hg hm ?_ nQ);refine BU I.j7 M.kp ?_;have hq:=h (s.heap.objs.size+1) s.heap.objs.size (I.ba.fresh (Nat.le_succ _)) (I.ba.fresh (dj _)) (eL (wQ _));have I2:=Inv.made (C:=C) I;have KX:=I.j7;obtain⟨hh,g,d,t,os⟩:=s;refine wpAny_call ?_;have Y:=makes_of (M:=model X.prog X.w) KX M.makes;refine make_core Y (looks_findIn KX M.init) (λself=>Looks.of_pure (oi_bind self)) (.inr ⟨rfl,rfl⟩) ?_;have hz:(hh.push emptyDict).objs.size=hh.objs.size+1:=Heap.size_push ..;have gt:((hh.push emptyDict).push (instObj C hh.objs.size)).get? (hh.objs.size+1)=some (instObj C hh.objs.size):=by
  rw[<- hz];exact Heap.get?_push_size _ rfl
 have t1:Looks (model X.prog X.w) ((hh.push emptyDict).push (instObj C hh.objs.size)) (typeOf (.ref (hh.objs.size+1))) (.ref C):=(Looks.ld gt).andThen .now;have t2:Looks (model X.prog X.w) ((hh.push emptyDict).push (instObj C hh.objs.size)) (isInstance (.ref (hh.objs.size+1)) (.type "object")) true:=t1.andThen (Y.top.keeps λb o e=>Heap.get?_push_of_some _ (Heap.get?_push_of_some _ e));refine codeAny_call_builtin oi_plain entry_oi (@check_slot (model X.prog X.w) _ _ _ "object.__init__" "object" "__init__" (.ref (hh.objs.size+1)) [] [] _ oi_kind oi_split t2 (oi_args (.ref (hh.objs.size+1))) ?_);show wpAny _ _ (Builtin.«object.__init__» ⟨[Value.ref (hh.objs.size+1)],[]⟩) _ _ _;rw[oi_run];exact wpAny_pure (And.intro rfl ⟨V.ref (hh.objs.size+1),_,I2,rfl,hq⟩)
end
structure SG(P:Pg)(Pr:Program)(w:World)(K:bu)(mg:Str->D1)(c:Nat)(x:Str):Prop where
 ex:∃(C:Addr)(ns:Bi),iR (jO P K Pr w) c C ns/\mg x=some (.ref C)/\Mk0 K C
theorem Nv{c:Nat}(D:SG P X.prog X.w X.K X.mg c x)(hg:Gl X x)(nQ:bZ x):PE X (.Call (.Name x p) [] [] pos) (tE (P.kt X) (cT c 0 aZ)):=by
 obtain⟨C,ns,hC,hm,M⟩:=D.ex;refine aM (Nu M hg hm nQ) λσ H Q zz=>?_;obtain⟨g,s,t,s',z,h,k⟩:=zz;cases h;intro x dx nx nd iQ;obtain⟨gr,rp⟩:=zk (c:=c) (ts:=[]) (vs:=[]) z hC (iN _) rfl nx nd iQ;have e:ns.zip ([]:List V)=[]:=J2
 have:=k _ (g.grow _) _ (z.iE gr) (z.grow gr) rp
 rw[e]at this;exact this
section
structure Walk(B:KT)(al:BM)(J:It)(HF:Hp)(ts:FK):Prop where
 go:∀i H,aL HF H->i<ts.length->J.go i H
 yld:∀i H x H',aL HF H->i<ts.length->J.yld i H x H'->∃t,ts[i]?=some t/\∀uX,aL HF uX->aL uX H->∃Nx,Gr uX H Nx H'/\Rep B al Nx t x
 stop:∀i H,aL HF H->i=ts.length->J.stop i H
theorem Bb{B:KT}{al:BM}{HF:Hp}{l:Addr}{ts:FK}{vs:List V}(h:HF l=some (.lst vs))(r:aA B al HF ts vs):Walk B al (Vl B.K l) HF ts:=by
 refine⟨λi H sm hi=>?_,λi H x H' sm hi y=>?_,λi H sm hi=>⟨vs,df.of (sm _ _ h),by rw[hi,r.len];exact dj _⟩⟩
 ·obtain⟨v,e,_⟩:=r.get (cj hi)
  exact⟨vs,v,df.of (sm _ _ h),e⟩
 ·obtain⟨rfl,y⟩:=y
  have e:=y vs (df.of (sm _ _ h));obtain⟨t,e1,e2⟩:=r.xD e;exact⟨t,e1,λuX s1 s2=>⟨uX,.refl s2,e2.same s1⟩⟩
theorem Eb{B:KT}{al:BM}{HF:Hp}{l:Addr}{ts:FK}{vs:List V}(h:lV B.K HF l vs)(r:aA B al HF ts vs):Walk B al (We B.K l) HF ts:=by
 refine⟨λi H sm hi=>?_,λi H x H' sm hi y=>?_,λi H sm hi=>⟨vs,bW sm h,by rw[hi,r.len];exact dj _⟩⟩
 ·obtain⟨v,e,_⟩:=r.get (cj hi)
  exact⟨vs,v,bW sm h,e⟩
 ·obtain⟨rfl,y⟩:=y
  have e:=y vs (bW sm h);obtain⟨t,e1,e2⟩:=r.xD e;exact⟨t,e1,λuX s1 s2=>⟨uX,.refl s2,e2.same s1⟩⟩
theorem kI{B:KT}{al:BM}{J:It}{src:List V}{ts:FK}{HF:Hp}(d:Vu J src (λ_=>True))(r:aA B al HF ts src):Walk B al J HF ts:=by
 refine⟨λi H sm hi=>d.go i H trivial (by rw[<- r.len];exact hi),λi H x H' sm hi y=>?_,λi H sm hi=>d.stop i H trivial (by rw[<- r.len];exact hi)⟩
 obtain⟨rfl,e⟩:=d.yld i H x H' trivial (by rw[<- r.len];exact hi) y
 obtain⟨t,e1,e2⟩:=r.xD e;exact⟨t,e1,λuX s1 s2=>⟨uX,.refl s2,e2.same s1⟩⟩
theorem aA.jv{B:KT}{al:BM}{H:Hp}(lo:Int)(n:Nat):aA B al H (D.jv lo n) ((b9 n).map λk=>V.int (lo+(k:Nat))):=by
 have e1:D.jv lo n=((b9 n).map λk=>lo+((k:Nat):Int)).map T.int:=by unfold D.jv;rw[iL];rfl
 have e2:((b9 n).map λk=>V.int (lo+(k:Nat)))=((b9 n).map λk=>lo+((k:Nat):Int)).map V.int:=by rw[iL];rfl
 rw[e1,e2];exact aA.ints _
theorem Ec(hi:Int)(n:Nat):Vu (WK hi n) ((b9 n).map λk=>V.int (hi-(k:Nat))) (λ_=>True):=
 ⟨λi H _ h=>by rw[cD,j5]at h;exact h,
  λi H x H' _ hi y=>by
  obtain⟨e,ex⟩:=y;refine⟨e,?_⟩;have hi:i<n:=by rw[cD,j5]at hi;exact hi
  rw[eG,yw hi,ex];rfl,
  λi H _ h=>by rw[cD,j5]at h;exact Cp h.symm⟩
theorem aA.dwn{B:KT}{al:BM}{H:Hp}(hi:Int)(n:Nat):aA B al H ((b9 n).map λk=>T.int (hi-(k:Nat))) ((b9 n).map λk=>V.int (hi-(k:Nat))):=by
 have e1:((b9 n).map λk=>T.int (hi-(k:Nat)))=((b9 n).map λk=>hi-((k:Nat):Int)).map T.int:=by rw[iL];rfl
 have e2:((b9 n).map λk=>V.int (hi-(k:Nat)))=((b9 n).map λk=>hi-((k:Nat):Int)).map V.int:=by rw[iL];rfl
 rw[e1,e2];exact aA.ints _
structure Sets(B:KT)(al:BM)(HF:Hp)(S:B1)(σ σ':St)(ρ ρ':Fs):Prop where
 len:σ'.length=σ.length
 lenR:ρ'.length=ρ.length
 off:∀(i:Nat),i∉S->σ'[i]?=σ[i]?/\ρ'[i]?=ρ[i]?
 on:∀(i:Nat),i∈S->i<ρ.length->∃(t:T)(v:V),ρ'[i]?=some (some (.val t))/\σ'[i]?=some (some v)/\Rep B al HF t v
structure qq(B:KT)(g:TG)(fg:FG)(S:B1):Prop where
 ok:∀(al:BM)(HF H:Hp)(σ:St)(ρ:Fs)(t:T)(v:V)(ρ':Fs)(Q:St->Hp->Prop),aL HF H->Rep B al HF t v->fg t ρ=some ρ'->ρ.length=σ.length->(∀σ',Sets B al HF S σ σ' ρ ρ'->Q σ' H)->g v σ H Q
theorem Sets.one{B:KT}{al:BM}{HF:Hp}{i:Nat}{σ:St}{ρ:Fs}{t:T}{v:V}(hl:ρ.length=σ.length)(r:Rep B al HF t v):Sets B al HF [i] σ (σ.set i (some v)) ρ (ρ.set i (some (.val t))):=by
 refine⟨eW,eW,λj hj=>?_,λj hj fM=>?_⟩
 ·have:i≠j:=λe=>hj (by simp[e])
  rw[c5 this,c5 this];exact⟨rfl,rfl⟩
 ·have:j=i:=by simpa using hj
  subst this;exact⟨t,v,by rw[eV fM],by rw[eV (by omega)],r⟩
theorem zl{B:KT}(i:Nat):qq B (yR i) (setG i) [i]:=⟨λal HF H σ ρ t v ρ' Q sm r h hl q=>by
 cases h;exact q _ (.one hl r)⟩
theorem Sets.cons{B:KT}{al:BM}{HF:Hp}{i:Nat}{S:B1}{σ σ':St}{ρ ρ':Fs}{t:T}{v:V}(hl:ρ.length=σ.length)(r:Rep B al HF t v)(h:Sets B al HF S (σ.set i (some v)) σ' (ρ.set i (some (.val t))) ρ'):Sets B al HF (i::S) σ σ' ρ ρ':=by
 have o:=Sets.one (B:=B) (al:=al) (i:=i) hl r;refine⟨h.len.trans o.len,h.lenR.trans o.lenR,λj hj=>?_,λj hj fM=>?_⟩
 ·obtain⟨h1,h2⟩:=h.off j (λz=>hj (by simp[z]))
  obtain⟨h3,h4⟩:=o.off j (λz=>hj (by simp at z;simp[z]))
  exact⟨h1.trans h3,h2.trans h4⟩
 ·by_cases hs:j∈S
  ·exact h.on j hs (by rw[eW];exact fM)
  ·obtain⟨h1,h2⟩:=h.off j hs
   obtain⟨t',v',a,b,c⟩:=o.on j (by rcases bA.mp hj with z|z;exact(by simp[z]);exact absurd z hs) fM
   exact⟨t',v',h2.trans a,h1.trans b,c⟩
def lK:B1->GL
 |[]=>Qu
 |i::is=>KL (yR i) (lK is)
theorem lL{B:KT}{al:BM}:∀(is:B1)(HF H:Hp)(σ:St)(ρ:Fs)(ts:FK)(vs:List V)(ρ':Fs)(Q:St->Hp->Prop),aL HF H->aA B al HF ts vs->qO is ts ρ=some ρ'->ρ.length=σ.length->(∀σ',Sets B al HF is σ σ' ρ ρ'->Q σ' H)->lK is vs σ H Q
 |[],HF,H,σ,ρ,ts,vs,ρ',Q,sm,r,h,hl,q=>by
  cases ts with
  |cons t ts=>cases h
  |nil=>
   cases h;cases(show vs=[]from r);exact⟨rfl,q _ ⟨rfl,rfl,λ_ _=>⟨rfl,rfl⟩,λi hi=>by cases hi⟩⟩
 |i::is,HF,H,σ,ρ,ts,vs,ρ',Q,sm,r,h,hl,q=>by
  cases ts with
  |nil=>cases h
  |cons t ts=>
   obtain⟨v,gn,rfl,r1,r2⟩:=r;refine⟨v,gn,rfl,?_⟩;exact lL is HF H _ _ ts gn ρ' Q sm r2 h (by rw[eW,eW];exact hl) λσ' s=>q σ' (.cons hl r1 s)
theorem Ed{B:KT}(is:B1){n:Nat}(hn:is.length=n:=by rfl):qq B (Mi B.K n (lK is)) (dh is) is:=⟨λal HF H σ ρ t v ρ' Q sm r h hl q=>by
 cases t<;>first|(cases h;done)|skip
 ·rename_i ts
  obtain⟨a,vs,rfl,q1,r⟩:=r;have ck:∀(is:B1)(ts:FK)(ρ:Fs),qO is ts ρ=some ρ'->is.length=ts.length:=by
   intro is
   induction is with
   |nil=>intro ts ρ h;cases ts with
    |nil=>rfl
    |cons=>cases h
   |cons i is ih=>intro ts ρ h;cases ts with
    |nil=>cases h
    |cons t ts=>simp[ih ts _ h]
  exact⟨a,vs,rfl,bW sm q1,by rw[<- r.len,<- ck _ _ _ h,hn],lL is HF H σ ρ ts vs ρ' Q sm r h hl q⟩
⟩
theorem Walk.mv{al HE:BM}{J:It}{HF gy:Hp}{ts:FK}(w:Walk B al J HF ts)(p:al <+: HE)(s:aL HF gy):Walk B HE J gy ts:=
 ⟨λi H h=>w.go i H (s.trans h),λi H x H' h hi y=>let⟨t,h1,h2⟩:=w.yld i H x H' (s.trans h) hi y;⟨t,h1,λuX s1 s2=>let⟨Nx,gr,r⟩:=h2 uX (s.trans s1) s2;⟨Nx,gr,r.mv p (aL.refl _)⟩⟩,λi H h=>w.stop i H (s.trans h)⟩
def tI(B:KT)(f:FL):TI:=λσ H R=>∃g s ts s',SR B g H σ s/\f s=.ok (ts,s')/\∀J g' H',fj g H g' H'->SR B g' H' σ s'->Walk B g'.al J g'.HF ts->R J H'
theorem uY:PI X tg e (tI B fV):=λ_ _ _ _ _ _ ⟨_,_,_,_,_,h,_⟩=>by cases h
theorem La{t t':TI}(h:PI X tg e t)(h':PI X tg e t'):PI X tg e (λσ H R=>t σ H R\/t' σ H R):=λae s σ H R I q=>by
 rcases q with q|q
 ·exact h ae s σ H R I q
 ·exact h' ae s σ H R I q
def Ny:T->Bool
 |.str _=>false
 |_=>true
def Nz:T->FC
 |.str _=>none
 |t=>Vz t
def Ef(a:FE):FL:=λs=>(a s).bind λp=>(aY (Nz p.1)).bind λts=>.ok (ts,p.2)
theorem Bc{al:BM}{HF:Hp}{a:Addr}{ns:Dx}(h:df B.K HF a (ns.map V.int)):Walk B al (Vl B.K a) HF (ns.map T.int):=by
 refine⟨λi H sm hi=>?_,λi H x H' sm hi y=>?_,λi H sm hi=>⟨_,sm.seq h,by rw[hi,cD,cD];exact dj _⟩⟩
 ·rw[cD]at hi
  exact⟨_,.int ns[i],sm.seq h,by rw[eG,cj hi];rfl⟩
 ·rw[cD]at hi
  obtain⟨rfl,y⟩:=y;have e:=y _ (sm.seq h);obtain⟨t,e1,e2⟩:=(aA.ints (B:=B) (al:=al) (H:=HF) ns).xD e;exact⟨t,e1,λuX s1 s2=>⟨uX,.refl s2,e2.same s1⟩⟩
theorem Lb(hB:B.K=X.K)(ha:PE X e (tE B fa)):PI X tg e (tI B (Ef fa)):=by
 refine l_ (La (G3 ha) (Mp ha)) λσ H R zz=>?_;obtain⟨g,s,t,s',x,h,k⟩:=zz;obtain⟨⟨tx,s1⟩,h1,h⟩:=aa h;obtain⟨ts,h2,h⟩:=aa h;cases h;have h2:=aj h2;have XF:=hB.symm;cases tx<;>first|(cases h2;done)|skip
 ·cases h2
  refine .inr ⟨g,s,_,_,x,h1,λv g1 H1 p1 x1 r1=>?_⟩;obtain⟨l,vs,rfl,q,r⟩:=r1;refine⟨l,rfl,⟨vs,hB▸bW x1.sub q⟩,?_⟩;rw[XF];exact k _ g1 H1 p1 x1 (Eb q r)
 ·cases h2
  refine .inl ⟨g,s,_,_,x,h1,λv g1 H1 p1 x1 r1=>?_⟩;obtain⟨l,vs,rfl,q,r⟩:=r1;refine⟨l,rfl,⟨vs,df.of (x1.sub _ _ q)⟩,?_⟩;rw[XF];exact k _ g1 H1 p1 x1 (Bb q r)
 ·cases h2
  refine .inl ⟨g,s,_,_,x,h1,λv g1 H1 p1 x1 r1=>?_⟩;obtain⟨l,rfl,q⟩:=r1;refine⟨l,rfl,⟨_,hB▸x1.sub.seq q⟩,?_⟩;rw[XF];exact k _ g1 H1 p1 x1 (Bc q)
theorem SH(hB:B.K=X.K){px:Pos}(ha:PE X e (tE B fa)):PI X (.Name x px) e (tI B (sy fa)):=by
 refine l_ (La (Lb hB ha) (MJ ha)) λσ H R zz=>?_;obtain⟨g,s,t,s',z,h,k⟩:=zz;obtain⟨⟨tx,s1⟩,h1,h⟩:=aa h;obtain⟨ts,h2,h⟩:=aa h;cases h;by_cases hs:Ny tx=true
 ·refine .inl ⟨g,s,t,_,z,?_,k⟩
  unfold Ef;rw[h1];show(aY (Nz tx)).bind _=_;have e:Nz tx=Vz tx:=by cases tx<;>first|rfl|(cases hs)
  rw[e,h2];rfl
 ·cases tx<;>first|(exact absurd rfl hs)|skip
  have h2:=aj h2;cases h2;refine .inr ⟨g,s,_,_,z,h1,λv g1 H1 p1 x1 r1=>?_⟩;obtain⟨rfl,hz⟩:=r1;exact⟨_,rfl,k _ g1 H1 p1 x1 (kI (Hs _) (aA.signs _))⟩
theorem Eg(hg:Gl X "range")(hm:X.mg "range" = none)(ha:PE X a (tE B fa))(hs:noStar a=true):PI X tg (.Call (.Name "range" p) [a] [] pos) (tI B (tR jt (bK fa aZ))):=by
 have h0:starEach [a] X.env=[(false,eval a X.env)]:=aq hs;refine l_ (AI hg hm (aV ha cK h0) h0) λσ H R zz=>?_;obtain⟨g,s,t,s',x,h,k⟩:=zz;obtain⟨⟨ts,s1⟩,h1,h⟩:=aa h;obtain⟨us,h2,h⟩:=aa h;cases h;obtain⟨⟨tx,s2⟩,h3,h1⟩:=aa h1;cases h1;have h2:=aj h2;cases tx<;>first|(cases h2;done)|skip
 obtain⟨z,rfl⟩:=aT h2;refine⟨g,s,_,_,x,h3,λv g1 H1 p1 x1 r1=>?_⟩;cases r1;exact⟨_,rfl,by omega,by omega,k _ g1 H1 p1 x1 (kI (qL 0 _) (aA.jv 0 _))⟩
theorem Eh(hg:Gl X "range")(hm:X.mg "range" = none)(ha:PE X a (tE B fa))(hb:PE X b (tE B fb))(hs:noStar a=true)(Dd:noStar b=true):PI X tg (.Call (.Name "range" p) [a,b] [] pos) (tI B (tR jt (bK fa (bK fb aZ)))):=by
 have h0:starEach [b] X.env=[(false,eval b X.env)]:=aq Dd;have h00:starEach [a,b] X.env=[(false,eval a X.env),(false,eval b X.env)]:=by rw[aq hs,h0]
 refine l_ (AJ hg hm (aV ha (aV hb cK h0) (by rw[h00,h0])) h00 h0) λσ H R zz=>?_
 obtain⟨g,s,t,s',x,h,k⟩:=zz;obtain⟨⟨ts,s1⟩,h1,h⟩:=aa h;obtain⟨us,h2,h⟩:=aa h;cases h;obtain⟨⟨tx,s2⟩,h3,h1⟩:=aa h1;obtain⟨⟨ty,s3⟩,h4,h1⟩:=aa h1;cases h1;obtain⟨⟨tz,s4⟩,h5,h4⟩:=aa h4;cases h4;have h2:=aj h2;cases tx<;>first|(cases h2;done)|(cases tz<;>first|(cases h2;done)|skip)
 obtain⟨z,rfl⟩:=aT h2;refine⟨g,s,_,_,x,h3,λv g1 H1 p1 x1 r1=>⟨g1,_,_,_,x1,h5,λw g2 H2 p2 x2 r2=>?_⟩⟩;cases r1;cases r2;exact⟨_,_,rfl,⟨by omega,by omega,by omega,by omega⟩,k _ g2 H2 (p1.trans p2) x2 (kI (qL _ _) (aA.jv _ _))⟩
theorem oq.sets{al:BM}{S':B1}{σ':St}{r r':Fs}(x:oq B g H σ r)(hal:al=g.al)(t:Sets B al g.HF S' σ σ' r r'):oq B g H σ' r':=by
 subst hal;refine⟨by rw[t.lenR,t.len];exact x.len,λi c h=>?_⟩
 by_cases hi:i∈S'
 ·have fM:i<r.length:=by rw[<- t.lenR];exact(eA.mp h).1
  obtain⟨u,v,h1,h2,h3⟩:=t.on i hi fM;rw[h]at h1;cases h1;exact⟨v,h2,h3⟩
 ·obtain⟨h1,h2⟩:=t.off i hi
  rw[h2]at h;obtain⟨v,h3,h4⟩:=x.at_ i c h;exact⟨v,h1.trans h3,h4⟩
end
theorem xM{B:KT}{al:BM}{HF:Hp}{S:B1}{σ':St}{ρ ρ':Fs}{k:Nat}{js:B1}{σ:St}(hS:∀i∈S,i<k)(s:Sets B al HF S (cV k js σ) σ' ρ ρ'):c9 (cV k js σ) σ':=by
 have gen:∀(a b:St),a.length=b.length->(∀(i:Nat)(v:V),a[i]?=some (some v)->b[i]?=some (some v))->c9 a b:=by
  intro a
  induction a with
  |nil=>intro b hl _;cases b with
   |nil=>trivial
   |cons=>cases hl
  |cons x a ih=>intro b hl h;cases b with
   |nil=>cases hl
   |cons y b=>
    have hr:=ih b (by simpa using hl) λi v e=>by simpa using h (i+1) v (by simpa using e)
    cases x with
    |none=>exact hr
    |some v=>
     have:=h 0 v rfl
     simp at this;subst this;exact⟨rfl,hr⟩
 refine gen _ _ s.len.symm λi v e=>?_;by_cases hi:i∈S
 ·have hk:=hS i hi
  unfold cV at e;rw[gO (by rw[rC];exact hk),BX,if_pos hk]at e
  cases e
 ·rw[(s.off i hi).1];exact e
section
variable{scope:Scope}{ls fs:Bi}{js S':B1}{iter elt:Expr}{ifs:Bz}{gt:TG}{qz:FL}{fg:FG}{ft:FT}{fe:FE}
theorem SR.jJ:∀(js:B1){g:G}{s:S},SR B g H σ s->∃g',fj g H g' H/\SR B g' H σ {s with r:=jJ js s.r}
 |[],g,s,x=>⟨g,.refl,x⟩
 |j::js,g,s,x=>by
  show ∃g',fj g H g' H/\SR B g' H σ {s with r:=D.jJ js (HD s.r j)}
  have one:∃g1,fj g H g1 H/\SR B g1 H σ {s with r:=HD s.r j}:=by
   unfold HD;split
   ·rename_i ts h
    obtain⟨g1,v,p,y,_⟩:=x.jh h;exact⟨g1,p,y⟩
   ·exact⟨g,.refl,x⟩
  obtain⟨g1,p1,x1⟩:=one;obtain⟨g2,p2,x2⟩:=SR.jJ js x1;exact⟨g2,p1.trans p2,x2⟩
theorem oq.block{r:Fs}(x:oq B g H σ r)(k:Nat)(js:B1):oq B g.ai H (cV k js σ) (i9 k js r):=by
 refine⟨by unfold i9 cV;simp,λi c h=>?_⟩
 unfold i9 at h;unfold cV;by_cases hi:i<k
 ·rw[gO (by simpa using hi),BX,if_pos hi]at h
  cases h
 ·rw[fQ (by simpa using hi),rC,eG]at h
  rw[fQ (by simpa using hi),rC,eG]
  cases hj:js[i-k]? with
  |none=>rw[hj]at h;cases h
  |some j=>
   rw[hj]at h;have h:(match r[j]? with|some (some (.val t))=>some (C.val t)|_=>none)=some c:=by injection h
   split at h
   ·rename_i t hr
    cases h;obtain⟨v,h1,h2⟩:=x.at_ j _ hr;exact⟨v,by show some ((σ[j]?).join)=_;rw[h1];rfl,h2⟩
   ·cases h
theorem SR.NB{D:Addr}{u:HO}(x:SR B g H σ s)(hf:g.HF D=none)(ho:g.o D=none)(hl:∃w,H D=some w):SR B g (upd H D u) σ s:=by
 have ne:∀b p,g.o b=some p->b≠D:=λb p e z=>by rw[z,ho]at e;cases e
 refine⟨x.st.mv (λb w e=>?_) (λb p e=>?_) (aL.refl _) rfl λl p h _=>⟨h,au (ne l p h)⟩,x.lc.len,λi c e=>?_⟩
 ·have:b≠D:=λz=>by rw[z,hf]at e;cases e
  rw[au this];exact x.sub _ _ e
 ·obtain⟨h1,w,h2⟩:=x.st.live b p e
  exact⟨h1,w,by rw[au (ne b p e)];exact h2⟩
 ·obtain⟨v,h1,h2⟩:=x.lc.at_ i c e
  exact⟨v,h1,a_.mv (g:=g) (g':=g) (aL.refl _) eK (λl h=>⟨h,au (ne l _ h)⟩) h2⟩
theorem fj.NB{D:Addr}{u:HO}{g1:G}{H1:Hp}(p:fj g H g1 H1)(h0:H D=none):fj g H g1 (upd H1 D u):=
 ⟨p.fr,p.pre,λb w h n z=>by
  have:b≠D:=aJ h h0
  rw[au this];exact p.rest b w h n z,λb h=>by
  by_cases hb:b=D
  ·subst hb;exact h0
  ·rw[au hb]at h;exact p.there b h⟩
theorem SI:GN X [] (tT B dG):=λae s σ H Q I z=>by
 obtain⟨g,st,t,s',x,h,k⟩:=z;cases h;exact Hn ae s σ H Q I (k g H .refl x)
theorem SJ{c:Expr}(h:PT X c (tT B ft)):GN X [c] (tT B ft):=Ho h
theorem xN{k:Nat}(GP:qq B gt fg S')(hS:∀i∈S',i<k):∀σ H Q,tO B (cW qz k js fg ft fe) σ H Q->tComp (tI B qz) k js gt (tT B ft) (tE B fe) σ H Q:=by
 rintro σ H Q ⟨g,s,ys,s',x,h,kk⟩
 obtain⟨⟨xs,s1⟩,h1,h⟩:=aa h;dsimp only at h;split at h
 case isFalse=>cases h
 rename_i hz;obtain⟨⟨rs,mm⟩,h2,h⟩:=aa h;cases h;unfold tComp;refine⟨g,s,xs,s1,x,h1,λJ g1 H1 p1 x1 wk D hD=>?_⟩;obtain⟨g2,p2,x2⟩:=x1.jJ js;have wk:=wk.mv p2.pre p2.fr;obtain⟨b,hb⟩:∃b,b=i9 k js (_root_.D.jJ js s1.r):=⟨_,rfl⟩;rw[<- hb]at h2;have p12:=p1.trans p2;have hD0:H D=none:=p12.there D hD;have nD:∀{gg:G}{ss:S},SR B gg H1 σ ss->gg.HF D=none/\gg.o D=none:=λ{gg ss} x=>⟨x.sub.free hD,by
  cases q:gg.o D with
  |none=>rfl
  |some p=>obtain⟨_,u,z⟩:=x.st.live D p q;rw[hD]at z;cases z⟩
 obtain⟨f2,o2⟩:=nD x2;obtain⟨gr0,_,_⟩:=om (u:=.lst []) x2 hD;refine⟨λi m zs H2=>m=xs.length-i/\i<=xs.length/\∃g3 m3 done rest,fj g2 H1 g3 H2/\SR B g3 H2 σ ⟨_root_.D.jJ js s1.r,m3⟩/\g3.HF D=none/\g3.o D=none/\H2 D=some (.lst zs)/\aA B g3.al g3.HF done zs/\done.length<=i/\aW fg ft fe b (xs.drop i) m3=.ok (rest,mm)/\rs=done++rest,
  ⟨xs.length,by simp,iN _,g2.grow g2.HF,s1.m,[],rs,x2.iE gr0,x2.grow gr0,f2,o2,ah,rfl,dj _,by rw[lq];exact h2,rfl⟩,?_⟩
 rintro i m zs H2 ⟨rfl,hi,g3,m3,done,rest,p3,x3,f3,o3,hl,rd,hdn,hr,rfl⟩
 by_cases fM:i<xs.length
 ·have sm3:=p3.fr.trans x3.sub
  refine .inr ⟨wk.go i H2 sm3 fM,λv H3 y=>?_⟩;obtain⟨t,ht,y2⟩:=wk.yld i H2 v H3 sm3 fM y;obtain⟨SK,NC,rx⟩:=y2 g3.HF p3.fr x3.sub;have SM:xs.drop i=t::xs.drop (i+1):=by
   obtain⟨hh,e⟩:=eA.mp ht;rw[nF hh,e]
  rw[SM]at hr;obtain⟨b1,q1,hr⟩:=aa hr;obtain⟨⟨c,s5⟩,q2,hr⟩:=aa hr;have x4:=x3.grow NC;have p4:=p3.trans (x3.iE NC);obtain⟨hl4,f4⟩:=NC.rest D _ hl f3;have eb:=x4.lc.block k js;rw[<- hb]at eb;refine GP.ok g3.al SK H3 _ _ t v b1 _ x4.sub (rx.mv p3.pre (aL.refl _)) (aj q1) eb.len λσ5 G4=>⟨xM hS G4,?_⟩;have xb:SR B (g3.grow SK).ai H3 σ5 ⟨b1,m3⟩:=⟨x4.st.ai,eb.sets rfl G4⟩;refine⟨(g3.grow SK).ai,⟨b1,m3⟩,c,s5,xb,q2,λg6 H6 p6 x6=>?_⟩;cases c with
  |true=>
   obtain⟨⟨y',s7⟩,q3,hr⟩:=aa hr;obtain⟨⟨ys',m8⟩,q4,hr⟩:=aa hr;cases hr;refine r9 ⟨g6,s5,y',s7,x6,q3,λv7 g7 H7 p7 x7 r7=>?_⟩;obtain⟨pB,xB⟩:=x4.back (p6.trans p7) x7.st;have p8:=p4.trans pB;obtain⟨VC,f7,o7⟩:=(x3.iE NC |>.trans pB).rest D _ hl f3 o3;have ND:zs.length<sizeLine:=by rw[<- rd.len,sizeLine_eq];omega
   refine⟨VC,ND,xs.length-(i+1),by omega,rfl,fM,G.back (g3.grow SK) g7,s7.m,done++[y'],ys',p8.NB hD,xB.NB f7 o7 ⟨_,VC⟩,f7,o7,ah,?_,by simp;omega,q4,by simp⟩
   have st:=(x3.iE NC).trans pB;exact(rd.mv st.pre st.fr).app (.one r7)
  |false=>
   obtain⟨pB,xB⟩:=x4.back p6 x6.st;obtain⟨VC,f7,o7⟩:=(x3.iE NC |>.trans pB).rest D _ hl f3 o3;have st:=(x3.iE NC).trans pB;exact r8 ⟨xs.length-(i+1),by omega,rfl,fM,G.back (g3.grow SK) g6,s5.m,done,rest,p4.trans pB,xB,f7,o7,VC,rd.mv st.pre st.fr,by omega,hr,rfl⟩
 ·have e:i=xs.length:=by omega
  subst e;rw[yx]at hr;cases hr;rw[cY]at kk;exact .inl ⟨wk.stop _ H2 (p3.fr.trans x3.sub) rfl,kk D zs g3 H2 (p12.trans p3) x3 hD0 f3 o3 hl rd⟩
theorem NF(ls:Bi)(hc:X.calm=true)(Sc:gx X scope)(F:fS X scope js fs)(hi:PI X tg iter (tI B qz))(hg:∀cl C fp s H,PG (X.block (ls++fs) scope cl C fp s H) tg gt)(GP:qq B gt fg S')
  (ht:∀cl C fp s H,GN (X.block (ls++fs) scope cl C fp s H) ifs (tT B ft)) (he:∀cl C fp s H,PE (X.block (ls++fs) scope cl C fp s H) elt (tE B fe))
  (hS:∀i∈S',i<ls.length) (hs:∀x,foldedSetIterable iter X.env x=pure x):PE X (.ListComp elt [⟨tg,iter,ifs,0⟩] scope pos) (tO B (cW qz ls.length js fg ft fe)):=
 aM (Hq ls hc Sc F hi hg ht he hs) (xN GP hS)
end
def Ei(B:KT)(g:G)(H:Hp)(D:Ends):Out->S->Prop
 |.nx,s'=>∀σ' g' H',fj g H g' H'->SR B g' H' σ' s'->D.nx σ' H'
 |.rt t,s'=>∀v g' H',fj g H g' H'->fX B g' H' s'.m->Rep B g'.al g'.HF t v->D.rt v H'
 |.bk,s'=>∀σ' g' H',fj g H g' H'->SR B g' H' σ' s'->D.bk σ' H'
 |.ct,s'=>∀σ' g' H',fj g H g' H'->SR B g' H' σ' s'->D.ct σ' H'
def tS(B:KT)(f:FS):TS:=λD σ H=>∃g s o s',SR B g H σ s/\f s=.ok (o,s')/\Ei B g H D o s'
section
variable{cJ sd:Pos}{ft:FT}{H1:Hp}{g1:G}{F Gf:FS}{st:Stmt}{rest NG:Ee}{i:Nat}
theorem Ei.mv{D:Ends}{o:Out}(k:Ei B g H D o s')(p:fj g H g1 H1):Ei B g1 H1 D o s':=by
 cases o with
 |nx=>exact λσ' g' H' q x=>k σ' g' H' (p.trans q) x
 |rt t=>exact λv g' H' q x r=>k v g' H' (p.trans q) x r
 |bk=>exact λσ' g' H' q x=>k σ' g' H' (p.trans q) x
 |ct=>exact λσ' g' H' q x=>k σ' g' H' (p.trans q) x
theorem SN:j8 X NG (tS B cM):=λ_ _ _ _ _ _ ⟨_,_,_,_,_,h,_⟩=>by cases h
theorem cQ:PS X st (tS B cM):=λ_ _ _ _ _ _ ⟨_,_,_,_,_,h,_⟩=>by cases h
theorem SO:j8 X [] (tS B aC):=Dw yP λD σ H z=>by
 obtain⟨g,s,o,s',x,h,k⟩:=z;cases h;exact k σ g H .refl x
theorem NH(h1:PS X st (tS B F))(h2:j8 X rest (tS B Gf)):j8 X (st::rest) (tS B (af F Gf)):=Dw (uv h1 h2) λD σ H z=>by
 obtain⟨g,s,o,s',x,h,k⟩:=z;obtain⟨⟨o1,s1⟩,e1,h⟩:=aa h;refine⟨g,s,o1,s1,x,e1,?_⟩;cases o1 with
 |nx=>exact λσ1 g1 H1 p1 x1=>⟨g1,s1,o,s',x1,h,k.mv p1⟩
 |rt t=>cases h;exact k
 |bk=>cases h;exact k
 |ct=>cases h;exact k
theorem SQ(h:PS X st (tS B F)):j8 X [st] (tS B F):=yQ h
theorem NI:PS X (.Pass pos) (tS B aC):=c6 G0 λD σ H z=>by
 obtain⟨g,s,o,s',x,h,k⟩:=z;cases h;exact k σ g H .refl x
theorem H_:PS X (.Break pos) (tS B RS):=c6 CG λD σ H z=>by
 obtain⟨g,s,o,s',x,h,k⟩:=z;cases h;exact k σ g H .refl x
theorem NJ:PS X (.Continue pos) (tS B RT):=c6 uw λD σ H z=>by
 obtain⟨g,s,o,s',x,h,k⟩:=z;cases h;exact k σ g H .refl x
theorem Ld(hN:X.N.Nodup)(hi:X.N[i]?=some x)(hx:Loc X.env.scope x)(he:PE X e (tE B fa))(hs:swapsWith e (some (.Name x cJ)) pos.line X.env=pure false)(hf:X.fn x=true\/X.env.scope.names.lookup x=some .local) :
  PS X (.Assign [.Name x cJ] e pos) (tS B (aG i fa)):=c6 (wZ hN hi hx he hs hf) λD σ H z=>by
 obtain⟨g,s,o,s',x,h,k⟩:=z;obtain⟨⟨t,s1⟩,e1,h⟩:=aa h;cases h;exact⟨g,s,t,s1,x,e1,λv g1 H1 p1 x1 r1=>k _ g1 H1 p1 (x1.set r1)⟩
theorem zm{D:Ends}{ts:FK}{s1:S}(k:Ei B g H D .nx (jr s1 i (.ol ts))){l:Addr}{vs:List V}(p1:fj g H g1 H1)(x1:SR B g1 H1 σ s1)(h0:H l=none)(n1:g1.HF l=none)(n2:g1.o l=none)(hl:H1 l=some (.lst vs))(r:aA B g1.al g1.HF ts vs):D.nx (σ.set i (some (.ref l))) H1:=by
 refine k _ (g1.own l (.loc i)) H1 ⟨p1.fr,p1.pre,λb u h n z=>?_,p1.there⟩ (x1.own n2 n1 hl r);obtain⟨a,b',c⟩:=p1.rest b u h n z
 have:b≠l:=aJ h h0
 exact⟨a,b',by show(if b=l then some (jK.loc i)else g1.o b)=none;rw[if_neg this];exact c⟩
theorem Le(hN:X.N.Nodup)(hi:X.N[i]?=some x)(hx:Loc X.env.scope x)(he:PE X e (tO B fl))(hs:swapsWith e (some (.Name x cJ)) pos.line X.env=pure false)(hf:X.fn x=true\/X.env.scope.names.lookup x=some .local) :
  PS X (.Assign [.Name x cJ] e pos) (tS B (gj i fl)):=c6 (wZ hN hi hx he hs hf) λD σ H z=>by
 obtain⟨g,s,o,s',x,h,k⟩:=z;obtain⟨⟨ts,s1⟩,e1,h⟩:=aa h;cases h;exact⟨g,s,ts,s1,x,e1,λl vs g1 H1 p1 x1 h0 n1 n2 hl r=>zm k p1 x1 h0 n1 n2 hl r⟩
section
variable{scope:Scope}{ls fs:Bi}{js S':B1}{iter elt:Expr}{ifs:Bz}{gt:TG}{qz:FL}{fg:FG}{fe:FE}
theorem NK(ls:Bi)(hc:X.calm=true)(hN:X.N.Nodup)(hi:X.N[i]?=some x)(hx:Loc X.env.scope x)(Sc:gx X scope)(Fr:fS X scope js fs)(hit:PI X tg iter (tI B qz))(hg:∀cl C fp s H,PG (X.block (ls++fs) scope cl C fp s H) tg gt)(GP:qq B gt fg S')
  (ht:∀cl C fp s H,GN (X.block (ls++fs) scope cl C fp s H) ifs (tT B ft)) (he:∀cl C fp s H,PE (X.block (ls++fs) scope cl C fp s H) elt (tE B fe))
  (hS:∀i∈S',i<ls.length) (hs:∀x,foldedSetIterable iter X.env x=pure x) (hf:X.fn x=true\/X.env.scope.names.lookup x=some .local)
  (Vt:swapsWith (.ListComp elt [⟨tg,iter,ifs,0⟩] scope dq) (some (.Name x cJ)) pos.line X.env=pure true) :
  PS X (.Assign [.Name x cJ] (.ListComp elt [⟨tg,iter,ifs,0⟩] scope dq) pos) (tS B (gj i (cW qz ls.length js fg ft fe))) /\
  PS X (.Assign [.Name x cJ] (.ListComp elt [⟨tg,iter,ifs,0⟩] scope dq) pos) (tS B (aG i (eX (cW qz ls.length js fg ft fe)))):=by
 constructor
 ·refine c6 (yW ls hc hN hi hx Sc Fr hit hg ht he hs hf Vt) λD σ H zz=>?_
  obtain⟨g,s,o,s',x,h,k⟩:=zz;obtain⟨⟨ts,s1⟩,e1,h⟩:=aa h;cases h;exact xN GP hS σ H _ ⟨g,s,ts,s1,x,e1,λl vs g1 H1 p1 x1 h0 n1 n2 hl r=>zm k p1 x1 h0 n1 n2 hl r⟩
 ·refine c6 (yW ls hc hN hi hx Sc Fr hit hg ht he hs hf Vt) λD σ H zz=>?_
  obtain⟨g,s,o,s',x,h,k⟩:=zz;obtain⟨⟨t,s2⟩,e0,h⟩:=aa h;obtain⟨⟨ts,s1⟩,e1,e0⟩:=aa e0;cases e0;cases h;exact xN GP hS σ H _ ⟨g,s,ts,s1,x,e1,λl vs g1 H1 p1 x1 h0 n1 n2 hl r=>k _ (g1.grow (upd g1.HF l (.lst vs))) H1 (p1.DA h0 n1) ((x1.DA n1 n2 hl).set (t:=.lst ts) ⟨l,vs,rfl,ah,r.same (aS n1)⟩)⟩
end
theorem Lf{gt:TG}{fg:FG}{S':B1}(he:PE X e (tE B fa))(hg:PG X tg gt)(GP:qq B gt fg S')(hs:swapsWithSole [tg] e pos.line X.env=pure false)(hw:swappedStores [tg] e X.env=pure none)
  (h1:(assignEach [tg] X.env).map (·.2)=[assign tg X.env]):PS X (.Assign [tg] e pos) (tS B (uL fg fa)):=c6 (CJ he hg hs hw h1) λD σ H z=>by
 obtain⟨g,s,o,s',x,h,k⟩:=z;obtain⟨⟨t,s1⟩,e1,h⟩:=aa h;obtain⟨r',e2,h⟩:=aa h;cases h;exact⟨g,s,t,s1,x,e1,λv g1 H1 p1 x1 r1=>GP.ok g1.al g1.HF H1 σ s1.r t v r' _ x1.sub r1 (aj e2) x1.lc.len λσ' st=>k σ' g1 H1 p1 ⟨x1.st,x1.lc.sets rfl st⟩⟩
theorem SS(he:PE X e (tE B fa)):PS X (.Return (some e) pos) (tS B (aB fa)):=c6 (Mg he) λD σ H z=>by
 obtain⟨g,s,o,s',x,h,k⟩:=z;obtain⟨⟨t,s1⟩,e1,h⟩:=aa h;cases h;exact⟨g,s,t,s1,x,e1,λv g1 H1 p1 x1 r1=>k v g1 H1 p1 x1.st r1⟩
theorem NL:PS X (.Return none pos) (tS B (aB (cF .non))):=c6 G1 λD σ H z=>by
 obtain⟨g,s,o,s',x,h,k⟩:=z;cases h;exact k _ g H .refl x.st rfl
theorem NN(he:PE X e (tE B fa))(hs:swapsWith e none pos.line X.env=pure false):PS X (.Expr e pos) (tS B (aN fa)):=c6 (rO he hs) λD σ H z=>by
 obtain⟨g,s,o,s',x,h,k⟩:=z;obtain⟨⟨t,s1⟩,e1,h⟩:=aa h;cases h;exact⟨g,s,t,s1,x,e1,λv g1 H1 p1 x1 r1=>k σ g1 H1 p1 x1⟩
theorem XG{A A':Ee}(hc:PT X c (tT B ft))(ha:j8 X A (tS B F))(hb:j8 X A' (tS B Gf)):PS X (.If c A A' pos) (tS B (aU ft F Gf)):=c6 (Qs hc ha hb) λD σ H z=>by
 obtain⟨g,s,o,s',x,h,k⟩:=z;obtain⟨⟨d,s1⟩,e1,h⟩:=aa h;refine⟨g,s,d,s1,x,e1,λg1 H1 p1 x1=>?_⟩;cases d with
 |true=>exact r9 ⟨g1,s1,o,s',x1,h,k.mv p1⟩
 |false=>exact r8 ⟨g1,s1,o,s',x1,h,k.mv p1⟩
theorem gz{r:Fs}{ts:FK}(h:oj r[i]?=some ts):r[i]?=some (some (.ol ts)):=by
 unfold oj at h;split at h
 ·rename_i h2;cases h;exact h2
 ·cases h
theorem SR.sJ(x:SR B g H σ s){ts:FK}(h:s.r[i]?=some (some (.ol ts))):∃l vs,σ[i]?=some (some (.ref l))/\g.o l=some (.loc i)/\H l=some (.lst vs)/\aA B g.al g.HF ts vs:=by
 obtain⟨v,h1,l,vs,rfl,h2,h3,h4⟩:=x.lc.at_ i _ h;exact⟨l,vs,h1,h2,h3,h4⟩
theorem SW{py:Pos}(he:PE X e (tE B fa))(hN:X.N[i]?=some y)(hv:rL X.env.scope y)(hd:bZ y)(jD:iO y)(hs:noStar e=true)(nR:(cL.endLine == dq.line)=true) :
  PS X (.Expr (.Call (.Attribute (.Name y py) "append" cL) [e] [] dq) pos) (tS B (dU i fa)):=by
 refine c6 (rO (C6 PySem.F.plainAttrs_list PySem.F.slot_list_append PySem.F.type_list_append lC (dD hN hv hd jD) (aV he cK (aq hs)) (ie rfl) (jX (by rw[fF,hs];rfl) (by decide)) nR (aq hs) rfl) rfl) λD σ H zz=>?_
 obtain⟨g,s,o,s',x,h,k⟩:=zz;obtain⟨us,e0,h⟩:=aa h;obtain⟨⟨t,s1⟩,e1,h⟩:=aa h;obtain⟨ts,e2,h⟩:=aa h;obtain⟨A7,e3,h⟩:=aa h;obtain⟨z,rfl⟩:=aT (aj e3);cases h;obtain⟨l0,vs0,q1,q2,q3,q4⟩:=x.sJ (gz (aj e0));refine⟨_,q1,.inl ⟨rfl,_,df.of q3⟩,g,s,t,s1,x,e1,λv g1 H1 p1 x1 r1=>?_⟩;have ho:=gz (aj e2);obtain⟨l,vs,w1,w2,w3,w4⟩:=x1.sJ ho;rw[q1]at w1;cases w1;obtain⟨x2,p2⟩:=x1.chg ho q1 (w4.app (.one r1));exact⟨l0,vs,v,rfl,rfl,w3,by rw[<- w4.len,sizeLine_eq];omega,k σ g1 _ (p1.trans p2) x2⟩
theorem SX{iter:Expr}{body:Ee}{gt:TG}{fg:FG}{S':B1}(hc:X.calm=true)(hi:PI X tg iter (tI B fl))(hg:PG X tg gt)(GP:qq B gt fg S')(hb:j8 X body (tS B F))(hp:PassesOwn (model X.prog X.w) X.A X.env X.xe)
  (hs:∀x,foldedSetIterable iter X.env x=pure x):PS X (.For tg iter body [] pos) (tS B (fW fl fg F)):=by
 refine c6 (Mq hp hc hi hg hb hs) λD σ H zz=>?_;obtain⟨g,s,o,s',x,h,k⟩:=zz;obtain⟨⟨xs,s1⟩,e1,h⟩:=aa h;refine⟨g,s,xs,s1,x,e1,λJ g1 H1 p1 x1 wk=>?_⟩;refine⟨λi m σ2 H2=>m=xs.length-i/\i<=xs.length/\∃g2 s2,fj g1 H1 g2 H2/\SR B g2 H2 σ2 s2/\bP fg F (xs.drop i) s2=.ok (o,s'),
  ⟨xs.length,by simp,iN _,g1,s1,.refl,x1,by rw[lq];exact h⟩,?_⟩
 rintro i m σ2 H2 ⟨rfl,hil,g2,s2,p2,x2,pV⟩
 have XH:=p2.fr.trans x2.sub;by_cases fM:i<xs.length
 ·have hx:xs[i]?=some xs[i]:=cj fM
  rw[nF fM]at pV;obtain⟨r3,q1,pV⟩:=aa pV;obtain⟨⟨o3,s4⟩,q2,pV⟩:=aa pV;refine .inr ⟨wk.go i H2 XH fM,λσ' H'=>∃g' s5,fj g1 H1 g' H'/\SR B g' H' σ' s5/\bP fg F (xs.drop (i+1)) s5=.ok (o,s'),
   λσ' H' ⟨g',s5,a,b,c⟩=>⟨xs.length-(i+1),by omega,rfl,fM,g',s5,a,b,c⟩,λv H3 y=>?_⟩
  obtain⟨t,ht,y2⟩:=wk.yld i H2 v H3 XH fM y;rw[hx]at ht;cases ht;obtain⟨Nx,gr3,rx⟩:=y2 g2.HF p2.fr x2.sub;have x3:=x2.grow gr3;have p3:=p2.trans (x2.iE gr3);refine GP.ok g2.al Nx H3 σ2 s2.r _ v r3 _ x3.sub (rx.mv p2.pre (aL.refl _)) (aj q1) x3.lc.len λσ4 st=>⟨g2.grow Nx,⟨r3,s2.m⟩,o3,s4,⟨x3.st,x3.lc.sets rfl st⟩,q2,?_⟩;cases o3 with
  |nx=>exact λσ5 g5 H5 p5 x5=>⟨g5,s4,p3.trans p5,x5,pV⟩
  |ct=>exact λσ5 g5 H5 p5 x5=>⟨g5,s4,p3.trans p5,x5,pV⟩
  |bk=>
   cases pV;exact λσ5 g5 H5 p5 x5=>k σ5 g5 H5 ((p1.trans p3).trans p5) x5
  |rt t=>
   cases pV;exact λv g5 H5 p5 x5 r=>k v g5 H5 ((p1.trans p3).trans p5) x5 r
 ·have e:i=xs.length:=by omega
  subst e;rw[yx]at pV;cases pV;exact .inl ⟨wk.stop _ H2 XH rfl,k σ2 g2 H2 (p1.trans p2) x2⟩
theorem Ia{body:Ee}(n:Nat)(hc:PT X c (tT B ft))(hb:j8 X body (tS B F))(hp:PassesOwn (model X.prog X.w) X.A X.env X.xe):PS X (.While c body [] pos) (tS B (lG n ft F)):=by
 refine c6 (CK hp hc hb) λD σ H zz=>?_;obtain⟨g,s,o,s',x,h,k⟩:=zz;refine⟨λm σ2 H2=>∃g2 s2,fj g H g2 H2/\SR B g2 H2 σ2 s2/\bF ft F m s2=.ok (o,s'),⟨n,g,s,.refl,x,h⟩,?_⟩
 rintro m σ2 H2 ⟨g2,s2,p2,x2,pV⟩
 cases m with
 |zero=>cases pV
 |succ m=>
  obtain⟨⟨d,s3⟩,q1,pV⟩:=aa pV;refine⟨g2,s2,d,s3,x2,q1,λg3 H3 p3 x3=>?_⟩;cases d with
  |false=>
   cases pV;exact r8 (k σ2 g3 H3 (p2.trans p3) x3)
  |true=>
   obtain⟨⟨o4,s4⟩,q2,pV⟩:=aa pV;refine r9 ⟨λσ' H'=>∃g' s5,fj g H g' H'/\SR B g' H' σ' s5/\bF ft F m s5=.ok (o,s'),λσ' H' ⟨g',s5,a,b,c⟩=>⟨m,wQ m,g',s5,a,b,c⟩,?_⟩;refine⟨g3,s3,o4,s4,x3,q2,?_⟩;have VD:=p2.trans p3;cases o4 with
   |nx=>exact λσ5 g5 H5 p5 x5=>⟨g5,s4,VD.trans p5,x5,pV⟩
   |ct=>exact λσ5 g5 H5 p5 x5=>⟨g5,s4,VD.trans p5,x5,pV⟩
   |bk=>
    cases pV;exact λσ5 g5 H5 p5 x5=>k σ5 g5 H5 (VD.trans p5) x5
   |rt t=>
    cases pV;exact λv g5 H5 p5 x5 r=>k v g5 H5 (VD.trans p5) x5 r
end
section
theorem Bd{N:Bi}{vs:List V}{ts:FK}(r:aA B g.al g.HF ts vs):oq B g H (L2.start N vs) (ts.map (λt=>some (C.val t))++bX (N.length-ts.length) none):=by
 refine⟨by unfold L2.start;simp[r.len],λi c h=>?_⟩
 by_cases hi:i<ts.length
 ·rw[gO (by simpa using hi),eG,cj hi]at h
  cases h;obtain⟨v,h1,h2⟩:=r.get (cj hi);refine⟨v,?_,h2⟩;unfold L2.start;rw[gO (by rw[cD,<- r.len];exact hi),eG,h1];rfl
 ·rw[fQ (by simpa using hi),BX]at h
  split at h<;>cases h
theorem zo{np n:Nat}{F:FS}{ts:FK}{m m':FV}{t:T}(h:aK np n F ts m=.ok (t,m')):ts.length=np/\∃o s',F ⟨ts.map (λt=>some (.val t))++bX (n-ts.length) none,m⟩=.ok (o,s')/\s'.m=m'/\(o=.rt t\/(o=.nx/\t=.non)):=by
 unfold aK at h;split at h
 ·rename_i hl
  obtain⟨⟨o,s'⟩,h1,h⟩:=aa h;refine⟨hl,o,s',h1,?_⟩;cases o with
  |rt u=>cases h;exact⟨rfl,.inl rfl⟩
  |nx=>cases h;exact⟨rfl,.inr ⟨rfl,rfl⟩⟩
  |bk=>cases h
  |ct=>cases h
 ·cases h
variable{P:Program}{w:World}{K:bu}{mg:Str->D1}{base:Heap}
structure xO(K:bu)(x qual:Str)(st:Stmt)(f:Addr)(fd:FuncData):Prop where
 ex:∃(oc:Value)(od:Option Addr)(dV kV doc pm:Value)(an:Option Addr)(jW ct:Value)(C0:Array D1),
  fd=Aw x qual (kj st) (cU st) (aD st) dV kV doc pm an jW ct/\K.lookup f=some ⟨oc,od,.func fd,C0⟩/\BV K jW qual=true
 kp:pX K (.ref f)=true
theorem xO.ok{x qual:Str}{st:Stmt}{f:Addr}{fd:FuncData}{N ps:Bi}{k:Nat}{sp:Sp}(F:xO K x qual st f fd)(Sc:h_ N ps (aD st))(len:∀vs H Q E,sp vs H Q E->vs.length=ps.length)
  (C1:∀(jW:Value)(A:Around)(outer:List Env)(s:Shared)(H:Hp)(vs:List V)(Q:VK)(E:XK),bH k (A.deeper (KG qual (aD st) s.heap.objs.size f jW))->sp vs H Q E ->
   ∃t,j8 (qg mK P w K mg base N qual (aD st) f jW A outer s H E).KJ (cU st) t/\t {nx:=λ_ H'=>Q .non H',rt:=Q} (L2.start N vs) H):dO P w K mg base mK (k+1) f fd ps sp:=by
 obtain⟨oc,od,dV,kV,doc,pm,an,jW,ct,C0,rfl,lk,jD⟩:=F.ex;refine QX lk jD Sc len λA outer s H vs Q E hr PH=>?_;obtain⟨t,h,q⟩:=C1 jW A outer s H vs Q E hr PH;exact⟨t,h.KJ,q⟩
theorem NO{x qual:Str}{st:Stmt}{f:Addr}{fd:FuncData}{N ps:Bi}{k:Nat}{F:FS}(Fn:xO K x qual st f fd)(Sc:h_ N ps (aD st))
  (body:∀(jW:Value)(A:Around)(outer:List Env)(s:Shared)(H:Hp)(E:XK),bH k (A.deeper (KG qual (aD st) s.heap.objs.size f jW))->j8 (qg mK P w K mg base N qual (aD st) f jW A outer s H E).KJ (cU st) (tS B F)) :
  dO P w K mg base mK (k+1) f fd ps (qT B (aK ps.length N.length F)):=by
 refine Fn.ok Sc (λvs H Q E h=>?_) (λjW A outer s H vs Q E hr h=>?_)
 ·obtain⟨g,ts,m,t,m',x,r,h,_⟩:=h
  rw[<- r.len,(zo h).1]
 ·obtain⟨g,ts,m,t,m',x,r,h,q⟩:=h
  obtain⟨_,o,s',h1,rfl,ho⟩:=zo h;refine⟨_,body jW A outer s H E hr,g,_,o,s',⟨x,Bd r⟩,h1,?_⟩;rcases ho with rfl|⟨rfl,rfl⟩
  ·exact λv g' H' p y rv=>q v g' H' p y rv
  ·exact λσ' g' H' p y=>q _ g' H' p y.st rfl
theorem Ib{f:Addr}{fd:FuncData}{ps:Bi}{k:Nat}{fn:Fn}(F:dO P w K mg base mK k f fd ps (qT B fn)):dO P w K mg base mK k f fd ps (qT B (aQ fn)):=F.imp λvs H Q E h=>by
 obtain⟨g,ts,m,t,m',x,r,h,q⟩:=h;unfold aQ at h;split at h
 case isFalse=>cases h
 rename_i hn;cases e:fn ts []with
 |bad=>rw[e]at h;cases h
 |exc c fs s=>rw[e]at h;dsimp only at h;split at h<;>cases h
 |ok z=>
  rw[e]at h;dsimp only at h;split at h
  case isFalse=>cases h
  rename_i Vo;cases h;refine⟨⟨g.HF,λ_=>none,[]⟩,ts,[],z.1,z.2,⟨x.sub,λb p e=>(by cases e),rfl,λk ob e=>(by simp at e)⟩,aA.no hn r,e,λv g0 H' p y rv=>?_⟩
  have keep:∀b p,g.o b=some p->H' b=H b/\g0.HF b=none:=λb q hb=>by
   obtain⟨h1,u,h2⟩:=x.live b q hb;obtain⟨h3,h4,_⟩:=p.rest b u h2 h1 rfl;exact⟨h3.trans h2.symm,h4⟩
  refine q v ⟨g0.HF,g.o,g.al⟩ H' ⟨p.fr,eK,λb u h n z=>?_,p.there⟩ (x.mv y.sub (λb p e=>?_) p.fr rfl λl p h _=>⟨h,(keep l p h).1⟩) (Rep.no Vo rv)
  ·obtain⟨h3,h4,_⟩:=p.rest b u h n rfl
   exact⟨h3,h4,z⟩
  ·obtain⟨h1,u,h2⟩:=x.live b p e
   obtain⟨h3,h4⟩:=keep b p e;exact⟨h4,u,h3.trans h2⟩
end
section
variable{cJ:Pos}
theorem SR.Lg{k:Nat}{ob oK:Ob}{a C dx:Addr}{ns:Bi}{vs gn:List V}(x:SR B g H σ s)(Z:BH B g H k ob a C dx ns vs)(hk:s.m[k]?=some ob)(hc:oK.c=ob.c)(hle:gn.length<=ns.length)(hln:gn.length=oK.fs.length)
  (hf:∀j c,oK.fs[j]?=some c->∃v,gn[j]?=some v/\a_ B g H (.fld k j) c v) :
  fj g H g (upd H a (.ins C dx (ns.zip gn)))/\SR B g (upd H a (.ins C dx (ns.zip gn))) σ {s with m:=s.m.set k oK}:=by
 have ne:∀l q,g.o l=some q->q≠.ob k->upd H a (.ins C dx (ns.zip gn)) l=H l:=λl q hl hq=>au λz=>hq (by rw[z,Z.o]at hl;cases hl;rfl)
 have sl:∀{q:jK}{c:_root_.D.C}{v:V},q≠.ob k->a_ B g H q c v->a_ B g (upd H a (.ins C dx (ns.zip gn))) q c v:=λhq h=>a_.mv (g:=g) (g':=g) (aL.refl _) eK (λl hl=>⟨hl,ne l _ hl hq⟩) h;refine⟨m_ Z.o,⟨⟨λb w e=>?_,λb q e=>?_,by rw[eW];exact x.st.len,λk' xP e=>?_⟩,x.lc.len,λi c e=>?_⟩⟩
 ·have:b≠a:=λz=>by rw[z,(x.st.live a _ Z.o).1]at e;cases e
  rw[au this];exact x.sub _ _ e
 ·obtain⟨h1,w,h2⟩:=x.st.live b q e
  by_cases hb:b=a
  ·exact⟨h1,_,by rw[hb,ah]⟩
  ·exact⟨h1,w,by rw[au hb];exact h2⟩
 ·by_cases oN:k=k'
  ·subst oN
   have fM:k<s.m.length:=(eA.mp hk).1;have e:(s.m.set k oK)[k]?=some xP:=e;rw[eV fM]at e;cases e;exact .inl ⟨a,C,dx,ns,gn,Z.al,Z.o,by rw[hc];exact Z.cl,ah,hle,hln,λj c h=>let⟨v,h1,h2⟩:=hf j c h;⟨v,h1,sl (λz=>by cases z) h2⟩⟩
  ·have e:(s.m.set k oK)[k']?=some xP:=e
   rw[c5 oN]at e;refine(x.st.at_ k' xP e).mv (aL.refl _) eK λl q h hq=>⟨h,ne l q h ?_⟩;rcases hq with rfl|⟨j,rfl⟩
   ·exact λz=>oN (by cases z;rfl)
   ·exact λz=>by cases z
 ·obtain⟨v,h1,h2⟩:=x.lc.at_ i c e
  exact⟨v,h1,sl (λz=>by cases z) h2⟩
theorem Be{fs qz:List C}{j:Nat}{c:C}(h:setAt fs j c=some qz):(j<fs.length/\qz=fs.set j c)\/(j=fs.length/\qz=fs++[c]):=by
 unfold setAt at h;split at h
 ·rename_i q;cases h;exact .inl ⟨q,rfl⟩
 ·split at h
  ·rename_i q;cases h;exact .inr ⟨q,rfl⟩
  ·cases h
theorem zp(O:mR X.K X.mg P){f:Nat}{n:Str}{k:Nat}{ob oK:Ob}{c':_root_.D.C}{a C dx:Addr}{ns:Bi}{vs:List V}{v:V}(hf:P.an[f]?=some n)(x:SR (P.kt X) g H σ s)(Z:BH (P.kt X) g H k ob a C dx ns vs)(hk:s.m[k]?=some ob)(h:dW P.tab f c' ob=some oK)
  (hv:∀j,a_ (P.kt X) g H (.fld k j) c' v):qe X.K C/\eO X.K C n/\(ns.zip vs).length<1000 /\
  ∃gn,L2.dF n v (ns.zip vs)=ns.zip gn/\fj g H g (upd H a (.ins C dx (ns.zip gn)))/\SR (P.kt X) g (upd H a (.ins C dx (ns.zip gn))) σ {s with m:=s.m.set k oK}:=by
 obtain⟨j,h1,h2⟩:=eM.mp h;obtain⟨qz,h3,rfl⟩:=cH.mp h2;obtain⟨m,hm,wF,F⟩:=O.of Z.cl;have hj:=nh hf wF h1;have hjl:j<ns.length:=(eA.mp hj).1;refine⟨F.cl,F.na _ (jB hj),by rw[tW];have:=F.jX;omega,?_⟩
 rcases Be h3 with⟨fM,rfl⟩|⟨rfl,rfl⟩
 ·refine⟨vs.set j v,zj F.nd hj Z.le (by rw[Z.ln];exact fM),?_⟩
  refine x.Lg Z hk rfl (by rw[eW];exact Z.le) (by rw[eW,eW];exact Z.ln) λi c e=>?_
  by_cases hi:j=i
  ·subst hi
   rw[eV fM]at e;cases e;exact⟨v,by rw[eV (by rw[Z.ln];exact fM)],hv j⟩
  ·rw[c5 hi]at e
   obtain⟨w,h4,h5⟩:=Z.f i c e;exact⟨w,by rw[c5 hi];exact h4,h5⟩
 ·refine⟨vs++[v],sI F.nd (by rw[Z.ln];exact hj),?_⟩
  refine x.Lg Z hk rfl (by rw[cC,Z.ln];exact hjl) (by rw[cC,cC,Z.ln];rfl) λi c e=>?_
  by_cases hi:i<ob.fs.length
  ·rw[gO hi]at e
   obtain⟨w,h4,h5⟩:=Z.f i c e;exact⟨w,by rw[gO (by rw[Z.ln];exact hi)];exact h4,h5⟩
  ·rw[fQ (by omega)]at e
   have hz:i-ob.fs.length=0:=by
    have:=(eA.mp e).1
    simp at this;omega
   rw[hz]at e;cases e;exact⟨v,by rw[fQ (by rw[Z.ln];omega),Z.ln,hz];rfl,hv i⟩
theorem SY(O:mR X.K X.mg P){f:Nat}{n:Str}(hf:P.an[f]?=some n)(ho:PE X o (tE (P.kt X) fo))(he:PE X e (tE (P.kt X) fa))(hs:swapsWith e (some (.Attribute o n cJ)) pos.line X.env=pure false) :
  PS X (.Assign [.Attribute o n cJ] e pos) (tS (P.kt X) (aO P.tab f fo fa)):=c6 (xn ho he hs) λD σ H z=>by
 obtain⟨g,s,oo,s',x,h,k⟩:=z;obtain⟨⟨t,s1⟩,h1,h⟩:=aa h;obtain⟨⟨tx,s2⟩,h2,h⟩:=aa h;cases tx<;>first|(cases h;done)|skip
 rename_i kk;obtain⟨oK,h3,h⟩:=aa h;cases h;obtain⟨ob,h4,h5⟩:=eM.mp (aj h3);refine⟨g,s,t,s1,x,h1,λv g1 H1 p1 x1 r1=>⟨g1,s1,_,s2,x1,h2,λw g2 H2 p2 x2 r2=>?_⟩⟩;obtain⟨a,rfl,ha⟩:=r2;rcases x2.st.at_ kk ob h4 with⟨a',C,dx,ns,vs,Z⟩|⟨a',Z⟩
 case inr=>
  obtain⟨j,q,_⟩:=eM.mp h5;obtain⟨l,q,_⟩:=eM.mp q;have z:(P.tab.map _)[ob.c]?=none:=Z.nf;rw[eG,q]at z;cases z
 have:=Z.al.symm.trans ha
 cases this;obtain⟨cl,na,hl,gn,e1,p3,x3⟩:=zp O hf x2 Z h4 h5 (v:=v) λj=>r1.mv p2.pre p2.fr;refine⟨a,C,dx,_,rfl,Z.h,cl,na,hl,?_⟩;rw[e1];exact k σ g2 _ ((p1.trans p2).trans p3) x3
end
end D
namespace L2
open PySem PySem.Spec PyProof.Rows
section
variable{X:Cx}
theorem Ic{e:Expr}{x y:Str}{k1 k2 p1 p2 p3 pos}{te:TE}(h:PE X e te)(hx:x.length<=sizeLine) :
  PE X (.JoinedStr [.Constant (.str x) k1 p1,.FormattedValue e (-1) none p2,.Constant (.str y) k2 p3] pos) (λσ H Q=>te σ H λv H1=>∃z:Str,v=.str z/\x.length+z.length+y.length<=sizeLine/\Q (.str (Str.empty++x++z++y)) H1):=by
 intro ae s σ H Q I q;have e0:(Str.empty++x).length=x.length:=by rw[strLen_append];exact ud _
 refine JoinedStr_many (joinParts_cons (Calls.Constant_str ⟨by rw[e0];exact hx,joinParts_cons (FormattedValue_plain (bO (h ae _ σ H _ (I.tok _) q) λv s1 ⟨z',H1,I1,r,z,ez,hz,q1⟩=>?_))⟩))
 subst ez;obtain⟨t,rfl⟩:=r;have e1:(Str.empty++x++z).length=x.length+z.length:=by rw[strLen_append,e0]
 have e2:(Str.empty++x++z++y).length=x.length+z.length+y.length:=by rw[strLen_append,e1]
 refine formatField_str (λt' tk=>⟨by rw[e1];omega,joinParts_cons (Calls.Constant_str ⟨by rw[e2];exact hz,joinParts_nil ⟨.str (Str.empty++x++z++y),H1,I1.tok _,⟨_,rfl⟩,q1⟩ (by rw[e2];exact hz)⟩)⟩) (by omega)
end
end L2
namespace D
open PySem L2
variable{X:Cx}{env:Env}{a b c e o tg:Expr}{fa fb fc fo:FE}{fl:FL}{g g':G}{H H':Hp}{B:KT}{es:Bz}{i k:Nat}{P:Pg}{cL dq p pos cJ:Pos}{s s':S}{σ:St}{x y:Str}
section
theorem zq:∀{Ds:BM}{its:B2},Vals (Ds.map V.ref) its->its=Ds.map Value.ref
 |[],_,h=>by cases h;rfl
 |D::Ds,_,h=>by
  cases h with
  |cons p q=>
   cases p;rw[zq q];rfl
theorem Ej:fm X (.builtin "isinstance") (λxs H Q=>∃(a C dx tp:Addr)(fs:List (Str×V))(Ds:BM)(b:Bool),xs=[.ref a,.ref tp]/\H a=some (.ins C dx fs)/\qe X.K C/\gE X.K (.ref C) "__class__" = some (some (.builtin "object.__class__")) /\
  yq X.K (.builtin "object.__class__") "__get__" = some (some (.builtin "getset_descriptor.__get__"))/\yr X.K (.builtin "object.__class__")=some true/\yt X.K C (.type "object")=some true /\
  H tp=some (.tup (Ds.map V.ref))/\BW X.K (.ref C) (Ds.map Value.ref)=some b/\Q (.bl b) H):=by
 intro ae s σ H xs us Q I r h;obtain⟨a,C,dx,tp,fs,Ds,b,rfl,ea,cl,h1,hn,KN,h2,et,e,q⟩:=h;obtain⟨u,u',rfl,ru,Ri⟩:=vals2 r;cases ru;cases Ri;obtain⟨mA,O,_⟩:=kh I.ba ea;obtain⟨od,J,_⟩:=O.look;obtain⟨_,its,rv,o,g1,g2,n,g3⟩:=(show b7 X.prog X.w H s.heap tp (.tup (Ds.map V.ref))from I.ba tp _ et);have ei:its=Ds.map Value.ref:=zq rv;obtain⟨oc,odd,odt,C0⟩:=o;cases g2;cases g3;rw[ei]at g1;exact PySem.W.kia_tup (JS (cl.get _) cl.hd h1 hn KN h2) I.j7 J g1 e (λz=>nomatch z) λtk=>⟨.bl b,H,I.tok _,rfl,q⟩
def G.d_(g:G)(a:Addr):G:={g with o:=λb=>if b=a then some (.ob g.al.length)else g.o b,al:=g.al++[a]}
theorem SR.d_{c:Nat}{C q dx:Addr}{ns:Bi}(x:SR B g H σ s)(hC:iR B c C ns)(nx:H q=none)(nd:H dx=none)(iQ:dx≠q) :
  fj g H (g.d_ q) (upd (upd H dx (.own q)) q (.ins C dx []))/\SR B (g.d_ q) (upd (upd H dx (.own q)) q (.ins C dx [])) σ {s with m:=s.m++[⟨c,[]⟩]}:=by
 have nf:g.HF q=none:=x.sub.free nx;have nf2:g.HF dx=none:=x.sub.free nd;have no:∀l p',g.o l=some p'->l≠q/\l≠dx:=λl p' h=>by
  obtain⟨_,u,z⟩:=x.st.live l p' h;exact⟨aJ z nx,aJ z nd⟩
 have PX:∀l,l≠q->l≠dx->upd (upd H dx (.own q)) q (.ins C dx []) l=H l:=λl h1 h2=>by rw[au h1,au h2]
 have ho:∀l p',g.o l=some p'->(g.d_ q).o l=some p':=λl p' h=>by
  show(if l=q then some (jK.ob g.al.length)else g.o l)=_
  rw[if_neg (no l p' h).1];exact h
 have pre:g.al <+: (g.d_ q).al:=yy _ _;refine⟨⟨aL.refl _,pre,λb u h n z=>?_,λb h=>?_⟩,⟨⟨λb u e=>?_,λb p' e=>?_,?_,λk ob e=>?_⟩,x.lc.len,λi c' e=>?_⟩⟩
 ·have h1:=aJ h nx
  have h2:=aJ h nd;refine⟨(PX b h1 h2).trans h,n,?_⟩;show(if b=q then some (jK.ob g.al.length)else g.o b)=none
  rw[if_neg h1];exact z
 ·by_cases h1:b=q
  ·subst h1;exact nx
  ·by_cases h2:b=dx
   ·subst h2;exact nd
   ·rw[PX b h1 h2]at h;exact h
 ·have h1:b≠q:=λz=>by rw[z]at e;have e:g.HF q=some u:=e;rw[nf]at e;cases e
  have h2:b≠dx:=λz=>by rw[z]at e;have e:g.HF dx=some u:=e;rw[nf2]at e;cases e
  rw[PX b h1 h2];exact x.sub _ _ e
 ·have e:(if b=q then some (jK.ob g.al.length)else g.o b)=some p':=e
  by_cases hb:b=q
  ·subst hb;exact⟨nf,_,ah⟩
  ·rw[if_neg hb]at e
   obtain⟨h1,u,h2⟩:=x.st.live b p' e;obtain⟨h3,h4⟩:=no b p' e;exact⟨h1,u,(PX b h3 h4).trans h2⟩
 ·show(s.m++[_]).length=(g.al++[q]).length
  rw[cC,cC,x.st.len];rfl
 ·have e:(s.m++[(⟨c,[]⟩:Ob)])[k]?=some ob:=e
  by_cases hk:k<s.m.length
  ·rw[gO hk]at e
   refine(x.st.at_ k ob e).mv (aL.refl _) pre λl p' h _=>⟨ho l p' h,?_⟩;obtain⟨h3,h4⟩:=no l p' h;exact PX l h3 h4
  ·rw[fQ (by omega)]at e
   have XI:k-s.m.length=0:=by
    have:=(eA.mp e).1
    simp at this;omega
   rw[XI]at e;cases e;have oN:k=g.al.length:=by have:=x.st.len;omega
   subst oN;refine .inl ⟨q,C,dx,ns,[],?_,?_,hC,?_,iN _,rfl,λj c h=>by simp at h⟩
   ·show(g.al++[q])[g.al.length]?=some q
    rw[fQ (dj _),lr];rfl
   ·show(if q=q then some (jK.ob g.al.length)else g.o q)=_
    rw[if_pos rfl]
   ·rw[ah,J2]
 ·obtain⟨v,h1,h2⟩:=x.lc.at_ i c' e
  refine⟨v,h1,a_.mv (g:=g) (g':=g.d_ q) (aL.refl _) pre (λl h=>⟨ho l _ h,?_⟩) h2⟩;obtain⟨h3,h4⟩:=no l _ h;exact PX l h3 h4
structure DnN(P:Pg)(Pr:Program)(w:World)(K:bu)(mg:Str->D1)(base:Heap)(k:Nat)(c:Nat)(x:Str)(f:Fn):Prop where
 ex:∃(C fi:Addr)(fd:FuncData)(ps:Bi)(ns:Bi),iR (jO P K Pr w) c C ns/\mg x=some (.ref C)/\Mk K C fi/\dO Pr w K mg base mK k fi fd ps (qT (jO P K Pr w) f)/\Binds K fd ps []
theorem Ie{c:Nat}{f:Fn}{t:T}(h:kq c f fl s=.ok (t,s')):∃ts s1 m',fl s=.ok (ts,s1)/\f (.own s1.m.length::ts) (s1.m++[⟨c,[]⟩])=.ok (.non,m')/\t=.own s1.m.length/\s'={s1 with m:=m'}:=by
 obtain⟨⟨ts,s1⟩,h1,h⟩:=aa h;dsimp only at h;cases q:f (.own s1.m.length::ts) (s1.m++[⟨c,[]⟩])with
 |ok r=>
  rw[q]at h;obtain⟨u,m'⟩:=r;cases u<;>first|(cases h;done)|skip
  cases h;exact⟨ts,s1,m',h1,q,rfl,rfl⟩
 |bad=>rw[q]at h;cases h
 |exc c fs s2=>rw[q]at h;cases h
theorem Ig{c:Nat}{f:Fn}{C:Addr}{ns:Bi}{ts:FK}{vs:List V}{m':FV}{Q:VK}(hC:iR B c C ns)(x1:SR B g H σ s)(r1:aA B g.al g.HF ts vs)(h2:f (.own s.m.length::ts) (s.m++[⟨c,[]⟩])=.ok (.non,m'))
  (k:∀v g' H',fj g H g' H'->SR B g' H' σ {s with m:=m'}->Rep B g'.al g'.HF (.own s.m.length) v->Q v H'):∀q dx,H q=none->H dx=none->dx≠q->qT B f (.ref q::(vs++[])) (upd (upd H dx (.own q)) q (.ins C dx [])) (λv H2=>v=.non/\Q (.ref q) H2) E0:=λq dx nx nd iQ=>by
 obtain⟨p2,x2⟩:=x1.d_ hC nx nd iQ;rw[cY];have hq:(g.d_ q).al[s.m.length]?=some q:=by
  show(g.al++[q])[s.m.length]?=some q;rw[x1.st.len,fQ (dj _),lr];rfl
 refine uU (E:=E0) (ts:=.own s.m.length::ts) x2 ⟨_,vs,rfl,⟨q,rfl,hq⟩,r1.mv p2.pre p2.fr⟩ h2 λv g' H' p3 x3 rv=>⟨rv,k _ g' H' (p2.trans p3) x3 ⟨q,rfl,dX p3.pre hq⟩⟩
theorem NP{k j c:Nat}{f:Fn}(D:DnN P X.prog X.w X.K X.mg X.base k c x f)(hr:bH j X.A)(Ba:k+1<=j)(ha:PA X (e::es) (tA (P.kt X) fl))(hg:Gl X x)(nQ:bZ x)(hs:(e::es).all noStar=true) :
  PE X (.Call (.Name x p) (e::es) [] pos) (tE (P.kt X) (kq c f fl)):=by
 obtain⟨C,fi,fd,ps,ns,hC,hm,M,F,hb⟩:=D.ex;rw[fF,dc]at hs;refine aM (rX M F (hr.mono Ba) hg hm hb .nil nS ha nQ (aq hs.1) (eY hs.2)) λσ H Q zz=>?_;obtain⟨g,s,t,s',x,h,k⟩:=zz;obtain⟨ts,s1,m',h1,h2,rfl,rfl⟩:=Ie h;exact⟨g,s,ts,s1,x,h1,λvs g1 H1 p1 x1 r1=>Ig hC x1 r1 h2 λv g' H' p2 x2 rv=>k v g' H' (p1.trans p2) x2 rv⟩
def sL:Expr->Option (Expr×Bz×List Keyword×Pos)
 |.Call f a k p=>some (f,a,k,p)
 |_=>none
def asName:Expr->Option Str
 |.Name x _=>some x
 |_=>none
def jP:Expr->Option (Expr×Str×Pos)
 |.Attribute o f p=>some (o,f,p)
 |_=>none
def jQ(e:Expr):Option (Str×Bz×List Keyword):=(sL e).bind λq=>(asName q.1).map λf=>(f,q.2.1,q.2.2.1)
theorem lM{e:Expr}{q}(h:sL e=some q):e=.Call q.1 q.2.1 q.2.2.1 q.2.2.2:=by
 cases e<;>first|(cases h;done)|(cases h;rfl)
theorem eZ{e:Expr}{x:Str}(h:asName e=some x):∃p,e=.Name x p:=by
 cases e<;>first|(cases h;done)|(cases h;exact⟨_,rfl⟩)
theorem kJ{e:Expr}{q}(h:jP e=some q):e=.Attribute q.1 q.2.1 q.2.2:=by
 cases e<;>first|(cases h;done)|(cases h;rfl)
theorem eS{e:Expr}{q}(h:jQ e=some q):∃p pos,e=.Call (.Name q.1 p) q.2.1 q.2.2 pos:=by
 obtain⟨w,h1,h2⟩:=eM.mp h;obtain⟨f,h3,rfl⟩:=cH.mp h2;obtain⟨p,h4⟩:=eZ h3;rw[lM h1,h4];exact⟨_,_,rfl⟩
def Ek:Stmt->Option (Str×Str×Expr)
 |.Assign ts e _=>(match ts with
  |[t]=>(jP t).bind λq=>(asName q.1).map λs=>(s,q.2.1,e)
  |_=>none)
 |_=>none
theorem zr{st:Stmt}{q}(h:Ek st=some q):∃p0 pf pos,st=.Assign [.Attribute (.Name q.1 p0) q.2.1 pf] q.2.2 pos:=by
 cases st<;>first|(cases h;done)|skip
 rename_i ts e pos
 match ts,h with
 |[t],h=>
  obtain⟨w,h1,h2⟩:=eM.mp (show(jP t).bind _=some q from h);obtain⟨s,h3,rfl⟩:=cH.mp h2;obtain⟨p,h4⟩:=eZ h3;rw[kJ h1,h4];exact⟨_,_,_,rfl⟩
def sM(st:Stmt):Option (Str×Str×Str):=(Ek st).bind λw=>(asName w.2.2).map λq=>(w.1,w.2.1,q)
theorem xQ{st:Stmt}{z:Str×Str×Str}(h:sM st=some z):∃p0 pf pq pos,st=.Assign [.Attribute (.Name z.1 p0) z.2.1 pf] (.Name z.2.2 pq) pos:=by
 obtain⟨w,h1,h2⟩:=eM.mp h;obtain⟨q,h3,rfl⟩:=cH.mp h2;obtain⟨p0,pf,pos,rfl⟩:=zr h1;obtain⟨p,h4⟩:=eZ h3;rw[h4];exact⟨_,_,_,_,rfl⟩
def oO(N:Bi):Nat->Ee->Bi->Bool
 |_,[],[]=>true
 |i,st::rest,n::ns=>(match sM st with
  |some z=>decide (N[0]?=some z.1)&&decide (N[i]?=some z.2.2)&&decide (z.2.1=n)
  |none=>false)&&oO N (i+1) rest ns
 |_,_,_=>false
def VE(K:bu):Nat->Bi->TS
 |_,[]=>CF
 |i,n::ns=>Qm (QP K (wX 0) (wX i) n) (VE K (i+1) ns)
theorem zt(hv:∀(i:Nat)(x:Str),X.N[i]?=some x->rL X.env.scope x/\bZ x/\iO x):∀(body:Ee)(ns:Bi)(i:Nat),oO X.N i body ns=true->j8 X body (VE X.K i ns)
 |[],[],_,_=>yP
 |[],_::_,_,h=>by cases h
 |st::rest,[],_,h=>by cases h
 |st::rest,n::ns,i,h=>by
  have h:((match sM st with
   |some z=>decide (X.N[0]?=some z.1)&&decide (X.N[i]?=some z.2.2)&&decide (z.2.1=n)
   |none=>false)&&oO X.N (i+1) rest ns)=true:=h
  rw[dc]at h;obtain⟨h1,h5⟩:=h;cases e:sM st with
  |none=>rw[e]at h1;cases h1
  |some z=>
   rw[e]at h1;simp only[dc,decide_eq_true_eq]at h1;obtain⟨⟨h2,h3⟩,rfl⟩:=h1;obtain⟨p0,pf,pq,pos,rfl⟩:=xQ e;obtain⟨v1,v2,v3⟩:=hv 0 _ h2;obtain⟨w1,w2,w3⟩:=hv i _ h3;exact uv (xn (dD h2 v1 v2 v3) (dD h3 w1 w2 w3) rfl) (zt hv rest ns (i+1) h5)
theorem zu{K:bu}{C q dx:Addr}{N:Bi}{all:List V}{D:Ends}(cl:qe K C):∀(ns sN:Bi)(as sO:List V)(H:Hp),(∀f∈ns,eO K C f)->(sN++ns).Nodup->(sN++ns).length<=100->sO.length=sN.length->as.length=ns.length->all=.ref q::(sO++as)->H q=some (.ins C dx (sN.zip sO)) ->
  D.nx (L2.start N all) (upd H q (.ins C dx ((sN++ns).zip (sO++as))))->VE K (sO.length+1) ns D (L2.start N all) H
 |[],sN,as,sO,H,_,_,_,PR,hl,ha,hq,k=>by
  have:as=[]:=J3.mp hl
  subst this;rw[cY,cY]at k;have e:upd H q (.ins C dx (sN.zip sO))=H:=by
   funext b
   by_cases hb:b=q
   ·subst hb;rw[ah,hq]
   ·rw[au hb]
  rw[e]at k;exact k
 |n::ns,sN,[],sO,H,_,_,_,PR,hl,ha,hq,k=>by cases hl
 |n::ns,sN,v::as,sO,H,hna,nd,hsz,PR,hl,ha,hq,k=>by
  have hg:(L2.start N all)[sO.length+1]?=some (some v):=by
   unfold L2.start;rw[gO (by rw[ha];simp),eG,ha,List.getElem?_cons_succ,fQ (dj _),lr];rfl
  have h0:(L2.start N all)[0]?=some (some (.ref q)):=by
   unfold L2.start;rw[gO (by rw[ha];simp),eG,ha];rfl
  have hn:n∉sN:=λz=>by
   rw[Cb]at nd;exact nd.2.2 n z n (er ..) rfl
  refine⟨v,hg,.ref q,h0,q,C,dx,sN.zip sO,rfl,hq,cl,hna n (er ..),?_,?_⟩
  ·rw[tW];rw[cC]at hsz;omega
  ·have e1:L2.dF n v (sN.zip sO)=(sN++[n]).zip (sO++[v]):=by
    have:=sI (f:=n) (v:=v) (ns:=sN++[n]) (vs:=sO) (by
     rw[show sN++n::ns=(sN++[n])++ns by simp]at nd
     exact(Cb.mp nd).1) (by rw[PR,fQ (dj _),lr];rfl)
    rw[<- this]
    congr 1
    have:∀(a:Bi)(b:List V)(r:Bi),b.length=a.length->a.zip b=(a++r).zip b:=by
     intro a
     induction a with
     |nil=>intro b r h;cases b with
      |nil=>simp
      |cons=>cases h
     |cons x a ih=>intro b r h;cases b with
      |nil=>cases h
      |cons y b=>rw[nE,t_,nE,ih b r (by simpa using h)]
    exact this sN sO [n] PR
   rw[e1];have h5:=zu (N:=N) (all:=all) (D:=D) (q:=q) (dx:=dx) cl ns (sN++[n]) as (sO++[v]) (upd H q (.ins C dx ((sN++[n]).zip (sO++[v])))) (λf hf=>hna f (eF _ hf)) (by simpa using nd) (by simpa using hsz) (by simp[PR]) (by simpa using hl) (by rw[ha];simp) ah (by
    rw[rH];simpa using k)
   rw[show(sO++[v]).length+1=sO.length+1+1 by simp]at h5
   exact h5
end
section
theorem oQ:∀(k:Int)(ts:FK),(dg k ts).length=ts.length
 |_,[]=>rfl
 |k,_::ts=>congrArg (· + 1) (oQ (k+1) ts)
theorem zw:∀(k:Nat)(ts:FK)(i:Nat)(t:T),ts[i]?=some t->(dg (k:Int) ts)[i]?=some (.tup [.int ((k+i:Nat):Int),t])
 |_,[],_,_,h=>by simp at h
 |k,_::ts,0,_,h=>by simp at h;subst h;rfl
 |k,_::ts,i+1,t,h=>by
  have:=zw (k+1) ts i t (by simpa using h)
  rw[show k+(i+1)=k+1+i by omega]
  exact this
theorem S8(hB:B.K=X.K)(m:Nat):∀σ H R,tI B (iD (m:Int) fa) σ H R->MU X.K m (tA B (bK fa aZ)) σ H R:=by
 rintro σ H R ⟨g,s,t,s',x,h,k⟩
 obtain⟨⟨tx,s1⟩,h1,h⟩:=aa h;obtain⟨ts,h2,h⟩:=aa h;cases h;have h2:=aj h2;obtain⟨S_,rfl,rfl⟩:∃S_,tx=.lst S_/\t=dg m S_:=by
  cases tx<;>first|(cases h2;done)|(cases h2;exact⟨_,rfl,rfl⟩)
 have hc:bK fa aZ s=.ok ([.lst S_],s1):=by
  show(fa s).bind _=_;rw[h1];rfl
 refine⟨g,s,_,_,x,hc,λvs g1 H1 p1 x1 r1=>?_⟩;obtain⟨v,rfl,l,ws,rfl,q1,r1⟩:=cO r1;refine⟨l,ws,rfl,df.of (x1.sub _ _ q1),k _ g1 H1 p1 x1 ⟨λi H3 s3 hi=>?_,λi H3 x H4 s3 hi y=>?_,λi H3 s3 hi=>?_⟩⟩
 ·rw[oQ,r1.len]at hi
  exact⟨hi,df.of (s3 _ _ q1)⟩
 ·obtain⟨p,x',hn,e1,rfl,rfl⟩:=y
  obtain⟨t1,f1,g1'⟩:=r1.xD e1;refine⟨_,zw m S_ i t1 f1,λuX s4 s5=>⟨upd uX p (.tup [.int ((m+i:Nat):Int),x']),.new s5 hn,p,[.int ((m+i:Nat):Int),x'],rfl,lV.of ah,?_⟩⟩;have s6:=s4.trans (aS (o:=.tup [.int ((m+i:Nat):Int),x']) (s5.free hn));exact⟨.int ((m+i:Nat):Int),[x'],rfl,rfl,.one (g1'.same s6)⟩
 ·rw[oQ,r1.len]at hi
  exact⟨hi,df.of (s3 _ _ q1)⟩
theorem Tc(hB:B.K=X.K){elts:Bz}{x1:Nat}{mH:Pos}(hg:Gl X "enumerate")(hm:X.mg "enumerate" = none)(ha:PE X a (tE B fa))(hs:noStar a=true):PI X (.Tuple elts x1 mH) (.Call (.Name "enumerate" p) [a] [] pos) (tI B (iD 0 fa)):=
 l_ (RJ hg hm (sE ha xE (aq hs)) (aq hs)) (S8 hB 0)
theorem Td(hB:B.K=X.K){elts:Bz}{x1 k1:Nat}{mH p1 kp:Pos}(hg:Gl X "enumerate")(hm:X.mg "enumerate" = none)(ha:PE X a (tE B fa))(hs:noStar a=true):PI X (.Tuple elts x1 mH) (.Call (.Name "enumerate" p) [a] [⟨some (Str.ofString "start"),.Constant (.int 1) k1 p1,kp⟩] pos) (tI B (iD 1 fa)):=
 l_ (MV hg hm (sE ha xE (aq hs)) (aq hs)) (S8 hB 1)
end
section
theorem Lh{m:Str}(hb:bU o=true)(hs:es.all noStar=true)(hl:es.length<30)(hp:(cL.endLine == pos.line)=true):D_ X o m cL es pos:=by
 have hf:methodCallForm (es.length+0) (backTo pos (starEach es X.env)) (backToKw pos (keywordEach [] X.env))=true:=by
  unfold methodCallForm;rw[oG hs];show(true&&true&&decide (es.length+0+0<30))=true;rw[decide_eq_true (show es.length+0+0<30 by omega)];rfl
 refine⟨(do return(<- importBound o X.env).getD true),?_⟩
 show(do
  let ov <- attributeBase o m X.env (eval o X.env)
  standAt cL.atName
  methodCall o m cL pos X.env ov (es.length+0) (backTo pos (starEach es X.env)) (backToKw pos (keywordEach [] X.env)))=_
 rw[ie hb];unfold methodCall;rw[hf];unfold calleeOf methodCallPos;rw[hp];rfl
theorem Ih{Pr:Program}{w:World}{K:bu}{mg:Str->D1}{base:Heap}{n qual:Str}{st:Stmt}{f C:Addr}{fd:FuncData}{N ps ns:Bi}{k:Nat}(Fn:xO K n qual st f fd)(Sc:h_ N ps (aD st))
  (hv:∀(i:Nat)(x:Str),N[i]?=some x->rL (aD st) x/\bZ x/\iO x) (hi:oO N 1 (cU st) ns=true) (hl:ps.length=ns.length+1) (cl:qe K C) (na:∀f∈ns,eO K C f) (nd:ns.Nodup) (jX:ns.length<=100) :
  dO Pr w K mg base mK (k+1) f fd ps (spI C ns):=by
 refine Fn.ok Sc (λvs H Q E h=>?_) (λjW A outer s H vs Q E hr h=>?_)
 ·obtain⟨x,dx,args,rfl,yN,_⟩:=h
  rw[dP,yN,hl]
 ·obtain⟨x,dx,args,rfl,yN,hx,q⟩:=h
  refine⟨VE K 1 ns,zt (X:=(qg mK Pr w K mg base N qual (aD st) f jW A outer s H E).KJ) hv _ ns 1 hi,?_⟩;exact zu (N:=N) (D:={nx:=λ_ H'=>Q .non H',rt:=Q}) cl ns [] args [] H na (by simpa using nd) (by simpa using jX) rfl yN rfl (by simpa using hx) (by simpa using q)
def spP(K:bu)(C:Addr)(n:Str):Sp:=λvs H Q _=>∃x dx p ys,vs=[.ref x,.ref p]/\H x=some (.ins C dx [])/\df K H p ys/\∀l,H l=none->Q .non (upd (upd H l (.lst ys)) x (.ins C dx [(n,.ref l)]))
noncomputable def sP(st:Stmt):Option (Str×Str×Str):=(Ek st).bind λw=>(jQ w.2.2).bind λc=>(match c.2.1,c.2.2 with
 |[a],[]=>if c.1=("list" : Str)then(asName a).map λq=>(w.1,w.2.1,q)else none
 |_,_=>none)
theorem uZ{st:Stmt}{z:Str×Str×Str}(h:sP st=some z):∃p0 pf pq pl pc pos,st=.Assign [.Attribute (.Name z.1 p0) z.2.1 pf] (.Call (.Name "list" pl) [.Name z.2.2 pq] [] pc) pos:=by
 obtain⟨w,h1,h2⟩:=eM.mp h;obtain⟨⟨f,as,ks⟩,h3,h4⟩:=eM.mp h2
 match as,ks,h3,h4 with
 |[a],[],h3,h4=>
  dsimp only at h4;split at h4
  ·rename_i e
   obtain⟨q,h5,rfl⟩:=cH.mp h4;obtain⟨p0,pf,pos,rfl⟩:=zr h1;obtain⟨pl,pc,h6⟩:=eS h3;obtain⟨pq,h7⟩:=eZ h5;rw[h6,h7,e];exact⟨_,_,_,_,_,_,rfl⟩
  ·cases h4
theorem El{Pr:Program}{w:World}{K:bu}{mg:Str->D1}{base:Heap}{nm qual s0 q n:Str}{st Te:Stmt}{f C:Addr}{fd:FuncData}{N ps:Bi}{k:Nat}(Fn:xO K nm qual st f fd)(Sc:h_ N ps (aD st))
  (hb:cU st=[Te]) (h1:sP Te=some (s0,n,q)) (h0:N[0]?=some s0) (hq:N[1]?=some q) (hv:∀(i:Nat)(x:Str),N[i]?=some x->rL (aD st) x/\bZ x/\iO x) (hm:mg "list" = none) (hg:(aD st).names.lookup ("list" : Str)=some .globalImplicit) (hl:ps.length=2) (cl:qe K C) (na:eO K C n) :
  dO Pr w K mg base mK (k+1) f fd ps (spP K C n):=by
 obtain⟨p0,pf,pq,pl,pc,pos,rfl⟩:=uZ h1;refine Fn.ok Sc (λvs H Q E h=>?_) (λjW A outer s H vs Q E hr h=>?_)
 ·obtain⟨x,dx,p,ys,rfl,_⟩:=h
  exact hl.symm
 ·obtain⟨x,dx,p,ys,rfl,hx,hp,k⟩:=h
  obtain⟨v1,v2,v3⟩:=hv 0 _ h0;obtain⟨w1,w2,w3⟩:=hv 1 _ hq;rw[hb];refine⟨_,yQ (xn (dD h0 v1 v2 v3) (gR ia (X:=(qg mK Pr w K mg base N qual (aD st) f jW A outer s H E).KJ) hg hm ug (aV (dD hq w1 w2 w3) cK)) rfl),?_⟩;refine⟨.ref p,rfl,p,ys,rfl,.inl hp,λl hl=>⟨.ref x,rfl,x,C,dx,[],rfl,?_,cl,na,by decide,k l hl⟩⟩
  rw[au (λe=>by subst e;rw[hl]at hx;cases hx)]
  exact hx
structure DnP(P:Pg)(Pr:Program)(w:World)(K:bu)(mg:Str->D1)(base:Heap)(k:Nat)(c:Nat)(x:Str):Prop where
 ex:∃(C fi:Addr)(fd:FuncData)(ps:Bi)(n:Str),iR (jO P K Pr w) c C [n]/\mg x=some (.ref C)/\Mk K C fi/\dO Pr w K mg base mK k fi fd ps (spP K C n)/\Binds K fd ps []
theorem NQ{k j c:Nat}(D:DnP P X.prog X.w X.K X.mg X.base k c x)(hr:bH j X.A)(Ba:k+1<=j)(ha:PE X e (tE (P.kt X) fa))(hg:Gl X x)(nQ:bZ x)(hs:noStar e=true) :
  PE X (.Call (.Name x p) [e] [] pos) (tE (P.kt X) (cu (Dr c) fa)):=by
 obtain⟨C,fi,fd,ps,n,hC,hm,M,F,hb⟩:=D.ex;refine aM (rX M F (hr.mono Ba) hg hm hb .nil nS (aV ha cK (aq hs)) nQ (aq hs) rfl) λσ H Q zz=>?_;obtain⟨g,s,t,s',z,h,k⟩:=zz;obtain⟨⟨tx,s1⟩,h1,h⟩:=aa h;obtain⟨t',h2,h⟩:=aa h;cases h;have h2:=aj h2;cases tx<;>first|(cases h2;done)|skip
 rename_i ts;cases h2;refine⟨g,s,_,_,z,h1,λv g1 H1 p1 x1 r1 x dx nx nd iQ=>?_⟩;obtain⟨q,vs,rfl,hq,rr⟩:=r1;have g2:=Gr.new (o:=.own x) x1.sub nd;have XD:upd H1 dx (.own x) x=none:=by rw[au (Ne.symm iQ)];exact nx
 have Tf:H1 q=some (.lst vs):=x1.sub _ _ hq;have qd:q≠dx:=λe=>by subst e;rw[nd]at Tf;cases Tf
 have qx:q≠x:=λe=>by subst e;rw[nx]at Tf;cases Tf
 refine⟨x,dx,q,vs,rfl,ah,df.of (by rw[au qx,au qd];exact Tf),λl hl=>⟨rfl,?_⟩⟩
 have lx:l≠x:=λe=>by subst e;rw[ah]at hl;cases hl
 have PJ:upd H1 dx (.own x) l=none:=by rw[au lx]at hl;exact hl
 have ld:l≠dx:=λe=>by subst e;rw[ah]at PJ;cases PJ
 have g3:=Gr.new (o:=.lst vs) g2.sub PJ;have nx3:upd (upd H1 dx (.own x)) l (.lst vs) x=none:=by rw[au (Ne.symm lx)];exact XD
 have g4:=Gr.new (o:=.ins C dx [(n,.ref l)]) g3.sub nx3;have e:upd (upd (upd (upd H1 dx (.own x)) x (.ins C dx [])) l (.lst vs)) x (.ins C dx [(n,.ref l)])=upd (upd (upd H1 dx (.own x)) l (.lst vs)) x (.ins C dx [(n,.ref l)]):=by
  funext b
  by_cases hb:b=x
  ·subst hb;rw[ah,ah]
  ·rw[au hb,au hb]
   by_cases hb2:b=l
   ·subst hb2;rw[ah,ah]
   ·rw[au hb2,au hb2,au hb]
 rw[e];have gr:=(g2.trans g3).trans g4;refine k _ (g1.grow _) _ (p1.trans (x1.iE gr)) (x1.grow gr) ⟨x,C,dx,[n],[.ref l],rfl,hC,ah,dj _,?_,.one ⟨l,vs,rfl,?_,rr.same gr.fr⟩⟩
 ·show upd (upd (upd g1.HF dx (.own x)) l (.lst vs)) x _ dx=_
  rw[au iQ,au (Ne.symm ld),ah]
 ·show upd (upd (upd g1.HF dx (.own x)) l (.lst vs)) x _ l=_
  rw[au lx,ah]
theorem zx{K:bu}{t:Value}:∀{cs:B2}{bs:Fh},cs.length=bs.length->(∀(i:Nat)(c:Value)(b:Bool),cs[i]?=some c->bs[i]?=some b->rB K t c=some b)->BW K t cs=some (bs.any id)
 |[],[],_,_=>rfl
 |[],_::_,h,_=>by cases h
 |_::_,[],h,_=>by cases h
 |c::cs,b::bs,hl,h=>by
  have h1:=h 0 c b rfl rfl;have h2:=zx (cs:=cs) (bs:=bs) (by simpa using hl) λi c b e1 e2=>h (i+1) c b (by simpa using e1) (by simpa using e2)
  unfold BW;rw[h1];cases b with
  |true=>rfl
  |false=>exact h2
def namesOf:Bz->Option Bi
 |[]=>some []
 |.Name x _::es=>(namesOf es).map (x::·)
 |_=>none
theorem u1{Ds:BM}:∀{es:Bz}{ys:Bi}{Ds:BM},namesOf es=some ys->ys.length=Ds.length->(∀(i:Nat)(y:Str)(D:Addr),ys[i]?=some y->Ds[i]?=some D->Gl X y/\X.mg y=some (.ref D)/\bZ y)->PA X es (λ_ H Q=>Q (Ds.map V.ref) H)
 |[],_,Ds,h,hl,_=>by
  cases h;cases Ds with
  |nil=>exact cK
  |cons=>cases hl
 |e::es,ys,Ds,h,hl,k=>by
  cases e<;>first|(cases h;done)|skip
  rename_i x px;obtain⟨zs,h1,rfl⟩:=cH.mp (show(namesOf es).map (x::·)=some ys from h)
  cases Ds with
  |nil=>cases hl
  |cons D Ds=>
   obtain⟨k1,k2,k3⟩:=k 0 x D rfl rfl;exact aV (rN (v:=.ref D) k1 k2 rfl k3) (u1 (Ds:=Ds) h1 (by simpa using hl) λi y D e1 e2=>k (i+1) y D (by simpa using e1) (by simpa using e2)) rfl
theorem Tg(O:mR X.K X.mg P){ds:B1}{ys:Bi}{x1:Nat}{mH:Pos}(hys:namesOf es=some ys)(hd:ys.length=ds.length)(hy:∀(i d:Nat)(y:Str),ds[i]?=some d->ys[i]?=some y->P.cn[d]?=some y/\(P.fn[d]?).isSome=true/\Gl X y/\bZ y)
  (hl:es.length<=100) (hm:X.mg "isinstance" = none) (ha:PE X a (tE (P.kt X) fa)) (hg:Gl X "isinstance") (hs:noStar a=true) :
  PE X (.Call (.Name "isinstance" p) [a,.Tuple es x1 mH] [] pos) (tE (P.kt X) (cu (gH P.sub ds) fa)):=by
 have cls:∀(ds:B1)(ys:Bi),ys.length=ds.length->(∀(i d:Nat)(y:Str),ds[i]?=some d->ys[i]?=some y->P.cn[d]?=some y/\(P.fn[d]?).isSome=true/\Gl X y/\bZ y)->∃Ds:BM,Ds.length=ds.length/\∀(i:Nat)(y:Str)(D:Addr),ys[i]?=some y->Ds[i]?=some D->X.mg y=some (.ref D):=by
  intro ds
  induction ds with
  |nil=>intro ys hl _;exact⟨[],rfl,λi y D _ h=>by simp at h⟩
  |cons d ds ih=>
   intro ys hl h;cases ys with
   |nil=>cases hl
   |cons y ys=>
    obtain⟨h1,h2,_⟩:=h 0 d y rfl rfl;obtain⟨ns,wF⟩:=Ct.mp h2;obtain⟨D,F⟩:=O.cls d y ns h1 wF;obtain⟨Ds,hD,k⟩:=ih ys (by simpa using hl) λi d y e1 e2=>h (i+1) d y (by simpa using e1) (by simpa using e2)
    refine⟨D::Ds,by simp[hD],λi y' D' e1 e2=>?_⟩
    cases i with
    |zero=>simp at e1 e2;subst e1 e2;exact F.gl
    |succ i=>exact k i y' D' (by simpa using e1) (by simpa using e2)
 obtain⟨Ds,XJ,hDs⟩:=cls ds ys hd hy;have get:∀(i:Nat)(y:Str),ys[i]?=some y->∃d,ds[i]?=some d:=λi y h=>by
  have:=(eA.mp h).1
  exact⟨_,cj (by omega)⟩
 have names:=u1 (X:=X) (Ds:=Ds) hys (by rw[hd,XJ]) λi y D e1 e2=>by
  obtain⟨d,e3⟩:=get i y e1;obtain⟨_,_,h3,h4⟩:=hy i d y e3 e1;exact⟨h3,hDs i y D e1 e2,h4⟩
 refine aM (gQ Ej hg hm Cy (aV ha (aV (CS names) cK rfl) (aq hs)) (he:=aq hs) (hpl:=rfl)) λσ H Q zz=>?_;obtain⟨g,s,t,s',x,h,k⟩:=zz;obtain⟨⟨tx,s1⟩,h1,h⟩:=aa h;obtain⟨t',h2,h⟩:=aa h;cases h;refine⟨g,s,_,_,x,h1,λv g1 H1 p1 x1 r1=>?_⟩;have h2:=aj h2;cases tx<;>first|(cases h2;done)|skip
 obtain⟨l,yN,rfl⟩:=cH.mp h2;obtain⟨b,C,dx,Du,vs,rfl,hC,hq,hle,hdx,r⟩:=r1;obtain⟨m,Xz,XA,F⟩:=O.of hC;have ck:ys.length=es.length:=by
  have:∀(es:Bz)(ys:Bi),namesOf es=some ys->ys.length=es.length:=by
   intro es
   induction es with
   |nil=>intro ys h;cases h;rfl
   |cons e es ih=>
    intro ys h;cases e<;>first|(cases h;done)|skip
    rename_i x px;obtain⟨zs,h1,rfl⟩:=cH.mp (show(namesOf es).map (x::·)=some ys from h)
    rw[dP,dP,ih zs h1]
  exact this es ys hys
 refine⟨by rw[cD,XJ,<- hd,ck,sizeLine_eq];omega,λtp htp=>?_⟩
 have g2:=Gr.new (o:=.tup (Ds.map V.ref)) x1.sub htp;have kit:=zx (K:=X.K) (t:=.ref C) (cs:=Ds.map Value.ref) (bs:=ds.map λd=>decide (d∈l)) (by rw[cD,cD,XJ]) λi c bb e1 e2=>by
  rw[eG]at e1 e2;obtain⟨D,e3,rfl⟩:=cH.mp e1;obtain⟨d,e4,rfl⟩:=cH.mp e2;have hi:i<ys.length:=by rw[hd];exact(eA.mp e4).1
  have e5:ys[i]?=some ys[i]:=cj hi;obtain⟨f1,_⟩:=hy i d _ e4 e5;exact O.sub _ d m _ C D l Xz f1 F.gl (hDs i _ D e5 e3) yN
 refine⟨b,C,dx,tp,_,Ds,_,rfl,g2.sub _ _ (g2.fr _ _ hq),F.cl,F.ca,O.gt.1,O.gt.2,F.mo,ah,kit,?_⟩
 have:=k (V.bl (ds.any λd=>decide (d∈l))) (g1.grow _) _ (p1.trans (x1.iE g2)) (x1.grow g2) rfl
 rw[Ax];exact this
def u2(u v:B1):T->FR
 |.str l=>gd (l.length<=100000) (.str (u++l++v))
 |_=>none
theorem NR{k1 k2:Nat}{x y:Str}{p1 p2 p3:Pos}(hB:B.K=X.K)(ha:PE X a (tE B fa))(hl:x.length<=1000)(hm:y.length<=1000) :
  PE X (.JoinedStr [.Constant (.str x) k1 p1,.FormattedValue a (-1) none p2,.Constant (.str y) k2 p3] pos) (tE B (cu (u2 x.cps.toList y.cps.toList) fa)):=by
 obtain⟨⟨u⟩⟩:=x;obtain⟨⟨v⟩⟩:=y;have hl:u.length<=1000:=by rw[<- fH u];exact hl
 have hm:v.length<=1000:=by rw[<- fH v];exact hm
 refine aM (Ic ha (by show(⟨u.toArray⟩:Str).length<=_;rw[fH,sizeLine_eq];omega)) (Dz hB λB hB al HF H x t tx Q sm rx h k=>?_)
 cases tx<;>first|(cases h;done)|skip
 rename_i n;obtain⟨z,rfl⟩:=aT h;obtain⟨rfl,hz⟩:=rx;refine⟨_,rfl,by show(⟨u.toArray⟩:Str).length+_+(⟨v.toArray⟩:Str).length<=_;rw[fH,fH,fH,sizeLine_eq];omega,k _ HF H (.refl sm) ⟨?_,by rw[cC,cC];show u.length+_+v.length<=_;omega⟩⟩
 show V.str _=V.str _
 congr 1
 show(⟨(((#[]:Array Nat)++u.toArray)++n.toArray)++v.toArray⟩:Str)=⟨(u++n++v).toArray⟩
 congr 1
 simp
theorem Ii(hB:B.K=X.K){px:Pos}(hN:X.N[i]?=some y)(hv:rL X.env.scope y)(hd:bZ y)(jD:iO y)(hg:Gl X "len")(hm:X.mg "len" = none) :
  PE X (.Call (.Name "len" p) [.Name y px] [] pos) (tE B (K0 i)):=by
 refine aM (gQ nM hg hm PySem.boot_len (aV (dD hN hv hd jD) cK rfl) (he:=rfl) (hpl:=rfl)) λσ H Q zz=>?_;obtain⟨g,s,t,s',x,h,k⟩:=zz;obtain⟨ts,h1,h⟩:=aa h;cases h;obtain⟨l,vs,w1,w2,w3,w4⟩:=x.sJ (gz (aj h1));exact⟨_,w1,_,_,rfl,.inl ⟨vs,df.of w3,w4.len⟩,k _ g H .refl x rfl⟩
theorem NS{px:Pos}(hN:X.N[i]?=some y)(hv:rL X.env.scope y)(hd:bZ y)(jD:iO y)(hb:PE X b (tE B fb))(hs:ji b) :
  PE X (.Subscript (.Name y px) b pos) (tE B (lF i fb)):=by
 refine aM (KQ yU (dD hN hv hd jD) hb hs) λσ H Q zz=>?_;obtain⟨g,s,t,s',x,h,k⟩:=zz;obtain⟨us,h0,h⟩:=aa h;obtain⟨⟨ty,s1⟩,h1,h⟩:=aa h;obtain⟨ts,h2,h⟩:=aa h;obtain⟨t',h3,h⟩:=aa h;cases h;obtain⟨l,vs,w1,w2,w3,w4⟩:=x.sJ (gz (aj h0));refine⟨_,w1,g,s,ty,_,x,h1,λv g1 H1 p1 x1 r1=>?_⟩;obtain⟨l',gn,q1,q2,q3,q4⟩:=x1.sJ (gz (aj h2));rw[w1]at q1;cases q1;have h3:=aj h3;cases ty<;>first|(cases h3;done)|skip
 obtain⟨w,e,xw⟩:=sF q4 (show atT ts _=some _ from h3);exact⟨l,gn,_,w,rfl,r1,df.of q3,e,k w g1 H1 p1 x1 xw⟩
def iF:T->T->FR
 |.int i,.int j=>some (.int (i+j))
 |_,_=>none
theorem Th(hN:X.N.Nodup)(hi:X.N[i]?=some x)(hx:Loc X.env.scope x)(he:PE X e (tE B fa))(hf:X.fn x=true\/X.env.scope.names.lookup x=some .local) :
  PS X (.AugAssign (.Name x cJ) .Add e pos) (tS B (Dt iF i fa)):=c6 (Ml hN hi hx he Mm hf) λD σ H zz=>by
 obtain⟨g,s,o,s',z,h,k⟩:=zz;unfold Dt at h;split at h
 ·rename_i tx hr
  obtain⟨⟨ty,s1⟩,h1,h⟩:=aa h;obtain⟨t,h2,h⟩:=aa h;cases h;obtain⟨v,hv,rv⟩:=z.lc.at_ i _ hr;have h2:=aj h2;cases tx<;>first|(cases h2;done)|(cases ty<;>first|(cases h2;done)|skip)
  cases h2;cases(show v=V.int _ from rv);refine⟨_,hv,g,s,_,s1,z,h1,λw g1 H1 p1 x1 r1=>?_⟩;cases(show w=V.int _ from r1);exact⟨_,_,rfl,rfl,k _ g1 H1 p1 (x1.set (t:=.int _) rfl)⟩
 ·cases h
def zy(K:bu)(mg:Str->D1)(x:Str)(t:T):Prop:=∃u v,mg x=some u/\RelV v u/\∀(B:KT)(al:BM)(H:Hp),B.K=K->Rep B al H t v
theorem Ti{t:T}(h:zy X.K X.mg x t)(hB:B.K=X.K)(hg:Gl X x)(hd:bZ x):PE X (.Name x pos) (tE B (cF t)):=by
 obtain⟨u,v,h1,h2,h3⟩:=h;exact ku (rN hg h1 h2 hd) λal H=>h3 B al H hB
theorem Tj{body:Ee}{h0:ExceptHandler}{hs:List ExceptHandler}{t:TS}(hxe:X.xe=λ_ _=>False)(h:j8 X body t):PS X (.Try body (h0::hs) [] [] pos) t:=λae s σ H D I q=>by
 refine wpAny_Try_except (wpAny_mono (h ae s σ H D I q) (λf s1 z=>?_) λe s1 z=>?_)
 ·cases f with
  |next=>exact wpAny_execs_nil z
  |brk=>exact z
  |cont=>exact z
  |ret u=>exact z
 ·rw[hxe]at z;exact z.elim
end
def Ij(neg:Bool):T->T->FR
 |x,.du ks _=>(jI x).map λk=>.bl (if neg then !decide (k∈ks)else decide (k∈ks))
 |_,_=>none
def aH(op:CmpOp)(x y:T):FR:=match op,y with
 |.In,.du ks vs=>Ij false x (.du ks vs)
 |.NotIn,.du ks vs=>Ij true x (.du ks vs)
 |op,y=>HP op x y
def PY:Option (Option C)->Option (List Ky×FK)
 |some (some (.od ks ts))=>some (ks,ts)
 |_=>none
def mh:CmpOp->Option Bool
 |.In=>some false
 |.NotIn=>some true
 |_=>none
def Tn(neg:Bool)(i:Nat)(a:FE):FE:=λs=>(a s).bind λp=>(aY (PY p.2.r[i]?)).bind λd=>(aY (jI p.1)).bind λk=>.ok (.bl (if neg then !decide (k∈d.1)else decide (k∈d.1)),p.2)
def XM(i:Nat)(s:S):Bool:=(PY s.r[i]?).isSome
def Li(neg:Bool)(i:Nat)(a:FE):FE:=λs=>(a s).bind λp=>(aY (oj p.2.r[i]?)).bind λts=>(aY (MZ p.1 (.lst ts))).bind λb=>.ok (.bl (if neg then !b else b),p.2)
def NT(i:Nat)(s:S):Bool:=(oj s.r[i]?).isSome
def PZ(op:CmpOp)(neg:Bool)(i:Nat)(a:FE):FE:=λs=>if XM i s then Tn neg i a s else if NT i s then Li neg i a s else bB (aH op) a (vF i) s
def zA(i:Nat):FS:=λs=>.ok (.nx,jr s i (.od [] []))
def jx(ks:List Ky)(ts:FK)(k:Ky)(t:T):List Ky×FK:=if k∈ks then(ks,(ks.zip ts).map λp=>if p.1=k then t else p.2)else(ks++[k],ts++[t])
def Lj(i:Nat)(b a:FE):FS:=λs=>(a s).bind λp=>(b p.2).bind λq=>(aY (PY p.2.r[i]?)).bind λ_=>(aY (PY q.2.r[i]?)).bind λd=>(aY (jI q.1)).bind λk=>(aY (gd (d.1.length<1000000) ())).bind λ_=>.ok (.nx,jr q.2 i (let z:=jx d.1 d.2 k p.1;.od z.1 z.2))
def Ik:B1->B1->B1:=Pf.iC
def sQ:T->FR
 |.str l=>gd (l.all (· < 128)=true/\l.length<=4000) (.int ((Ik [] l).length:Nat))
 |_=>none
section
variable{ib p1:Pos}{al:BM}
theorem sR{a b:Ky}(h:jZ a=jZ b):a=b:=by
 cases a<;>cases b
 ·injection h with h;rw[h]
 ·cases h
 ·cases h
 ·injection h with h
  injection h with h
  have h:=congrArg Array.toList h;dsimp only at h;rw[h]
theorem gA{t:T}{v:V}{k:Ky}(h:jI t=some k)(r:Rep B al H t v):v=kV (jZ k):=by
 cases t<;>first|(cases h;done)|skip
 ·cases h;exact r
 ·cases h;exact r.1
theorem oR:∀{ks:List Ky}{vs:List V},ks.length=vs.length->∀k,(jF ((ks.map jZ).zip vs) (jZ k)).isSome=decide (k∈ks)
 |[],_,_,k=>by simp[jF]
 |q::ks,[],h,_=>by cases h
 |q::ks,v::vs,h,k=>by
  rw[dz,nE];by_cases e:q=k
  ·rw[iW (p:=(jZ q,v)) (by rw[e])]
   simp[e]
  ·rw[iX (p:=(jZ q,v)) (λz=>e (sR z)),oR (rG.inj h) k]
   have:(k∈q::ks) ↔ (k∈ks):=⟨λz=>(bA.mp z).elim (λz=>absurd z.symm e) id,eF _⟩
   simp only[this]
theorem zB{k:Ky}{v:V}{t:T}(rt:Rep B al H t v):∀{ks:List Ky}{vs:List V}{ts:FK},ks.length=vs.length->aA B al H ts vs ->
  ((ks.map jZ).zip vs).map (λkv=>if kv.1=jZ k then(kv.1,v)else kv)=(ks.map jZ).zip ((ks.zip vs).map λp=>if p.1=k then v else p.2)/\ks.length=((ks.zip vs).map λp=>if p.1=k then v else p.2).length/\aA B al H ((ks.zip ts).map λp=>if p.1=k then t else p.2) ((ks.zip vs).map λp=>if p.1=k then v else p.2)
 |[],[],_,_,r=>⟨rfl,rfl,by cases ‹FK›<;>exact rfl⟩
 |q::ks,[],_,h,_=>by cases h
 |[],_::_,_,h,_=>by cases h
 |q::ks,u::vs,ts,h,r=>by
  cases ts with
  |nil=>cases(show u::vs=[]from r)
  |cons t' ts=>
   obtain⟨u',gn,e,ru,rs⟩:=r;cases e;obtain⟨h1,h2,h3⟩:=zB rt (ks:=ks) (vs:=vs) (ts:=ts) (rG.inj h) rs;refine⟨?_,?_,?_⟩
   ·simp only[dz,nE]at h1 ⊢
    rw[h1];by_cases e:q=k
    ·rw[if_pos (by rw[e]),if_pos e]
    ·rw[if_neg (λz=>e (sR z)),if_neg e]
   ·simp only[nE,dz,dP]
    rw[<- h2]
   ·simp only[nE,dz]
    refine⟨_,_,rfl,?_,h3⟩;by_cases e:q=k
    ·rw[if_pos e,if_pos e];exact rt
    ·rw[if_neg e,if_neg e];exact ru
theorem Em{ks:List Ky}{ts:FK}{vs:List V}{k:Ky}{t:T}{v:V}(hl:ks.length=vs.length)(r:aA B al H ts vs)(rt:Rep B al H t v) :
  ∃gn,L2.putK ((ks.map jZ).zip vs) (jZ k) v=((jx ks ts k t).1.map jZ).zip gn/\(jx ks ts k t).1.length=gn.length/\aA B al H (jx ks ts k t).2 gn:=by
 unfold L2.putK jx;rw[nV,oR hl];by_cases e:k∈ks
 ·rw[if_pos (decide_eq_true e),if_pos e]
  obtain⟨h1,h2,h3⟩:=zB (k:=k) rt hl r;exact⟨_,h1,h2,h3⟩
 ·rw[if_neg (by simpa using e),if_neg e]
  refine⟨vs++[v],?_,by simp[hl],r.app (.one rt)⟩
  rw[lj,List.zip_append (by rw[cD];exact hl)]
  rfl
def NU(neg:Bool):R2:=λx y H Q=>∃a o,y=.ref a/\ql H a x o/\Q (.bl (if neg then !o.isSome else o.isSome)) H
theorem En(hu:X.A.units+1<cLine):gi X (compareOp .In) (NU false):=λae s σ H x y v u Q I rx ry z=>by
 obtain⟨a,o,ey,g,q⟩:=z;subst ey
 obtain rfl:u=Value.ref a:=ry
 exact WQ hu I g rx λs3 I3=>⟨.bl o.isSome,H,I3,rfl,q⟩
theorem zC(hu:X.A.units+1<cLine):gi X (compareOp .NotIn) (NU true):=λae s σ H x y v u Q I rx ry z=>by
 obtain⟨a,o,ey,g,q⟩:=z;subst ey
 obtain rfl:u=Value.ref a:=ry
 exact Hv hu I g rx λs3 I3=>⟨.bl (!o.isSome),H,I3,rfl,q⟩
theorem Ll(neg:Bool):qp X (Ij neg) (NU neg):=λB hB al HF H x y t tx ty Q sm rx ry h k=>by
 unfold Ij at h;split at h
 case h_2=>cases h
 rename_i ks ts;obtain⟨kk,h1,rfl⟩:=cH.mp h;obtain⟨a,vs,rfl,h2,h3,h4⟩:=ry;rw[gA h1 rx];refine⟨a,_,rfl,.k (sm _ _ h2),?_⟩;rw[oR h3];exact k _ HF H (.refl sm) rfl
theorem ni{op:CmpOp}{k:Nat}(hr:bH k X.A):∃r,gi X (compareOp op) r/\qp X (aH op) r:=by
 have hu:X.A.units+1<cLine:=by have:=hr.units;omega
 obtain⟨r,h1,h2⟩:=Nd (op:=op) hr;have XN:(∀x y,aH op x y=HP op x y)->∃r,gi X (compareOp op) r/\qp X (aH op) r:=λz=>⟨r,h1,by
  have:aH op=HP op:=funext λx=>funext λy=>z x y
  rw[this];exact h2⟩
 cases op
 case In=>exact⟨_,h1.or (En hu),λB hB al HF H x y t tx ty Q sm rx ry h k=>by
  unfold aH at h;split at h
  ·exact .inr (Ll false B hB al HF H x y t tx _ Q sm rx ry h k)
  ·rename_i q;cases q
  ·exact .inl (h2 B hB al HF H x y t tx _ Q sm rx ry h k)⟩
 case NotIn=>exact⟨_,h1.or (zC hu),λB hB al HF H x y t tx ty Q sm rx ry h k=>by
  unfold aH at h;split at h
  ·rename_i q;cases q
  ·exact .inr (Ll true B hB al HF H x y t tx _ Q sm rx ry h k)
  ·exact .inl (h2 B hB al HF H x y t tx _ Q sm rx ry h k)⟩
 all_goals exact XN λx y=>by cases y<;>rfl
theorem NV{op:CmpOp}{k:Nat}(hB:B.K=X.K)(hr:bH k X.A)(ha:PE X a (tE B fa))(hb:PE X b (tE B fb))(hm:behindInMarks op b=false):PE X (.Compare a [op] [b] pos) (tE B (bB (aH op) fa fb)):=by
 obtain⟨r,ho,hl⟩:=ni (op:=op) hr;exact aM (kc ho ha hb hm) (i_ hB hl)
theorem Il{op:CmpOp}{k:Nat}(hB:B.K=X.K)(hr:bH k X.A)(ha:PE X a (tE B fa))(hb:PE X b (tE B fb))(hm:behindInMarks op b=false):PT X (.Compare a [op] [b] pos) (tT B (bw (bB (aH op) fa fb))):=by
 obtain⟨r,ho,hl⟩:=ni (op:=op) hr;exact za (kg ho ha hb hm) λσ H Q q=>i_ hB hl σ H _ (DR q)
theorem sU{q:Option (Option C)}{d:List Ky×FK}(h:PY q=some d):q=some (some (.od d.1 d.2)):=by
 unfold PY at h;split at h
 ·cases h;rfl
 ·cases h
theorem SR.NW(x:SR B g H σ s){ks:List Ky}{ts:FK}(h:s.r[i]?=some (some (.od ks ts))):∃l vs,σ[i]?=some (some (.ref l))/\g.o l=some (.loc i)/\H l=some (.dK ((ks.map jZ).zip vs))/\ks.length=vs.length/\aA B g.al g.HF ts vs:=by
 obtain⟨v,h1,l,vs,rfl,h2,h3,h4,h5⟩:=x.lc.at_ i _ h;exact⟨l,vs,h1,h2,h3,h4,h5⟩
theorem Eo{neg:Bool}:∀σ H Q,tE B (Tn neg i fa) σ H Q->CL (NU neg) (tE B fa) (wX i) σ H Q:=by
 rintro σ H Q ⟨g,s,t,s',x,h,k⟩
 obtain⟨⟨tx,s1⟩,h1,h⟩:=aa h;obtain⟨d,h2,h⟩:=aa h;obtain⟨kk,h3,h⟩:=aa h;cases h;refine⟨g,s,tx,_,x,h1,λv g1 H1 p1 x1 r1=>?_⟩;obtain⟨l,vs,w1,w2,w3,w4,w5⟩:=x1.NW (sU (aj h2));refine⟨_,w1,?_⟩;rw[gA (aj h3) r1];refine⟨l,_,rfl,.k w3,?_⟩;rw[oR w4];exact k _ g1 H1 p1 x1 rfl
theorem kK{op:CmpOp}{neg:Bool}(hu:X.A.units+1<cLine)(h:mh op=some neg):gi X (compareOp op) (NU neg):=by
 cases op<;>first|(cases h;done)|skip
 ·cases h;exact En hu
 ·cases h;exact zC hu
theorem zD{neg:Bool}(hB:B.K=X.K):∀σ H Q,tE B (Li neg i fa) σ H Q->CL (uQ X.K neg) (tE B fa) (wX i) σ H Q:=by
 rintro σ H Q ⟨g,s,t,s',x,h,k⟩
 obtain⟨⟨tx,s1⟩,h1,h⟩:=aa h;obtain⟨ts,h2,h⟩:=aa h;obtain⟨b,h3,h⟩:=aa h;cases h;refine⟨g,s,tx,_,x,h1,λv g1 H1 p1 x1 r1=>?_⟩;obtain⟨l,vs,w1,w2,w3,w4⟩:=x1.sJ (gz (aj h2));have hf:=(x1.st.live l _ w2).1;refine⟨_,w1,DQ (HF:=upd g1.HF l (.lst vs)) (ty:=.lst ts) hB (λb u e=>?_) (r1.mv eK (aS hf)) ⟨l,vs,rfl,ah,w4.mv eK (aS hf)⟩ (aj h3) (k _ g1 H1 p1 x1 rfl)⟩;by_cases hb:b=l
 ·subst hb;rw[ah]at e;cases e;exact w3
 ·rw[au hb]at e;exact x1.sub _ _ e
theorem qU{op:CmpOp}{neg:Bool}(h:mh op=some neg):gi X (compareOp op) (uQ X.K neg):=by
 cases op<;>first|(cases h;done)|skip
 ·cases h;exact DP
 ·cases h;exact ze
theorem To{op:CmpOp}{neg:Bool}{k:Nat}{py:Pos}(hB:B.K=X.K)(hr:bH k X.A)(hn:mh op=some neg)(ha:PE X a (tE B fa))(hN:X.N[i]?=some y)(hv:rL X.env.scope y)(hd:bZ y)(jD:iO y) :
  PE X (.Compare a [op] [.Name y py] pos) (tE B (PZ op neg i fa)):=by
 have hu:X.A.units+1<cLine:=by have:=hr.units;omega
 obtain⟨r,ho,hl⟩:=ni (op:=op) hr;have hm:behindInMarks op (.Name y py)=false:=by cases op<;>rfl
 refine D9 (ι:=Option Bool) (C:=λ_=>True) (t:=λq=>match q with|some true=>CL (NU neg) (tE B fa) (wX i)|none=>CL (uQ X.K neg) (tE B fa) (wX i)|some false=>CL r (tE B fa) (tE B (vF i))) (λq _=>?_) λσ H Q ⟨g,s,t,s',x,h,kk⟩=>?_
 ·match q with
  |some true=>exact kc (kK hu hn) ha (dD hN hv hd jD) hm
  |none=>exact kc (qU hn) ha (dD hN hv hd jD) hm
  |some false=>exact kc ho ha (Dy hN hv hd jD) hm
 ·unfold PZ at h
  split at h
  ·exact⟨some true,trivial,Eo σ H Q ⟨g,s,t,s',x,h,kk⟩⟩
  ·split at h
   ·exact⟨none,trivial,zD hB σ H Q ⟨g,s,t,s',x,h,kk⟩⟩
   ·exact⟨some false,trivial,i_ hB hl σ H Q ⟨g,s,t,s',x,h,kk⟩⟩
theorem NX{op:CmpOp}{neg:Bool}{k:Nat}{py:Pos}(hB:B.K=X.K)(hr:bH k X.A)(hn:mh op=some neg)(ha:PE X a (tE B fa))(hN:X.N[i]?=some y)(hv:rL X.env.scope y)(hd:bZ y)(jD:iO y) :
  PT X (.Compare a [op] [.Name y py] pos) (tT B (bw (PZ op neg i fa))):=by
 have hu:X.A.units+1<cLine:=by have:=hr.units;omega
 obtain⟨r,ho,hl⟩:=ni (op:=op) hr;have hm:behindInMarks op (.Name y py)=false:=by cases op<;>rfl
 have h1:=kg (pos:=pos) ho ha (Dy (B:=B) hN hv hd jD) hm;have h2:=kg (pos:=pos) (kK hu hn) ha (dD hN hv hd jD) hm;have h3:=kg (pos:=pos) (qU hn) ha (dD hN hv hd jD) hm;intro ae s0 σ H Q I q;obtain⟨g,s,t,s',x,h,kk⟩:=DR q;unfold PZ at h;split at h
 ·exact h2 ae s0 σ H Q I (Eo σ H _ ⟨g,s,t,s',x,h,kk⟩)
 ·split at h
  ·exact h3 ae s0 σ H Q I (zD hB σ H _ ⟨g,s,t,s',x,h,kk⟩)
  ·exact h1 ae s0 σ H Q I (i_ hB hl σ H _ ⟨g,s,t,s',x,h,kk⟩)
theorem Ep(hc:X.calm=true)(RE:X.mg "len" = none)(W0:X.mg "set" = none)(ha:PE X a (tE B fa))(PQ:Gl X "len")(W2:Gl X "set")(hs:noStar a=true) :
  PE X (.Call (.Name "len" p) [.Call (.Name "set" p1) [a] [] ib] [] pos) (tE B (cu sQ fa)):=by
 refine aM (A5 hc RE W0 ha PQ W2 (aq hs) rfl rfl rfl) λσ H Q zz=>?_;obtain⟨g,s,t,s',x,h,k⟩:=zz;obtain⟨⟨tx,s1⟩,h1,h⟩:=aa h;obtain⟨t',h2,h⟩:=aa h;cases h;have h2:=aj h2;cases tx<;>first|(cases h2;done)|skip
 obtain⟨z,rfl⟩:=aT h2;refine⟨g,s,_,_,x,h1,λv g1 H1 p1 x1 r1=>?_⟩;obtain⟨rfl,hz⟩:=r1;refine⟨_,rfl,?_,?_,k _ g1 H1 p1 x1 rfl⟩
 ·rw[List.all_toArray];exact z.1
 ·rw[b_]
  show _+1<4096
  have:=z.2
  omega
theorem NY{dp:Pos}(hN:X.N.Nodup)(hi:X.N[i]?=some x)(hx:Loc X.env.scope x)(hf:X.fn x=true\/X.env.scope.names.lookup x=some .local) :
  PS X (.Assign [.Name x cJ] (.Dict [] [] dp) pos) (tS B (zA i)):=c6 (wZ hN hi hx nZ rfl hf) λD σ H z=>by
 obtain⟨g,s,o,s',x,h,k⟩:=z;cases h;intro q hq;obtain⟨gr,n1,n2⟩:=om (u:=.dK []) x hq;have x1:=x.grow gr;have p1:=x.iE gr;refine k _ ((g.grow g.HF).own q (.loc i)) _ ⟨p1.fr,p1.pre,λb u h n z=>?_,p1.there⟩ (x1.Xb (ks:=[]) (ts:=[]) (vs:=[]) n2 n1 ah rfl rfl);obtain⟨a,b',c⟩:=p1.rest b u h n z
 have:b≠q:=aJ h hq
 exact⟨a,b',by show(if b=q then some (jK.loc i)else g.o b)=none;rw[if_neg this];exact c⟩
theorem NZ{py:Pos}{k:Nat}(hr:bH k X.A)(he:PE X e (tE B fa))(hb:PE X b (tE B fb))(hN:X.N[i]?=some y)(hv:rL X.env.scope y)(hd:bZ y)(jD:iO y)
  (hs:swapsWith e (some (.Subscript (.Name y py) b cJ)) pos.line X.env=pure false) :
  PS X (.Assign [.Subscript (.Name y py) b cJ] e pos) (tS B (Lj i fb fa)):=by
 have hu:X.A.units+1<cLine:=by have:=hr.units;omega
 refine c6 (yY hu (dD hN hv hd jD) hb he hs) λD σ H zz=>?_;obtain⟨g,s,o,s',x,h,k⟩:=zz;obtain⟨⟨t,s1⟩,h1,h⟩:=aa h;obtain⟨⟨tk,s2⟩,h2,h⟩:=aa h;obtain⟨d0,h3,h⟩:=aa h;obtain⟨d,h4,h⟩:=aa h;obtain⟨kk,h5,h⟩:=aa h;obtain⟨_,h6,h⟩:=aa h;obtain⟨z,_⟩:=aT (aj h6);cases h;refine⟨g,s,t,s1,x,h1,λv g1 H1 p1 x1 r1=>?_⟩;obtain⟨l,vs,w1,w2,w3,w4,w5⟩:=x1.NW (sU (aj h3));refine⟨_,w1,g1,s1,tk,s2,x1,h2,λu g2 H2 p2 x2 r2=>?_⟩;have ho:=sU (aj h4);obtain⟨l',gn,q1,q2,q3,q4,q5⟩:=x2.NW ho;rw[w1]at q1;cases q1;obtain⟨Tp,e1,e2,e3⟩:=Em (k:=kk) q4 q5 (r1.mv p2.pre p2.fr);obtain⟨x3,p3⟩:=x2.Xc ho w1 e2 e3;rw[gA (aj h5) r2];refine⟨l,_,rfl,.k q3 ?_,?_⟩
 ·rw[tW,cD,sizeLine_eq]
  have:d.1.length<1000000:=z
  omega
 ·rw[e1]
  exact k σ g2 _ ((p1.trans p2).trans p3) x3
end
def sV(n:Nat)(m:FV):T->Option (Nat×C)
 |.own k=>(m[k]?).bind λob=>(match ob.fs with
  |[c]=>if ob.c=n then some (k,c)else none
  |_=>none)
 |_=>none
def XO:C->FC
 |.ol ts=>some ts
 |_=>none
def XQ:C->Option (List Ky×FK)
 |.od ks ts=>some (ks,ts)
 |_=>none
def xR(n:Nat)(m:FV)(t:T):Option (Nat×FK):=(sV n m t).bind λz=>(XO z.2).map λts=>(z.1,ts)
def oS(n:Nat)(m:FV)(t:T):Option (Nat×List Ky×FK):=(sV n m t).bind λz=>(XQ z.2).map λd=>(z.1,d.1,d.2)
def setB(n:Nat)(s:S)(k:Nat)(c:C):S:={s with m:=s.m.set k ⟨n,[c]⟩}
def mS(n:Nat):FE:=λs=>.ok (.own s.m.length,{s with m:=s.m++[⟨n,[.od [] []]⟩]})
def iG(n:Nat)(o a:FE):FS:=λs=>(o s).bind λp=>(aY (xR n p.2.m p.1)).bind λ_=>(a p.2).bind λq=>(aY (xR n q.2.m p.1)).bind λz=>(aY (gd (z.2.length<1000000) ())).bind λ_=>.ok (.nx,setB n q.2 z.1 (.ol (z.2++[q.1])))
def Bf(n:Nat)(o b a:FE):FS:=λs=>(a s).bind λv=>(o v.2).bind λp=>(b p.2).bind λq=>(aY (oS n q.2.m p.1)).bind λz=>(aY (jI q.1)).bind λk=>(aY (gd (z.2.1.length<1000000) ())).bind λ_=>.ok (.nx,setB n q.2 z.1 (let y:=jx z.2.1 z.2.2 k v.1;.od y.1 y.2))
def sW(n:Nat)(neg:Bool)(a o:FE):FE:=λs=>(a s).bind λp=>(o p.2).bind λq=>(aY (oS n q.2.m q.1)).bind λz=>(aY (jI p.1)).bind λk=>.ok (.bl (if neg then !decide (k∈z.2.1)else decide (k∈z.2.1)),q.2)
def Er(n:Nat)(o b:FE):FE:=λs=>(o s).bind λp=>(b p.2).bind λq=>(aY (oS n q.2.m p.1)).bind λz=>(aY (jI q.1)).bind λk=>(aY (gW z.2.1 z.2.2 k)).bind λt=>.ok (t,q.2)
def N1(n:Nat)(o b d:FE):FE:=λs=>(o s).bind λp=>(aY (oS n p.2.m p.1)).bind λ_=>(b p.2).bind λq=>(d q.2).bind λw=>(aY (oS n w.2.m p.1)).bind λz=>(aY (jI q.1)).bind λk=>.ok ((gW z.2.1 z.2.2 k).getD w.1,w.2)
section
variable{f:Expr}{H1:Hp}{g1:G}{n:Nat}
theorem oU{m:FV}{t:T}{z:Nat×C}(h:sV n m t=some z):t=.own z.1/\m[z.1]?=some ⟨n,[z.2]⟩:=by
 cases t<;>first|(cases h;done)|skip
 obtain⟨ob,h1,h⟩:=eM.mp (show(m[_]?).bind _=some z from h);obtain⟨d,fs⟩:=ob
 match fs,h,h1 with
 |[c],h,h1=>
  dsimp only at h;split at h
  ·rename_i q;cases h;subst q;exact⟨rfl,h1⟩
  ·cases h
theorem u9{m:FV}{t:T}{z:Nat×FK}(h:xR n m t=some z):t=.own z.1/\m[z.1]?=some ⟨n,[.ol z.2]⟩:=by
 obtain⟨w,h1,h2⟩:=eM.mp h;obtain⟨ts,h3,rfl⟩:=cH.mp h2;obtain⟨e1,e2⟩:=oU h1;obtain⟨k,c⟩:=w;cases c<;>first|(cases h3;done)|skip
 cases h3;exact⟨e1,e2⟩
theorem ja{m:FV}{t:T}{z:Nat×List Ky×FK}(h:oS n m t=some z):t=.own z.1/\m[z.1]?=some ⟨n,[.od z.2.1 z.2.2]⟩:=by
 obtain⟨w,h1,h2⟩:=eM.mp h;obtain⟨d,h3,rfl⟩:=cH.mp h2;obtain⟨e1,e2⟩:=oU h1;obtain⟨k,c⟩:=w;cases c<;>first|(cases h3;done)|skip
 cases h3;exact⟨e1,e2⟩
theorem SR.u_(x:SR B g H σ s)(hc:B.cn[n]?=none){c:C}(hm:s.m[k]?=some ⟨n,[c]⟩){l:Addr}(ha:g.al[k]?=some l):VA B g H k ⟨n,[c]⟩ l/\a_ B g H (.ob k) c (.ref l):=by
 rcases x.st.at_ k _ hm with⟨a',C,dx,ns,vs,Z⟩|⟨a',Z⟩
 ·obtain⟨m,q,_⟩:=Z.cl
  rw[hc]at q;cases q
 ·have:=Z.al.symm.trans ha
  cases this;exact⟨Z,Z.f c rfl⟩
theorem SR.vc{l:Addr}{c:C}(x:SR B g H σ s)(hc:B.cn[n]?=none)(hf:B.fn[n]?=none)(n1:g.HF l=none)(n2:g.o l=none){u:HO}(hl:H l=some u)(r:a_ B (g.d_ l) H (.ob g.al.length) c (.ref l)):SR B (g.d_ l) H σ {s with m:=s.m++[⟨n,[c]⟩]}:=by
 have ho:∀b p',g.o b=some p'->(g.d_ l).o b=some p':=λb p' h=>by
  show(if b=l then some (jK.ob g.al.length)else g.o b)=_
  rw[if_neg λz=>by rw[z,n2]at h;cases h];exact h
 have pre:g.al <+: (g.d_ l).al:=yy _ _;refine⟨⟨x.sub,λb p' e=>?_,?_,λk ob e=>?_⟩,x.lc.len,λi c' e=>?_⟩
 ·have e:(if b=l then some (jK.ob g.al.length)else g.o b)=some p':=e
  by_cases hb:b=l
  ·subst hb;exact⟨n1,_,hl⟩
  ·rw[if_neg hb]at e;exact x.st.live b p' e
 ·show(s.m++[_]).length=(g.al++[l]).length
  rw[cC,cC,x.st.len];rfl
 ·have e:(s.m++[(⟨n,[c]⟩:Ob)])[k]?=some ob:=e
  by_cases hk:k<s.m.length
  ·rw[gO hk]at e
   exact(x.st.at_ k ob e).mv (aL.refl _) pre λb p' h _=>⟨ho b p' h,rfl⟩
  ·rw[fQ (by omega)]at e
   have XI:k-s.m.length=0:=by
    have:=(eA.mp e).1
    simp at this;omega
   rw[XI]at e;cases e;have oN:k=g.al.length:=by have:=x.st.len;omega
   subst oN;refine .inr ⟨l,?_,hc,hf,λd z=>by cases z;exact r⟩
   show(g.al++[l])[g.al.length]?=some l;rw[fQ (dj _),lr];rfl
 ·obtain⟨v,h1,h2⟩:=x.lc.at_ i c' e
  exact⟨v,h1,a_.mv (g:=g) (g':=g.d_ l) (aL.refl _) pre (λb h=>⟨ho b _ h,rfl⟩) h2⟩
theorem zE{l:Addr}:(g.d_ l).o l=some (.ob g.al.length):=by
 show(if l=l then some (jK.ob g.al.length)else g.o l)=_
 rw[if_pos rfl]
theorem fj.vc(q:fj g H g1 H1){l:Addr}(h0:H l=none):fj g H (g1.d_ l) H1:=⟨q.fr,q.pre.trans (yy _ _),λb u h n z=>by
 obtain⟨h1,h2,h3⟩:=q.rest b u h n z;refine⟨h1,h2,?_⟩;show(if b=l then some (jK.ob g1.al.length)else g1.o b)=none
 rw[if_neg (aJ h h0)];exact h3,q.there⟩
theorem vd(x:SR B g H σ s){l:Addr}:Rep B (g.d_ l).al (g.d_ l).HF (.own s.m.length) (.ref l):=⟨l,rfl,by
 show(g.al++[l])[s.m.length]?=some l;rw[x.st.len,fQ (dj _),lr];rfl⟩
theorem N2(hc:B.cn[n]?=none)(hf:B.fn[n]?=none)(he:PE X e (tO B fl)):PE X e (tE B (uM n fl)):=aM he λσ H Q z=>by
 obtain⟨g,s,t,s',x,h,k⟩:=z;obtain⟨⟨ts,s1⟩,h1,h⟩:=aa h;cases h;exact⟨g,s,ts,s1,x,h1,λl vs g1 H1 p1 x1 h0 n1 n2 hl r=>k _ (g1.d_ l) H1 (p1.vc h0) (x1.vc (c:=.ol ts) hc hf n1 n2 hl ⟨l,vs,rfl,zE,hl,r.mv (yy _ _) (aL.refl _)⟩) (vd x1)⟩
theorem N3{dp:Pos}(hc:B.cn[n]?=none)(hf:B.fn[n]?=none):PE X (.Dict [] [] dp) (tE B (mS n)):=aM nZ λσ H Q z=>by
 obtain⟨g,s,t,s',x,h,k⟩:=z;cases h;intro q hq;obtain⟨gr,n1,n2⟩:=om (u:=.dK []) x hq;have x1:=x.grow gr;exact k _ ((g.grow g.HF).d_ q) _ ((x.iE gr).vc hq) (x1.vc (c:=.od [] []) hc hf n1 n2 ah ⟨q,[],rfl,zE,ah,rfl,rfl⟩) (vd x1)
theorem SR.Lm{l:Addr}{c c':C}{u:HO}(x:SR B g H σ s)(Z:VA B g H k ⟨n,[c]⟩ l)(hk:s.m[k]?=some ⟨n,[c]⟩)(ho:g.o l=some (.ob k))(r:a_ B g (upd H l u) (.ob k) c' (.ref l)) :
  fj g H g (upd H l u)/\SR B g (upd H l u) σ (setB n s k c'):=by
 have ne:∀b q,g.o b=some q->q≠.ob k->upd H l u b=H b:=λb q hb hq=>au λz=>hq (by rw[z,ho]at hb;cases hb;rfl)
 refine⟨m_ ho,⟨⟨λb w e=>?_,λb q e=>?_,by show(s.m.set k _).length=_;rw[eW];exact x.st.len,λk' xP e=>?_⟩,x.lc.len,λi c e=>?_⟩⟩
 ·have:b≠l:=λz=>by rw[z,(x.st.live l _ ho).1]at e;cases e
  rw[au this];exact x.sub _ _ e
 ·obtain⟨h1,w,h2⟩:=x.st.live b q e
  by_cases hb:b=l
  ·exact⟨h1,_,by rw[hb,ah]⟩
  ·exact⟨h1,w,by rw[au hb];exact h2⟩
 ·have e:(s.m.set k ⟨n,[c']⟩)[k']?=some xP:=e
  by_cases oN:k=k'
  ·subst oN
   rw[eV (eA.mp hk).1]at e;cases e;exact .inr ⟨l,Z.al,Z.nc,Z.nf,λd z=>by cases z;exact r⟩
  ·rw[c5 oN]at e
   refine(x.st.at_ k' xP e).mv (aL.refl _) eK λb q h hq=>⟨h,ne b q h ?_⟩;rcases hq with rfl|⟨j,rfl⟩
   ·exact λz=>oN (by cases z;rfl)
   ·exact λz=>by cases z
 ·obtain⟨v,h1,h2⟩:=x.lc.at_ i c e
  exact⟨v,h1,a_.mv (g:=g) (g':=g) (aL.refl _) eK (λb hb=>⟨hb,ne b _ hb λz=>by cases z⟩) h2⟩
theorem N4(hc:B.cn[n]?=none)(ho:PE X o (tE B fo))(hb:bU o=true)(he:PE X e (tE B fa))(hs:noStar e=true)(nR:(cL.endLine == dq.line)=true) :
  PS X (.Expr (.Call (.Attribute o "append" cL) [e] [] dq) pos) (tS B (iG n fo fa)):=by
 refine c6 (rO (C6 PySem.F.plainAttrs_list PySem.F.slot_list_append PySem.F.type_list_append lC ho (aV he cK (aq hs)) (ie hb) (jX (by rw[fF,hs];rfl) (by decide)) nR (aq hs) rfl) rfl) λD σ H z=>?_
 obtain⟨g,s,oo,s',x,h,k⟩:=z;obtain⟨⟨tx,s1⟩,h1,h⟩:=aa h;obtain⟨z0,h2,h⟩:=aa h;obtain⟨⟨t,s2⟩,h3,h⟩:=aa h;obtain⟨z,h4,h⟩:=aa h;obtain⟨_,h5,h⟩:=aa h;obtain⟨hz,_⟩:=aT (aj h5);cases h;obtain⟨e1,m1⟩:=u9 (aj h2);obtain⟨e2,m2⟩:=u9 (aj h4);dsimp only at e1 e2;subst e1;refine⟨g,s,_,s1,x,h1,λv g1 H1 p1 x1 r1=>?_⟩;obtain⟨l,rfl,ha⟩:=r1;obtain⟨Z1,l1,vs1,q1,o1,XR,_⟩:=x1.u_ hc m1 ha;cases q1;refine⟨.inl ⟨rfl,_,df.of XR⟩,g1,s1,t,s2,x1,h3,λv g2 H2 p2 x2 r2=>?_⟩;have ek:z.1=z0.1:=by injection e2 with e2;exact e2.symm
 rw[<- ek]at ha;obtain⟨Z2,l2,Tp,q2,o2,hh2,rr⟩:=x2.u_ hc m2 (dX p2.pre ha);cases q2;obtain⟨p3,x3⟩:=x2.Lm (c':=.ol (z.2++[t])) Z2 m2 o2 ⟨l,_,rfl,o2,ah,rr.app (.one r2)⟩;exact⟨l,Tp,v,rfl,rfl,hh2,by rw[<- rr.len,sizeLine_eq];omega,k σ g2 _ ((p1.trans p2).trans p3) x3⟩
theorem Tq{kk:Nat}(hc:B.cn[n]?=none)(hr:bH kk X.A)(he:PE X e (tE B fa))(ho:PE X o (tE B fo))(hb:PE X b (tE B fb))(hs:swapsWith e (some (.Subscript o b cJ)) pos.line X.env=pure false) :
  PS X (.Assign [.Subscript o b cJ] e pos) (tS B (Bf n fo fb fa)):=by
 have hu:X.A.units+1<cLine:=by have:=hr.units;omega
 refine c6 (yY hu ho hb he hs) λD σ H z=>?_;obtain⟨g,s,oo,s',x,h,k⟩:=z;obtain⟨⟨t,s1⟩,h1,h⟩:=aa h;obtain⟨⟨tx,s2⟩,h2,h⟩:=aa h;obtain⟨⟨tk,s3⟩,h3,h⟩:=aa h;obtain⟨z,h4,h⟩:=aa h;obtain⟨ky,h5,h⟩:=aa h;obtain⟨_,h6,h⟩:=aa h;obtain⟨hz,_⟩:=aT (aj h6);cases h;obtain⟨e1,m1⟩:=ja (aj h4);dsimp only at e1;subst e1;refine⟨g,s,t,s1,x,h1,λv g1 H1 p1 x1 r1=>⟨g1,s1,_,s2,x1,h2,λw g2 H2 p2 x2 r2=>⟨g2,s2,tk,s3,x2,h3,λu g3 H3 p3 x3 r3=>?_⟩⟩⟩;obtain⟨l,rfl,ha⟩:=r2;obtain⟨Z,l1,vs,q1,o1,hh,hl,rr⟩:=x3.u_ hc m1 (dX p3.pre ha);cases q1;obtain⟨Tp,e1,e2,e3⟩:=Em (k:=ky) hl rr ((r1.mv p2.pre p2.fr).mv p3.pre p3.fr);obtain⟨p4,x4⟩:=x3.Lm (c':=.od (jx z.2.1 z.2.2 ky t).1 (jx z.2.1 z.2.2 ky t).2) Z m1 o1 ⟨l,Tp,rfl,o1,ah,e2,e3⟩;rw[gA (aj h5) r3];refine⟨l,_,rfl,.k hh ?_,?_⟩
 ·rw[tW,cD,sizeLine_eq]
  have:z.2.1.length<1000000:=hz
  omega
 ·rw[e1]
  exact k σ g3 _ (((p1.trans p2).trans p3).trans p4) x4
theorem Ln{neg:Bool}(hc:B.cn[n]?=none):∀σ H Q,tE B (sW n neg fa fo) σ H Q->CL (NU neg) (tE B fa) (tE B fo) σ H Q:=by
 rintro σ H Q ⟨g,s,t,s',x,h,k⟩
 obtain⟨⟨tx,s1⟩,h1,h⟩:=aa h;obtain⟨⟨ty,s2⟩,h2,h⟩:=aa h;obtain⟨z,h3,h⟩:=aa h;obtain⟨kk,h4,h⟩:=aa h;cases h;obtain⟨e1,m1⟩:=ja (aj h3);dsimp only at e1;subst e1;refine⟨g,s,tx,s1,x,h1,λv g1 H1 p1 x1 r1=>⟨g1,s1,_,s2,x1,h2,λw g2 H2 p2 x2 r2=>?_⟩⟩;obtain⟨l,rfl,ha⟩:=r2;obtain⟨Z,l1,vs,q1,o1,hh,hl,rr⟩:=x2.u_ hc m1 ha;cases q1;rw[gA (aj h4) r1];refine⟨l,_,rfl,.k hh,?_⟩;rw[oR hl];exact k _ g2 H2 (p1.trans p2) x2 rfl
theorem N5{op:CmpOp}{neg:Bool}{kk:Nat}(hc:B.cn[n]?=none)(hr:bH kk X.A)(hn:mh op=some neg)(ha:PE X a (tE B fa))(ho:PE X o (tE B fo))(hm:behindInMarks op o=false):PE X (.Compare a [op] [o] pos) (tE B (sW n neg fa fo)):=
 aM (kc (kK (by have:=hr.units;omega) hn) ha ho hm) (Ln hc)
theorem N6{op:CmpOp}{neg:Bool}{kk:Nat}(hc:B.cn[n]?=none)(hr:bH kk X.A)(hn:mh op=some neg)(ha:PE X a (tE B fa))(ho:PE X o (tE B fo))(hm:behindInMarks op o=false):PT X (.Compare a [op] [o] pos) (tT B (bw (sW n neg fa fo))):=
 za (kg (kK (by have:=hr.units;omega) hn) ha ho hm) λσ H Q q=>Ln hc σ H _ (DR q)
theorem nj{al:BM}{HF:Hp}{k:Ky}:∀{ks:List Ky}{ts:FK}{vs:List V},ks.length=vs.length->aA B al HF ts vs->(∀t,gW ks ts k=some t->∃v,jF ((ks.map jZ).zip vs) (jZ k)=some v/\Rep B al HF t v)/\(gW ks ts k=none->jF ((ks.map jZ).zip vs) (jZ k)=none)
 |[],ts,[],_,r=>by
  refine⟨λt h=>?_,λ_=>rfl⟩;cases ts<;>cases h
 |[],_,_::_,h,_=>by cases h
 |q::ks,_,[],h,_=>by cases h
 |q::ks,[],u::vs,h,r=>by cases(show u::vs=[]from r)
 |q::ks,t::ts,u::vs,h,r=>by
  obtain⟨u',gn,e,ru,rs⟩:=r;cases e;rw[dz,nE];by_cases e:q=k
  ·rw[iW (p:=(jZ q,u)) (by rw[e])]
   refine⟨λt' h'=>?_,λh'=>?_⟩
   ·rw[gW,if_pos e]at h'
    cases h';exact⟨u,rfl,ru⟩
   ·rw[gW,if_pos e]at h';cases h'
  ·rw[iX (p:=(jZ q,u)) (λz=>e (sR z)),gW,if_neg e]
   exact nj (rG.inj h) rs
theorem Tr{kk:Nat}(hc:B.cn[n]?=none)(hr:bH kk X.A)(ho:PE X o (tE B fo))(hb:PE X b (tE B fb))(hs:MP b):PE X (.Subscript o b pos) (tE B (Er n fo fb)):=by
 refine aM (yX (by have:=hr.units;omega) ho hb hs) λσ H Q z=>?_
 obtain⟨g,s,t,s',x,h,k⟩:=z;obtain⟨⟨tx,s1⟩,h1,h⟩:=aa h;obtain⟨⟨ty,s2⟩,h2,h⟩:=aa h;obtain⟨z,h3,h⟩:=aa h;obtain⟨ky,h4,h⟩:=aa h;obtain⟨t',h5,h⟩:=aa h;cases h;obtain⟨e1,m1⟩:=ja (aj h3);dsimp only at e1;subst e1;refine⟨g,s,_,s1,x,h1,λv g1 H1 p1 x1 r1=>⟨g1,s1,ty,s2,x1,h2,λw g2 H2 p2 x2 r2=>?_⟩⟩;obtain⟨l,rfl,ha⟩:=r1;obtain⟨Z,l1,vs,q1,o1,hh,hl,rr⟩:=x2.u_ hc m1 (dX p2.pre ha);cases q1;obtain⟨v,hv,rv⟩:=(nj (k:=ky) hl rr).1 _ (aj h5);rw[gA (aj h4) r2];exact⟨l,v,rfl,hv▸.k hh,k v g2 H2 (p1.trans p2) x2 rv⟩
theorem Tt{kk:Nat}(hc:B.cn[n]?=none)(hr:bH kk X.A)(ho:PE X o (tE B fo))(hb:PE X b (tE B fb))(hd:PE X f (tE B fc))(m:M2 X o "get" cL b f dq):PE X (.Call (.Attribute o "get" cL) [b,f] [] dq) (tE B (N1 n fo fb fc)):=by
 refine aM (Dn (by have:=hr.units;omega) ho hb hd m) λσ H Q z=>?_
 obtain⟨g,s,t,s',x,h,k⟩:=z;obtain⟨⟨tx,s1⟩,h1,h⟩:=aa h;obtain⟨z0,h2,h⟩:=aa h;obtain⟨⟨ty,s2⟩,h3,h⟩:=aa h;obtain⟨⟨td,s3⟩,h4,h⟩:=aa h;obtain⟨z,h5,h⟩:=aa h;obtain⟨ky,h6,h⟩:=aa h;cases h;obtain⟨e1,m1⟩:=ja (aj h2);obtain⟨e2,m2⟩:=ja (aj h5);dsimp only at e1 e2;subst e1;refine⟨g,s,_,s1,x,h1,λv g1 H1 p1 x1 r1=>?_⟩;obtain⟨l,rfl,ha⟩:=r1;obtain⟨Z1,l1,vs1,q1,o1,XR,_⟩:=x1.u_ hc m1 ha;cases q1;refine⟨l,rfl,.inl ⟨_,.inl XR⟩,g1,s1,ty,s2,x1,h3,λw g2 H2 p2 x2 r2=>⟨g2,s2,td,s3,x2,h4,λy g3 H3 p3 x3 r3=>?_⟩⟩;have ek:z.1=z0.1:=by injection e2 with e2;exact e2.symm
 rw[<- ek]at ha;obtain⟨Z,l2,vs,q2,o2,hh,hl,rr⟩:=x3.u_ hc m2 (dX p3.pre (dX p2.pre ha));cases q2;rw[gA (aj h6) r2];obtain⟨g4,g5⟩:=nj (k:=ky) hl rr;refine⟨_,.k hh,?_⟩;cases e:gW z.2.1 z.2.2 ky with
 |none=>rw[e]at k;rw[g5 e];exact k _ g3 H3 ((p1.trans p2).trans p3) x3 r3
 |some t'=>
  rw[e]at k;obtain⟨v,hv,rv⟩:=g4 t' e;rw[hv];exact k _ g3 H3 ((p1.trans p2).trans p3) x3 rv
end
section
variable{m:FV}{j:Nat}{ob:Ob}{c c':C}{a Ca dx:Addr}{ns:Bi}{vs:List V}{w:V}
theorem fX.one(x:fX B g H m)(hk:m[k]?=some ob)(Z:BH B g H k ob a Ca dx ns vs)(hw:vs[j]?=some w)(sub:aL g'.HF H')(live:∀b p,g'.o b=some p->g'.HF b=none/\∃u,H' b=some u)(fr:aL g.HF g'.HF)(RU:g'.al=g.al)
  (kk:∀l p,g.o l=some p->p≠.fld k j->(∀i,p≠.loc i)->g'.o l=some p/\H' l=H l) (q:a_ B g' H' (.fld k j) c' w):fX B g' H' (m.set k ⟨ob.c,ob.fs.set j c'⟩):=by
 have pre:g.al <+: g'.al:=by rw[RU];exact eK
 refine⟨sub,live,by rw[eW,RU];exact x.len,λk' oK e=>?_⟩
 by_cases oN:k=k'
 ·subst oN
  rw[eV (eA.mp hk).1]at e;cases e;obtain⟨o',h'⟩:=kk a _ Z.o (λz=>by cases z) (λi z=>by cases z)
  refine .inl ⟨a,Ca,dx,ns,vs,dX pre Z.al,o',Z.cl,h'.trans Z.h,Z.le,by rw[eW];exact Z.ln,λj' d e=>?_⟩
  by_cases hj:j=j'
  ·subst hj
   have fM:j<ob.fs.length:=by rw[<- Z.ln];exact(eA.mp hw).1
   have e:(ob.fs.set j c')[j]?=some d:=e;rw[eV fM]at e;cases e;exact⟨w,hw,q⟩
  ·have e:(ob.fs.set j c')[j']?=some d:=e
   rw[c5 hj]at e;obtain⟨v,h1,h2⟩:=Z.f j' d e;exact⟨v,h1,h2.mv fr pre λl z=>kk l _ z (λz=>hj (by cases z;rfl)) (λi z=>by cases z)⟩
 ·rw[c5 oN]at e
  refine(x.at_ k' oK e).mv fr pre λl p h hp=>kk l p h ?_ ?_
  ·rcases hp with rfl|⟨j',rfl⟩
   ·exact λz=>by cases z
   ·exact λz=>oN (by cases z;rfl)
  ·rcases hp with rfl|⟨j',rfl⟩
   ·exact λi z=>by cases z
   ·exact λi z=>by cases z
end
def iH(tab:Ap)(f:Nat)(m:FV):T->Option (Nat×Ob×Nat×C)
 |.own k=>(m[k]?).bind λob=>(ic tab ob.c f).bind λj=>(ob.fs[j]?).map λc=>(k,ob,j,c)
 |_=>none
def Es(m:FV)(z:Nat×Ob×Nat×C)(c:C):FV:=m.set z.1 ⟨z.2.1.c,z.2.1.fs.set z.2.2.1 c⟩
def N7:C->FR
 |.ol ts=>some (.lst ts)
 |.od ks ts=>some (.du ks ts)
 |_=>none
def il(n:Nat)(tab:Ap)(f:Nat)(a:FE):FE:=λs=>(a s).bind λp=>(aY (iH tab f p.2.m p.1)).bind λz=>match z.2.2.2 with
 |.val t=>(match sV n p.2.m t with
  |some y=>(aY (N7 y.2)).bind λu=>.ok (u,{p.2 with m:=Es (p.2.m.set y.1 ⟨n,[]⟩) z (.val u)})
  |none=>.ok (t,p.2))
 |_=>.bad
def ve(tab:Ap)(f:Nat)(gg:T->T->FR)(o a:FE):FS:=λs=>(o s).bind λp=>(aY (iH tab f p.2.m p.1)).bind λz=>match z.2.2.2 with
 |.val t=>(a p.2).bind λq=>(aY (iH tab f q.2.m p.1)).bind λy=>(aY (gd (y.2.1.c=z.2.1.c) ())).bind λ_=>(aY (gg t q.1)).bind λu=>.ok (.nx,{q.2 with m:=Es q.2.m y (.val u)})
 |_=>.bad
section
variable{n:Nat}
theorem SR.Im(O:mR X.K X.mg P){f:Nat}{n:Str}(hf:P.an[f]?=some n)(x:SR (P.kt X) g H σ s){t:T}{z:Nat×Ob×Nat×C}(h:iH P.tab f s.m t=some z){v:V}(r:Rep (P.kt X) g.al g.HF t v) :
  ∃a Ca dx ns vs w,v=.ref a/\BH (P.kt X) g H z.1 z.2.1 a Ca dx ns vs/\s.m[z.1]?=some z.2.1/\vs[z.2.2.1]?=some w/\a_ (P.kt X) g H (.fld z.1 z.2.2.1) z.2.2.2 w/\qe X.K Ca/\eO X.K Ca n/\(ns.zip vs).lookup n=some w:=by
 cases t<;>first|(cases h;done)|skip
 rename_i k;obtain⟨ob,h1,h⟩:=eM.mp (show(s.m[k]?).bind _=some z from h);obtain⟨j,h2,h⟩:=eM.mp h;obtain⟨c,h3,rfl⟩:=cH.mp h;obtain⟨a,rfl,ha⟩:=r;rcases x.st.at_ k ob h1 with⟨a',Ca,dx,ns,vs,Z⟩|⟨a',Z⟩
 case inr=>
  obtain⟨l,q,_⟩:=eM.mp h2;have z:(P.tab.map _)[ob.c]?=none:=Z.nf;rw[eG,q]at z;cases z
 have:=Z.al.symm.trans ha
 cases this;obtain⟨mm,hm,wF,F⟩:=O.of Z.cl;have hj:=nh hf wF h2;obtain⟨w,hw,sl⟩:=Z.f j c h3;exact⟨a,Ca,dx,ns,vs,w,rfl,Z,h1,hw,sl,F.cl,F.na _ (jB hj),by rw[ig F.nd hj,hw]⟩
theorem SR.XS{l:Addr}{c:C}{u:HO}(x:SR B g H σ s)(Z:VA B g H k ⟨n,[c]⟩ l)(hk:s.m[k]?=some ⟨n,[c]⟩)(ho:g.o l=some (.ob k))(hh:H l=some u) :
  fj g H (g.jh l u) H/\SR B (g.jh l u) H σ {s with m:=s.m.set k ⟨n,[]⟩}:=by
 have hf:=(x.st.live l _ ho).1;have ne:∀b p,g.o b=some p->p≠.ob k->(g.jh l u).o b=some p:=λb p hb hp=>by
  have:b≠l:=λe=>hp (by rw[e,ho]at hb;cases hb;rfl)
  show(if b=l then none else g.o b)=_
  rw[if_neg this];exact hb
 refine⟨sD ho hf,⟨⟨λb w e=>?_,λb q e=>?_,by show(s.m.set k _).length=_;rw[eW];exact x.st.len,λk' xP e=>?_⟩,x.lc.len,λi d e=>?_⟩⟩
 ·have e:upd g.HF l u b=some w:=e
  by_cases hb:b=l
  ·subst hb;rw[ah]at e;cases e;exact hh
  ·rw[au hb]at e;exact x.sub _ _ e
 ·have e:(if b=l then none else g.o b)=some q:=e
  by_cases hb:b=l
  ·rw[if_pos hb]at e;cases e
  ·rw[if_neg hb]at e
   obtain⟨h1,h2⟩:=x.st.live b q e;exact⟨by show upd g.HF l u b=none;rw[au hb];exact h1,h2⟩
 ·have e:(s.m.set k ⟨n,[]⟩)[k']?=some xP:=e
  by_cases oN:k=k'
  ·subst oN
   rw[eV (eA.mp hk).1]at e;cases e;exact .inr ⟨l,Z.al,Z.nc,Z.nf,λd z=>by cases z⟩
  ·rw[c5 oN]at e
   refine(x.st.at_ k' xP e).mv (g':=g.jh l u) (aS hf) eK λb q h hq=>⟨ne b q h ?_,rfl⟩;rcases hq with rfl|⟨j,rfl⟩
   ·exact λz=>oN (by cases z;rfl)
   ·exact λz=>by cases z
 ·obtain⟨v,h1,h2⟩:=x.lc.at_ i d e
  exact⟨v,h1,ou (q:=.loc i) ho hf (λz=>by cases z) h2⟩
theorem SR.XT{z:Nat×Ob×Nat×C}{c':C}{a Ca dx:Addr}{ns:Bi}{vs:List V}{w:V}(x:SR B g H σ s)(hk:s.m[z.1]?=some z.2.1)(Z:BH B g H z.1 z.2.1 a Ca dx ns vs)(hw:vs[z.2.2.1]?=some w)(q:a_ B g H (.fld z.1 z.2.2.1) c' w):SR B g H σ {s with m:=Es s.m z c'}:=
 ⟨x.st.one hk Z hw x.st.sub x.st.live (aL.refl _) rfl (λ_ _ h _ _=>⟨h,rfl⟩) q,x.lc⟩
theorem qV{tab:Ap}{f:Nat}{m:FV}{t:T}{z:Nat×Ob×Nat×C}(h:iH tab f m t=some z):t=.own z.1/\m[z.1]?=some z.2.1/\ic tab z.2.1.c f=some z.2.2.1/\z.2.1.fs[z.2.2.1]?=some z.2.2.2:=by
 cases t<;>first|(cases h;done)|skip
 rename_i k;obtain⟨ob,h1,h⟩:=eM.mp (show(m[k]?).bind _=some z from h);obtain⟨j,h2,h⟩:=eM.mp h;obtain⟨c,h3,rfl⟩:=cH.mp h;exact⟨rfl,h1,h2,h3⟩
theorem Io{l:Addr}{c:C}{u:T}(h:N7 c=some u)(q:a_ B g H (.ob k) c (.ref l))(lv:g.HF l=none):∃hu,g.o l=some (.ob k)/\H l=some hu/\Rep B (g.jh l hu).al (g.jh l hu).HF u (.ref l):=by
 cases c<;>first|(cases h;done)|skip
 ·cases h
  obtain⟨l',vs,e,ho,hh,r⟩:=q;cases e;exact⟨_,ho,hh,l,vs,rfl,ah,r.mv eK (aS lv)⟩
 ·cases h
  obtain⟨l',vs,e,ho,hh,hl,r⟩:=q;cases e;exact⟨_,ho,hh,l,vs,rfl,ah,hl,r.mv eK (aS lv)⟩
theorem N8(O:mR X.K X.mg P){f:Nat}{nm:Str}(hc:P.cn[n]?=none)(hf:P.an[f]?=some nm)(he:PE X e (tE (P.kt X) fa))(hb:bU e=true):PE X (.Attribute e nm pos) (tE (P.kt X) (il n P.tab f fa)):=by
 refine aM (CQ he (ie hb)) λσ H Q z=>?_;obtain⟨g,s,t,s',x,h,k⟩:=z;obtain⟨⟨tx,s1⟩,h1,h⟩:=aa h;obtain⟨z,h2,h⟩:=aa h;have hz:=aj h2;refine⟨g,s,_,s1,x,h1,λv g1 H1 p1 x1 r1=>?_⟩;obtain⟨a,Ca,dx,ns,vs,w,rfl,Z,hk,hw,sl,cl,na,lk⟩:=x1.Im O hf hz r1;refine⟨a,Ca,dx,_,w,rfl,Z.h,cl,na,lk,?_⟩;obtain⟨k0,ob,j,c⟩:=z;cases c<;>first|(cases h;done)|skip
 rename_i tv;dsimp only at h;cases hb:sV n s1.m tv with
 |none=>
  rw[hb]at h;cases h;exact k w g1 H1 p1 x1 sl
 |some y=>
  rw[hb]at h;obtain⟨u,h3,h⟩:=aa h;cases h;obtain⟨e1,m1⟩:=oU hb;subst e1;obtain⟨l,rfl,ha⟩:=sl;obtain⟨ZB,qB⟩:=x1.u_ hc m1 ha;have ho0:g1.HF l=none:=by
   have h3:=aj h3;obtain⟨kb,cb⟩:=y;cases cb<;>first|(cases h3;done)|skip
   ·obtain⟨l',_,e,ho,_⟩:=qB
    cases e;exact(x1.st.live l _ ho).1
   ·obtain⟨l',_,e,ho,_⟩:=qB
    cases e;exact(x1.st.live l _ ho).1
  obtain⟨hu,ho,hh,ru⟩:=Io (aj h3) qB ho0;obtain⟨p2,x2⟩:=x1.XS ZB m1 ho hh;obtain⟨e0,e1,e2,e3⟩:=qV hz;dsimp only at e0 e1 e2 e3;have oN:y.1≠k0:=λz=>by
   rw[z,e1]at m1;cases m1;obtain⟨l,q,_⟩:=eM.mp e2;obtain⟨mm,q2,_⟩:=Z.cl;rw[hc]at q2;cases q2
  have hk2:(s1.m.set y.1 ⟨n,[]⟩)[k0]?=some ob:=by rw[c5 oN];exact e1
  have W4:iH P.tab f (s1.m.set y.1 ⟨n,[]⟩) tx=some (k0,ob,j,.val (.own y.1)):=by
   rw[e0];show((s1.m.set y.1 ⟨n,[]⟩)[k0]?).bind _=_;rw[hk2];show(ic P.tab ob.c f).bind _=_;rw[e2];show(ob.fs[j]?).map _=_;rw[e3];rfl
  obtain⟨a',Ca',Vp,Du,gn,w',e4,Z',Tu,hw',Vi,_⟩:=x2.Im O hf W4 (r1.mv p2.pre p2.fr);obtain⟨l',e5,Vs⟩:=Vi
  have:l=l':=by
   have q:=dX p2.pre ha;rw[q]at Vs;exact ly.inj Vs
  subst this;subst e5;exact k _ _ H1 (p1.trans p2) (x2.XT Tu Z' hw' (c':=.val _) ru) ru
theorem Bg{t u w:T}(h:iF t u=some w):∃i j,t=.int i/\u=.int j/\w=.int (i+j):=by
 cases t<;>first|(cases h;done)|(cases u<;>first|(cases h;done)|(cases h;exact⟨_,_,rfl,rfl,rfl⟩))
theorem Tv(O:mR X.K X.mg P){f:Nat}{nm:Str}(hf:P.an[f]?=some nm)(ho:PE X o (tE (P.kt X) fo))(he:PE X e (tE (P.kt X) fa)):PS X (.AugAssign (.Attribute o nm cJ) .Add e pos) (tS (P.kt X) (ve P.tab f iF fo fa)):=by
 refine c6 (AO ho he MB) λD σ H z=>?_;obtain⟨g,s,oo,s',x,h,k⟩:=z;obtain⟨⟨tx,s1⟩,h1,h⟩:=aa h;obtain⟨z,h2,h⟩:=aa h;have hz:=aj h2;refine⟨g,s,_,s1,x,h1,λv g1 H1 p1 x1 r1=>?_⟩;obtain⟨a,Ca,dx,ns,vs,w,rfl,Z,hk,hw,sl,cl,na,lk⟩:=x1.Im O hf hz r1;refine⟨a,Ca,dx,_,w,rfl,Z.h,cl,na,lk,?_⟩;obtain⟨k0,ob,j,c⟩:=z;cases c<;>first|(cases h;done)|skip
 rename_i tv;obtain⟨⟨ty,s2⟩,h3,h⟩:=aa h;obtain⟨y,h4,h⟩:=aa h;obtain⟨_,h5,h⟩:=aa h;obtain⟨PD,_⟩:=aT (aj h5);obtain⟨u,h6,h⟩:=aa h;cases h;have h6:=aj h6;obtain⟨i,j',rfl,rfl,rfl⟩:=Bg h6;cases(show w=V.int i from sl);refine⟨g1,s1,_,s2,x1,h3,λw2 g2 H2 p2 x2 r2=>?_⟩;cases(show w2=V.int j' from r2);refine⟨_,_,rfl,rfl,?_⟩;have hy:=aj h4;obtain⟨a2,Ca2,dx2,ns2,Tp,w3,e4,Z2,hk2,GQ,_,_⟩:=x2.Im O hf hy (r1.mv p2.pre p2.fr);cases e4;obtain⟨k2,xP,j2,c2⟩:=y;have PD:xP.c=ob.c:=PD;have ec:=Z2.cl;rw[PD]at ec;obtain⟨rfl,rfl⟩:=ec.eq Z.cl;obtain⟨e0,e1,e2,e3⟩:=qV hy;have hp:dW P.tab f (.val (.int (i+j'))) xP=some ⟨xP.c,xP.fs.set j2 (.val (.int (i+j')))⟩:=by
  unfold dW;rw[e2];show(setAt xP.fs j2 _).map _=_;unfold setAt;rw[if_pos (eA.mp e3).1];rfl
 obtain⟨_,_,hl,gn,e5,p3,x3⟩:=zp O hf x2 Z2 e1 hp (v:=.int (i+j')) λj=>rfl;refine⟨dx2,_,Z2.h,hl,?_⟩;rw[e5];exact k σ g2 _ ((p1.trans p2).trans p3) x3
end
def VF(c:FT)(a b:FL):FL:=λs=>(c s).bind λp=>if p.1 then a p.2 else b p.2
def XU:T->FC
 |.tup ts=>some ts
 |.lst ts=>some ts
 |_=>none
def o1(g:T->FC)(a:FE):FL:=λs=>(a s).bind λp=>(aY (g p.1)).bind λts=>.ok (ts,p.2)
def Et:T->T->FC
 |.lst a,.int k=>gd (k<1000000/\-1000000<k/\a.length*k.toNat<=1000000) (bX k.toNat a).flatten
 |_,_=>none
def Bh:T->T->FC
 |.lst a,.lst b=>gd (a.length+b.length<=1000000) (a++b)
 |_,_=>none
def o2(g:T->T->FC)(a b:FE):FL:=λs=>(a s).bind λp=>(b p.2).bind λq=>(aY (g p.1 q.1)).bind λts=>.ok (ts,q.2)
def Bj:T->FC
 |.int j=>gd (0<=j/\j<1000000) (jv 0 j.toNat)
 |_=>none
def Bk:FK->FC
 |[.int i,.int j,.int k]=>gd (j=-1/\k=-1/\-1<=i/\i<1000000) ((b9 (i+1).toNat).map λk=>.int (i-(k:Nat)))
 |_=>none
def N9:T->FC
 |.lst ts=>some ts.reverse
 |_=>none
def isSlice:Expr->Bool
 |.Slice _ _ _ _=>true
 |_=>false
def Lo(i:Nat)(b a:FE):FS:=λs=>match NT i s with
 |true=>dF i b a s
 |false=>Lj i b a s
section
variable{gl:FL}{ft:FT}
theorem Tw(hc:PT X c (tT B ft))(ha:PE X a (tO B fl))(hb:PE X b (tO B gl)):PE X (.IfExp c a b pos) (tO B (VF ft fl gl)):=aM (uu hc ha hb) λσ H Q z=>by
 obtain⟨g,s,t,s',x,h,k⟩:=z;obtain⟨⟨d,s1⟩,h1,h⟩:=aa h;refine⟨g,s,d,s1,x,h1,λg1 H1 p1 x1=>?_⟩;cases d with
 |true=>exact r9 ⟨g1,s1,_,_,x1,h,λl vs g2 H2 p2 x2 n0=>k l vs g2 H2 (p1.trans p2) x2 (p1.there l n0)⟩
 |false=>exact r8 ⟨g1,s1,_,_,x1,h,λl vs g2 H2 p2 x2 n0=>k l vs g2 H2 (p1.trans p2) x2 (p1.there l n0)⟩
theorem Tz(hB:B.K=X.K)(hm:X.mg "list" = none)(hg:Gl X "list")(ha:PE X a (tE B fa))(hs:noStar a=true):PE X (.Call (.Name "list" p) [a] [] pos) (tO B (o1 XU fa)):=by
 refine aM (gR ia hg hm ug (aV ha cK (aq hs)) (by decide) (by decide) (aq hs) rfl) λσ H Q z=>?_
 obtain⟨g,s,t,s',x,h,k⟩:=z;obtain⟨⟨tx,s1⟩,h1,h⟩:=aa h;obtain⟨ts,h2,h⟩:=aa h;cases h;have h2:=aj h2;refine⟨g,s,tx,s1,x,h1,λv g1 H1 p1 x1 r1=>?_⟩;have main:∀{xs:List V},aA B g1.al g1.HF t xs->∀l,H1 l=none->Q (.ref l) (upd H1 l (.lst xs)):=λ{xs} r l hl=>by
  obtain⟨gr,n1,n2⟩:=om (u:=.lst xs) x1 hl;exact k l xs _ _ (p1.trans (x1.iE gr)) (x1.grow gr) (p1.there l hl) n1 n2 ah r
 cases tx<;>first|(cases h2;done)|skip
 ·cases h2
  obtain⟨l,xs,rfl,q,r⟩:=r1;exact⟨l,xs,rfl,.inr (hB▸bW x1.sub q),main r⟩
 ·cases h2
  obtain⟨l,xs,rfl,q,r⟩:=r1;exact⟨l,xs,rfl,.inl (df.of (x1.sub _ _ q)),main r⟩
theorem N_(ha:PE X a (tE B fa))(hb:PE X b (tE B fb)):PE X (.BinOp a .Mult b pos) (tO B (o2 Et fa fb)):=by
 refine aM (lW C9 ha hb) λσ H Q z=>?_;obtain⟨g,s,t,s',x,h,k⟩:=z;obtain⟨⟨tx,s1⟩,h1,h⟩:=aa h;obtain⟨⟨ty,s2⟩,h2,h⟩:=aa h;obtain⟨ts,h3,h⟩:=aa h;cases h;have h3:=aj h3;refine⟨g,s,tx,s1,x,h1,λv g1 H1 p1 x1 r1=>⟨g1,s1,ty,s2,x1,h2,λw g2 H2 p2 x2 r2=>?_⟩⟩;cases tx<;>first|(cases h3;done)|(cases ty<;>first|(cases h3;done)|skip)
 obtain⟨c,rfl⟩:=aT h3;obtain⟨l,xs,rfl,q,r⟩:=r1.mv p2.pre p2.fr;refine⟨l,_,xs,rfl,r2,x2.sub _ _ q,by omega,by omega,by rw[<- r.len,sizeLine_eq];omega,λp hp=>?_⟩
 obtain⟨gr,n1,n2⟩:=om (u:=.lst (bX _ xs).flatten) x2 hp;exact k p _ _ _ ((p1.trans p2).trans (x2.iE gr)) (x2.grow gr) (p1.there p (p2.there p hp)) n1 n2 ah (r.flat _)
theorem Oa(ha:PE X a (tE B fa))(hb:PE X b (tE B fb)):PE X (.BinOp a .Add b pos) (tO B (o2 Bh fa fb)):=by
 refine aM (lW C8 ha hb) λσ H Q z=>?_;obtain⟨g,s,t,s',x,h,k⟩:=z;obtain⟨⟨tx,s1⟩,h1,h⟩:=aa h;obtain⟨⟨ty,s2⟩,h2,h⟩:=aa h;obtain⟨ts,h3,h⟩:=aa h;cases h;have h3:=aj h3;refine⟨g,s,tx,s1,x,h1,λv g1 H1 p1 x1 r1=>⟨g1,s1,ty,s2,x1,h2,λw g2 H2 p2 x2 r2=>?_⟩⟩;cases tx<;>first|(cases h3;done)|(cases ty<;>first|(cases h3;done)|skip)
 obtain⟨c,rfl⟩:=aT h3;obtain⟨l,xs,rfl,q,r⟩:=r1.mv p2.pre p2.fr;obtain⟨m,ys,rfl,q',r'⟩:=r2;refine⟨l,m,xs,ys,rfl,rfl,x2.sub _ _ q,x2.sub _ _ q',by rw[<- r.len,<- r'.len,sizeLine_eq];omega,λp hp=>?_⟩
 obtain⟨gr,n1,n2⟩:=om (u:=.lst (xs++ys)) x2 hp;exact k p _ _ _ ((p1.trans p2).trans (x2.iE gr)) (x2.grow gr) (p1.there p (p2.there p hp)) n1 n2 ah (r.app r')
theorem Ip{t:T}{ts:FK}(h:Bj t=some ts):∃j,t=.int j/\(0<=j/\j<1000000)/\ts=jv 0 j.toNat:=by
 cases t<;>first|(cases h;done)|skip
 obtain⟨c,rfl⟩:=aT h;exact⟨_,rfl,c,rfl⟩
theorem Lp(hc:X.calm=true)(RE:X.mg "list" = none)(hmr:X.mg "range" = none)(PQ:Gl X "list")(hgr:Gl X "range")(ha:PE X a (tE B fa)){p1 ib:Pos}(hs:noStar a=true) :
  PE X (.Call (.Name "list" p) [.Call (.Name "range" p1) [a] [] ib] [] pos) (tO B (o1 Bj fa)):=by
 refine aM (gR (qk hc) PQ RE ug (aV (gR A0 hgr hmr PyProof.Rows.boot_range (aV ha cK (aq hs)) (by decide) (by decide) (aq hs) rfl) cK (aq rfl)) (by decide) (by decide) (aq rfl) rfl) λσ H Q z=>?_
 obtain⟨g,s,t,s',x,h,k⟩:=z;obtain⟨⟨tx,s1⟩,h1,h⟩:=aa h;obtain⟨ts,h2,h⟩:=aa h;cases h;have h2:=aj h2;obtain⟨j,rfl,c,rfl⟩:=Ip h2;refine⟨g,s,_,s1,x,h1,λv g1 H1 p1 x1 r1=>?_⟩;cases r1;refine⟨j,rfl,λq hq=>⟨q,j,rfl,ah,c.1,by omega,λl hl=>?_⟩⟩
 obtain⟨gr,n1,n2⟩:=om (u:=.jv 0 j) x1 hq;have x2:=x1.grow gr;obtain⟨gr2,n3,n4⟩:=om (u:=.lst ((b9 j.toNat).map λk=>V.int (k:Nat))) x2 hl;have xu:l≠q:=(aJ ah hl).symm;have XW:H1 l=none:=by rw[au xu]at hl;exact hl
 have e:((b9 j.toNat).map λk=>V.int (k:Nat))=(b9 j.toNat).map λk=>V.int (0+((k:Nat):Int)):=by
  apply AA;intro k _;rw[Cw]
 refine k l _ _ _ ((p1.trans (x1.iE gr)).trans (x2.iE gr2)) (x2.grow gr2) (p1.there l XW) n3 n4 ah ?_;rw[e];exact aA.jv 0 _
theorem aA.rev{al:BM}{H:Hp}:∀{ts:FK}{vs:List V},aA B al H ts vs->aA B al H ts.reverse vs.reverse
 |[],_,h=>by have h:_=[]:=h;subst h;rfl
 |t::ts,_,h=>by
  obtain⟨v,r,rfl,h1,h2⟩:=h;rw[J4,J4];exact h2.rev.app (.one h1)
theorem Iq{a b c:T}{ts:FK}(h:Bk [a,b,c]=some ts):∃i,a=.int i/\b=.int (-1)/\c=.int (-1)/\-1<=i/\i<1000000/\ts=(b9 (i+1).toNat).map λk=>.int (i-(k:Nat)):=by
 cases a<;>first|(cases h;done)|(cases b<;>first|(cases h;done)|(cases c<;>first|(cases h;done)|skip))
 obtain⟨⟨rfl,rfl,h1,h2⟩,rfl⟩:=aT h;exact⟨_,rfl,rfl,rfl,h1,h2,rfl⟩
theorem Oc(hg:Gl X "range")(hm:X.mg "range" = none)(ha:PE X a (tE B fa))(hb:PE X b (tE B fb))(hc:PE X c (tE B fc))(hs:[a,b,c].all noStar=true):PI X tg (.Call (.Name "range" p) [a,b,c] [] pos) (tI B (tR Bk (bK fa (bK fb (bK fc aZ))))):=by
 simp only[fF,J5,yG,dc]at hs;obtain⟨k1,k2,k3⟩:=hs;have e3:starEach [c] X.env=[(false,eval c X.env)]:=aq k3;have e2:starEach [b,c] X.env=[(false,eval b X.env),(false,eval c X.env)]:=by rw[aq k2,e3]
 have e1:starEach [a,b,c] X.env=[(false,eval a X.env),(false,eval b X.env),(false,eval c X.env)]:=by rw[aq k1,e2]
 refine l_ (Hr hg hm (aV ha (aV hb (aV hc cK (aq k3)) (aq k2)) (aq k1)) e1 e2) λσ H R z=>?_;obtain⟨g,s,t,s',x,h,k⟩:=z;obtain⟨⟨ts,s1⟩,h1,h⟩:=aa h;obtain⟨us,h2,h⟩:=aa h;cases h;obtain⟨⟨tx,s2⟩,h3,h1⟩:=aa h1;obtain⟨⟨ty,s3⟩,h4,h1⟩:=aa h1;cases h1;obtain⟨⟨tz,s4⟩,h5,h4⟩:=aa h4;obtain⟨⟨tw,s5⟩,h6,h4⟩:=aa h4;cases h4;obtain⟨⟨tv,s6⟩,h7,h6⟩:=aa h6;cases h6;obtain⟨i,rfl,rfl,rfl,l1,l2,rfl⟩:=Iq (aj h2);refine⟨g,s,_,_,x,h3,λv g1 H1 p1 x1 r1=>⟨g1,_,_,_,x1,h5,λw g2 H2 p2 x2 r2=>⟨g2,_,_,_,x2,h7,λu g3 H3 p3 x3 r3=>?_⟩⟩⟩;cases r1;cases r2;cases r3;exact⟨_,rfl,l1,by omega,k _ g3 H3 ((p1.trans p2).trans p3) x3 (kI (Ec _ _) (aA.dwn _ _))⟩
theorem TF(hg:Gl X "reversed")(hm:X.mg "reversed" = none)(ha:PE X a (tE B fa))(hs:noStar a=true):PI X tg (.Call (.Name "reversed" p) [a] [] pos) (tI B (o1 N9 fa)):=by
 have h0:starEach [a] X.env=[(false,eval a X.env)]:=aq hs;refine l_ (MK hg hm (aV ha cK h0) h0) λσ H R z=>?_;obtain⟨g,s,t,s',x,h,k⟩:=z;obtain⟨⟨tx,s1⟩,h1,h⟩:=aa h;obtain⟨ts,h2,h⟩:=aa h;cases h;have h2:=aj h2;cases tx<;>first|(cases h2;done)|skip
 cases h2;refine⟨g,s,_,s1,x,h1,λv g1 H1 p1 x1 r1=>?_⟩;obtain⟨l,vs,rfl,q,r⟩:=r1;refine⟨l,vs,rfl,df.of (x1.sub _ _ q),k _ g1 H1 p1 x1 ⟨λi H1 s1 hi=>?_,λi H1 x H2 s1 hi y=>?_,λi H1 s1 hi=>?_⟩⟩
 ·rw[Cc,r.len]at hi
  exact⟨hi,df.of (s1 _ _ q)⟩
 ·rw[Cc,r.len]at hi
  obtain⟨rfl,e⟩:=y;have e':vs.reverse[i]?=some x:=by rw[List.getElem?_reverse hi];exact e
  obtain⟨t,e1,e2⟩:=r.rev.xD e';exact⟨t,e1,λuX s2 s3=>⟨uX,.refl s3,e2.same s2⟩⟩
 ·rw[Cc,r.len]at hi
  exact hi
theorem TH{py sd:Pos}(hb:PE X b (tE B fb))(he:PE X e (tE B fa))(hN:X.N[i]?=some y)(hv:rL X.env.scope y)(hd:bZ y)(jD:iO y)(hs:swapsWith e (some (.Subscript (.Name y py) b sd)) pos.line X.env=pure false)(Sn:isSlice b=false) :
  PS X (.Assign [.Subscript (.Name y py) b sd] e pos) (tS B (dF i fb fa)):=by
 refine c6 (CJ he (Mj (dD hN hv hd jD) hb set_list λv=>?_) hs rfl rfl) λD σ H z=>?_
 ·cases b<;>first|rfl|(cases Sn)
 obtain⟨g,s,oo,s',x,h,k⟩:=z;obtain⟨⟨t,s1⟩,h1,h⟩:=aa h;obtain⟨GR,h2,h⟩:=aa h;obtain⟨⟨tk,s2⟩,h3,h⟩:=aa h;obtain⟨ts,h4,h⟩:=aa h;obtain⟨j,h5,h⟩:=aa h;obtain⟨us,h6,h⟩:=aa h;obtain⟨⟨z1,z2⟩,rfl⟩:=aT (aj h6);cases h;have ej:tk=.int j:=zh (aj h5);subst ej;refine⟨g,s,t,s1,x,h1,λv g1 H1 p1 x1 r1=>?_⟩;obtain⟨l,vs,w1,w2,w3,w4⟩:=x1.sJ (gz (aj h2));refine⟨_,w1,g1,s1,_,s2,x1,h3,λu g2 H2 p2 x2 r2=>?_⟩;have ho:=gz (aj h4);obtain⟨l',gn,q1,q2,q3,q4⟩:=x2.sJ ho;rw[w1]at q1;cases q1;cases r2;obtain⟨x3,p3⟩:=x2.chg ho w1 (q4.set (r1.mv p2.pre p2.fr) j.toNat);have hl:ts.length=gn.length:=q4.len;refine⟨l,gn,j,j.toNat,rfl,rfl,q3,?_,k σ g2 _ ((p1.trans p2).trans p3) x3⟩;unfold Hh;rw[if_pos z1,if_pos (by omega)]
theorem XX{py sd:Pos}{k:Nat}(hr:bH k X.A)(hb:PE X b (tE B fb))(he:PE X e (tE B fa))(hN:X.N[i]?=some y)(hv:rL X.env.scope y)(hd:bZ y)(jD:iO y)(hs:swapsWith e (some (.Subscript (.Name y py) b sd)) pos.line X.env=pure false)(Sn:isSlice b=false) :
  PS X (.Assign [.Subscript (.Name y py) b sd] e pos) (tS B (Lo i fb fa)):=λae sh σ H D I z=>by
 obtain⟨g,s,oo,s',x,h,k⟩:=z;unfold Lo at h;cases ho:NT i s with
 |true=>
  rw[ho]at h;exact TH hb he hN hv hd jD hs Sn ae sh σ H D I ⟨g,s,oo,s',x,h,k⟩
 |false=>
  rw[ho]at h;exact NZ hr he hb hN hv hd jD hs ae sh σ H D I ⟨g,s,oo,s',x,h,k⟩
def Ir(i:Nat):FE:=λs=>match s.r[i]? with
 |some (some (.ol ts))=>.ok (.int ts.length,s)
 |some (some (.val (.lst ts)))=>.ok (.int ts.length,s)
 |_=>.bad
theorem Od(hB:B.K=X.K){px:Pos}(hN:X.N[i]?=some y)(hv:rL X.env.scope y)(hd:bZ y)(jD:iO y)(hg:Gl X "len")(hm:X.mg "len" = none) :
  PE X (.Call (.Name "len" p) [.Name y px] [] pos) (tE B (Ir i)):=by
 refine aM (gQ nM hg hm PySem.boot_len (aV (dD hN hv hd jD) cK rfl) (he:=rfl) (hpl:=rfl)) λσ H Q z=>?_;obtain⟨g,s,t,s',x,h,k⟩:=z;unfold Ir at h;split at h
 ·rename_i ts h1
  cases h;obtain⟨l,vs,w1,w2,w3,w4⟩:=x.sJ h1;exact⟨_,w1,_,_,rfl,.inl ⟨vs,df.of w3,w4.len⟩,k _ g H .refl x rfl⟩
 ·rename_i ts h1
  cases h;obtain⟨v,w1,l,vs,rfl,w3,w4⟩:=x.lc.at_ _ _ h1;exact⟨_,w1,_,_,rfl,.inl ⟨vs,df.of (x.sub _ _ w3),w4.len⟩,k _ g H .refl x rfl⟩
 ·cases h
end
def kL:Expr->Option Const
 |.Constant c _ _=>some c
 |_=>none
def jy(e:Expr):Option Str:=match kL e with
 |some (.str x)=>some x
 |_=>none
def XY:T->Bool
 |.du _ _=>true
 |_=>false
section
theorem TJ{kk:Nat}(hB:B.K=X.K)(hr:bH kk X.A)(ha:PE X a (tE B fa))(hb:PE X b (tE B fb))(hs:ji b):PE X (.Subscript a b pos) (tE B (bB xC fa fb)):=λae sh σ H Q I z=>by
 obtain⟨g,s,t,s',x,h,k⟩:=z;obtain⟨⟨tx,s1⟩,h1,h0⟩:=aa h;obtain⟨⟨ty,s2⟩,h2,h0⟩:=aa h0;obtain⟨t',h3,h0⟩:=aa h0;cases h0;cases hd:XY tx with
 |false=>
  refine Ng hB ha hb hs ae sh σ H Q I ⟨g,s,t,_,x,?_,k⟩;have e:gq tx ty=xC tx ty:=by cases tx<;>first|rfl|(cases hd)
  unfold bB;rw[h1];show(fb s1).bind _=_;rw[h2];show(aY (gq tx ty)).bind _=_;rw[e,h3];rfl
 |true=>
  cases tx<;>first|(cases hd;done)|skip
  obtain⟨ky,h4,h5⟩:=eM.mp (aj h3);refine yX (by have:=hr.units;omega) ha hb hs ae sh σ H Q I ⟨g,s,_,s1,x,h1,λv g1 H1 p1 x1 r1=>⟨g1,s1,ty,s2,x1,h2,λw g2 H2 p2 x2 r2=>?_⟩⟩
  obtain⟨l,vs,rfl,q,hl,rr⟩:=r1.mv p2.pre p2.fr;obtain⟨v,hv,rv⟩:=(nj (k:=ky) hl rr).1 _ h5;rw[gA h4 r2];exact⟨l,v,rfl,hv▸.k (x2.sub _ _ q),k v g2 H2 (p1.trans p2) x2 rv⟩
theorem TL{dp:Pos}:PE X (.Dict [] [] dp) (tE B (cF (.du [] []))):=aM nZ λσ H Q z=>by
 obtain⟨g,s,t,s',x,h,k⟩:=z;cases h;intro q hq;have gr:=Gr.new (o:=.dK []) x.sub hq;exact k _ _ _ (x.iE gr) (x.grow gr) ⟨q,[],rfl,ah,rfl,rfl⟩
def TM(l:List (Str×Str)):List (V×V):=l.map λp=>(.str p.1,.str p.2)
theorem Eu{l:List (Str×Str)}:∀{σ:St}{H:Hp}{Q:List (V×V)->Hp->Prop},Q (TM l) H->sf (l.map λp=>(tC (.str p.1),tC (.str p.2))) σ H Q:=by
 induction l with
 |nil=>intro σ H Q h;exact h
 |cons p l ih=>intro σ H Q h;exact ih h
theorem Iu:∀{aF:List (Key×V)}{k:Key}{v:V},k∉aF.map (·.1)->L2.putK aF k v=aF++[(k,v)]:=by
 intro aF k v h;unfold L2.putK;split
 ·rename_i z
  exfalso;obtain⟨q,h1,h2⟩:=B9.mp z;exact h (fG.mpr ⟨q,h1,of_decide_eq_true h2⟩)
 ·rfl
theorem qW:∀{more aF:List (Key×V)},((aF++more).map (·.1)).Nodup->jG aF more=aF++more
 |[],aF,_=>by rw[cY];rfl
 |p::more,aF,h=>by
  have e:aF++p::more=(aF++[p])++more:=by simp
  have h':=h;rw[e]at h';have hn:p.1∉aF.map (·.1):=λz=>by
   rw[lj,Cb]at h;exact h.2.2 _ z _ (fG.mpr ⟨p,er ..,rfl⟩) rfl
  show jG (L2.putK aF p.1 p.2) more=_;rw[Iu hn,qW h',e]
def Iv:List (Option Expr)->Bz->Option (List (Str×Str))
 |[],[]=>some []
 |some k::ks,v::vs=>(jy k).bind λx=>(jy v).bind λy=>if x.length<=1000/\y.length<=1000 then(Iv ks vs).map ((x,y)::·)else none
 |_,_=>none
def TN(l:List (Str×Str)):T:=.du (l.map λp=>.s p.1.cps.toList) (l.map λp=>.str p.2.cps.toList)
theorem qX{q}(h:kL e=some q):∃k p,e=.Constant q k p:=by
 cases e<;>first|(cases h;done)|(cases h;exact⟨_,_,rfl⟩)
theorem str_inv(h:jy e=some x):∃kk p,e=.Constant (.str x) kk p:=by
 unfold jy at h;cases hc:kL e with
 |none=>rw[hc]at h;cases h
 |some c=>
  rw[hc]at h;cases c<;>first|(cases h;done)|skip
  cases h;exact qX hc
theorem zF:∀{ks:List (Option Expr)}{vs:Bz}{l:List (Str×Str)},Iv ks vs=some l->Rz X pos ks vs (l.map λp=>(tC (.str p.1),tC (.str p.2)))/\ks.all (·.isSome)=true/\ks.length=vs.length/\ks.length=l.length/\∀p∈l,p.2.length<=1000
 |[],[],l,h=>by cases h;exact⟨Hy,rfl,rfl,rfl,λp hp=>by cases hp⟩
 |some k::ks,v::vs,l,h=>by
  obtain⟨x,h1,h⟩:=eM.mp h;obtain⟨y,h2,h⟩:=eM.mp h;split at h
  ·rename_i hl
   obtain⟨l',h3,rfl⟩:=cH.mp h;obtain⟨_,_,rfl⟩:=str_inv h1;obtain⟨_,_,rfl⟩:=str_inv h2;obtain⟨q1,q2,q3,q4,q5⟩:=zF h3;refine⟨Dm wY wY q1,by simpa using q2,by simp[q3],by simp[q4],λp hp=>?_⟩
   rcases bA.mp hp with rfl|hp
   ·exact hl.2
   ·exact q5 p hp
  ·cases h
 |[],_::_,_,h=>by cases h
 |none::_,_,_,h=>by cases h
 |some _::_,[],_,h=>by cases h
theorem zG(x:Str):(⟨x.cps.toList.toArray⟩:Str)=x:=by obtain⟨⟨l⟩⟩:=x;rfl
theorem vf{al:BM}{H:Hp}:∀{l:List (Str×Str)},(∀p∈l,p.2.length<=1000)->aA B al H (l.map λp=>T.str p.2.cps.toList) (l.map λp=>V.str p.2)
 |[],_=>rfl
 |p::l,h=>⟨_,_,rfl,⟨by show V.str p.2=V.str _;rw[zG],by have:=h p (er ..);obtain⟨_,⟨⟨m⟩⟩⟩:=p;have e:m.length<=1000:=(fH m)▸this;show m.length<=1000000;omega⟩,vf λq hq=>h q (eF _ hq)⟩
def vg(l:List (Str×Str)):List (Key×V):=l.map λp=>(.inr p.1,.str p.2)
theorem qY:∀{l:Bi},l.Nodup->(l.map (λx=>(.inr x:Key))).Nodup
 |[],_=>.nil
 |x::l,h=>by
  rw[j4]at h;rw[dz,j4];refine⟨λz=>?_,qY h.2⟩;obtain⟨y,h1,h2⟩:=fG.mp z;injection h2 with h2
  exact h.1 (h2▸h1)
theorem zH:∀{l:List (Str×Str)},((l.map λp=>Ky.s p.1.cps.toList).map jZ).zip (l.map λp=>V.str p.2)=vg l
 |[]=>rfl
 |p::l=>by
  have ih:=zH (l:=l);rw[dz,dz,dz,nE,ih];show((.inr ⟨p.1.cps.toList.toArray⟩:Key),V.str p.2)::_=_;rw[zG];rfl
theorem Oe{ks:List (Option Expr)}{vs:Bz}{l:List (Str×Str)}(h:Iv ks vs=some l)(h0:l≠[])(WT:l.length<=15)(hn:(l.map (·.1)).Nodup):PE X (.Dict ks vs pos) (tE B (cF (TN l))):=by
 obtain⟨q1,q2,q3,q4,q5⟩:=zF (X:=X) (pos:=pos) h;have hk:ks≠[]:=λz=>h0 (by rw[z]at q4;exact J3.mp q4.symm)
 refine aM (Hz q1 q2 q3 hk (by omega)) λσ H Q z=>?_
 obtain⟨g,s,t,s',x,h,k⟩:=z;cases h;intro q hq;refine Eu ⟨ah,vg l,?_,by unfold vg;rw[cD];exact WT,?_⟩
 ·unfold TM vg
  rw[iL];rfl
 ·have nd:(([]++vg l).map (λq:Key×V=>q.1)).Nodup:=by
   unfold vg;rw[rE,iL]
   have:(l.map (λq:Str×Str=>q.1)).map (λx=>(.inr x:Key))=l.map ((λq:Key×V=>q.1)∘λp:Str×Str=>((.inr p.1,.str p.2):Key×V)):=by rw[iL];rfl
   rw[<- this];exact qY hn
  rw[qW nd,rE,rH];have gr:=Gr.new (o:=.dK (vg l)) x.sub hq;refine k _ _ _ (x.iE gr) (x.grow gr) ⟨q,l.map λp=>.str p.2,rfl,?_,by simp,vf q5⟩
  show upd g.HF q (.dK (vg l)) q=_;rw[ah,zH]
end
section
variable{prog:Program}{w:World}{A:Around}{E:Value->Shared->Prop}{s:Shared}
theorem qZ{it l:Addr}{items:Array Value}(iQ:l≠it):∀(n i:Nat)(s:Shared)(Q:B2->Shared->Prop),s.heap.IsListIter it l i->s.heap.IsList l items->i+n<=items.size ->
  (∀h':Heap,h'.IsListIter it l (i+n)->Heap.SameBut it s.heap h'->Q ((items.toList.drop i).take n) {s with heap:=h'})->wpAny (model prog w) A (draw (.ref it) n) Q E s
 |0,i,s,Q,hit,_,_,hQ=>by
  show wpAny _ _ (pure []) Q E s;exact wpAny_pure (by simpa using hQ s.heap hit (Heap.SameBut.refl ..))
 |n+1,i,s,Q,hit,ht,hle,hQ=>by
  have fM:i<items.size:=by omega
  show wpAny _ _ (pyNext (.ref it) >>= _) Q E s;refine wpAny_bind (wpAny_pyNext_list_item hit ht (x:=items[i]) (by simp[fM]) λh₁ hit₁ hs₁=>?_)
  refine wpAny_bind (wpAny_holding (qZ iQ n (i+1) _ _ hit₁ (ht.extBut hs₁.extBut iQ) (by omega) λh₂ hit₂ hs₂=>wpAny_pure ?_))
  have hd:items.toList.drop i=items[i]::items.toList.drop (i+1):=by simp[nF,fM]
  have:=hQ h₂ (by rw[show i+(n+1)=i+1+n by omega];exact hit₂) (hs₁.trans hs₂)
  rw[hd,Cd]at this;exact this
theorem lN{l:Addr}{items:Array Value}{Q:B2->Shared->Prop}(hh:A.handled=none)(ht:s.heap.IsList l items)
  (hQ:∀h':Heap,Heap.ExtBut s.heap.objs.size s.heap h'->Q items.toList {s with heap:=h'}):wpAny (model prog w) A (unpackItems (.ref l) items.size none) Q E s:=by
 have fM:l≠s.heap.objs.size:=by obtain⟨o,ho,_⟩:=ht;exact eL (Heap.lt_size ho)
 unfold unpackItems;refine wpAny_bind ?_
 ·unfold notIterableAtAll
  refine wpAny_bind (wpAny_specialOf ht.typeIs slot_list_iter.lookup ?_);refine wpAny_pure ?_;simp only[yH,if_false];refine wpAny_bind (wpAny_holding (wpAny_pyIter_list ht ?_));refine wpAny_bind (wpAny_holding (qZ fM items.size 0 _ _ ⟨_,Heap.get?_push_size _ rfl,rfl,rfl⟩ (ht.push _) (by omega) λh₁ hit₁ hs₁=>?_))
  have C_:yz items.size (List.drop 0 items.toList)=items.toList:=by
   rw[lq];exact B_ (by simp)
  rw[C_];rw[if_neg (by simp)]
  have ht₁:h₁.IsList l items:=(ht.push _).extBut hs₁.extBut fM;refine wpAny_bind (wpAny_holding (wpAny_pyNext_list_end hh hit₁ ht₁ (by simp) λh₂ he₂=>?_))
  simp only[Option.isSome_none,yH,if_false];refine wpAny_pure (hQ h₂ λb o hb e=>he₂ b o hb (hs₁.extBut b o hb (Heap.get?_push_of_some _ e)))
theorem kM{env:Env}{elts:Bz}{x1}{pos:Pos}{l:Addr}{items:Array Value}{Q:Unit->Shared->Prop}(hh:A.handled=none)(ht:s.heap.IsList l items)
  (hn:(assignEach elts env).length=items.size) (TQ:(assignEach elts env).findIdx? (·.1)=none)
  (h:∀h':Heap,Heap.ExtBut s.heap.objs.size s.heap h'->wpAny (model prog w) A (assignInOrder ((assignEach elts env).map (·.2)) items.toList) Q E {s with heap:=h'}) :
  wpAny (model prog w) A (assign (.Tuple elts x1 pos) env (.ref l)) Q E s:=by
 rw[PyProof.Rows.assign_Tuple];refine wpAny_bind (wpAny_standAt ?_);unfold unpack;rw[hn,TQ];exact wpAny_bind (wpAny_holding (lN hh ht h))
end
section
def TU(K:bu)(n:Nat)(t:GL):TG:=λv σ H Q=>∃a xs,v=.ref a/\df K H a xs/\xs.length=n/\t xs σ H Q
theorem Of{es:Bz}{k:Nat}{t:GL}{n:Nat}(hc:X.calm=true)(h:PF X es t)
  (hn:(assignEach es X.env).length=n:=by rfl) (Qv:(assignEach es X.env).findIdx? (·.1)=none:=by rfl):PG X (.Tuple es k pos) (TU X.K n t):=by
 intro ae s σ H v u Q I r hw;obtain⟨a,xs,e1,hq,hl,hw⟩:=hw;subst e1;cases r;obtain⟨its,rv,ht,hz⟩:=I.list hq;refine kM (I.ok.hd hc) ht.isList (by simp[hn,<- hl,rv.length]) Qv λh' hx=>?_
 have I1:Inv X ae σ H {s with heap:=h'}:=I.kept (t':=s.toks) λb o e=>hx b o (eL (Heap.lt_size e)) e
 exact h ae _ σ H xs _ Q I1 (by simpa using rv) hw
def Ew(is:B1):FG:=λt r=>match t with
 |.lst ts=>qO is ts r
 |_=>none
theorem Og{B:KT}(is:B1){n:Nat}(hn:is.length=n:=by rfl):qq B (TU B.K n (lK is)) (Ew is) is:=⟨λal HF H σ ρ t v ρ' Q sm r h hl q=>by
 cases t<;>first|(cases h;done)|skip
 rename_i ts;obtain⟨a,vs,rfl,q1,r⟩:=r;have ck:∀(is:B1)(ts:FK)(ρ:Fs),qO is ts ρ=some ρ'->is.length=ts.length:=by
  intro is
  induction is with
  |nil=>intro ts ρ h;cases ts with
   |nil=>rfl
   |cons=>cases h
  |cons i is ih=>intro ts ρ h;cases ts with
   |nil=>cases h
   |cons t ts=>simp[ih ts _ h]
 exact⟨a,vs,rfl,df.of (sm _ _ q1),by rw[<- r.len,<- ck _ _ _ h,hn],lL is HF H σ ρ ts vs ρ' Q sm r h hl q⟩⟩
end
end D
namespace D
open PySem
structure Lc where
 N:Bi
 sc:Scope
 mu:Bi
inductive Ck where
 |fz (c n:Nat)|z0 (c:Nat)|cp (c:Nat)|nw (c i:Nat)
structure Gm where
 P:Pg
 cs:List (Str×T)
 fs:List (Str×FK×Nat)
 cl:List (Str×Ck)
 ms:List (Str×List (Nat×Nat))
 bl:Bi
 bf:Bi:=[]
 lu:Bi:=[]
 lv:Bi:=[]
def Gm.bc(M:Gm):Nat:=M.P.cn.length+M.P.tab.length
theorem Gm.sX(M:Gm):M.P.cn[M.bc]?=none:=ua (wR _ _)
theorem Gm.TV(M:Gm):M.P.fn[M.bc]?=none:=ua (by unfold Pg.fn;rw[cD];exact Nat.le_add_left _ _)
def mi(N:Bi)(x:Str):Option Nat:=N.idxOf? x
def q_(x:Str):Bool:=x == ("__debug__" : Str) ||x == ("__classdict__" : Str)
def kN(L:Lc)(x:Str):Bool:=match L.sc.names.lookup x with
 |some .local=>!q_ x
 |some .cell=>!q_ x
 |_=>false
def Ex(L:Lc)(x:Str):Bool:=decide (L.sc.names.lookup x=some .globalImplicit)&&!q_ x
def Iw:Expr->Option (Expr×Int×Option Expr)
 |.FormattedValue a i o _=>some (a,i,o)
 |_=>none
structure Rc where
 E:Lc->Expr->FE
 T:Lc->Expr->FT
 I:Lc->Expr->Expr->FL
 O:Lc->Expr->FL
def e9:List FE->FL
 |[]=>aZ
 |a::r=>bK a (e9 r)
def Oh:List FE->FE
 |[]=>bD
 |[a]=>a
 |a::r=>Z5 a (Oh r)
def Ey:List FE->FE
 |[]=>bD
 |[a]=>a
 |a::r=>ko a (Ey r)
def Oi:List FT->FT
 |[]=>qm
 |[a]=>a
 |a::r=>qo a (Oi r)
def Ez:List FT->FT
 |[]=>qm
 |[a]=>a
 |a::r=>gX a (Ez r)
def EA(sc outer:Scope):Scope:={sc with names:=sc.names.map λ(n,k)=>if(k == NameKind.free&&outer.kind == .function&&outer.names.lookup n == some .cell)then(n,NameKind.cell)else(n,k)}
def locals(sc:Scope):Bi:=sc.names.filterMap λp=>if p.2=.local then some p.1 else none
def frees(sc:Scope):Bi:=sc.names.filterMap λp=>if p.2=.free then some p.1 else none
def idxs(N:Bi):Bi->Option B1
 |[]=>some []
 |x::xs=>(mi N x).bind λi=>(idxs N xs).map (i::·)
def Oj(L:Lc)(sc:Scope):Bool:=decide (sc.kind=.function)&&sc.names.all (λp=>decide (p.2≠.cell)&&(decide (p.2=.local)->decide (sc.names.lookup p.1=some .local))&&(decide (p.2=.free)->(decide (sc.names.lookup p.1=some .free)&&decide (L.sc.names.lookup p.1=some .cell))))&&decide (L.sc.kind=.function)
def P0(N:Bi)(ok:Str->Bool):Expr->Option (FG×B1)
 |.Name x _=>if ok x then(mi N x).map λi=>(setG i,[i])else none
 |.Tuple es _ _=>(namesOf es).bind λxs=>if xs.all ok then(idxs N xs).map λis=>(dh is,is)else none
 |_=>none
def isSet:Expr->Bool
 |.Set _ _ _=>true
 |_=>false
def Lq(r:Rc)(L:Lc):Bz->FT
 |[]=>dG
 |[c]=>r.T L c
 |_=>qm
def EB(L:Lc)(sc:Scope):Lc:=⟨locals sc++frees sc,EA sc L.sc,[]⟩
def oV(r:Rc)(L:Lc)(elt:Expr)(q:Comprehension)(sc:Scope):FL:=if q.is_async=0/\(Oj L sc&&decide ((locals sc++frees sc).Nodup)&&!isSet q.iter&&decide (q.ifs.length<=1))=true then(match idxs L.N (frees sc),P0 (locals sc) (λx=>decide (sc.names.lookup x=some .local)) q.target with
  |some js,some (g,_)=>cW (r.I L q.target q.iter) (locals sc).length js g (Lq r (EB L sc) q.ifs) (r.E (EB L sc) elt)
  |_,_=>fV)else fV
def rf(r:Rc)(L:Lc):Expr->FL
 |.ListComp elt gs sc _=>(match gs with
  |[g]=>oV r L elt g sc
  |_=>fV)
 |_=>fV
def Ol(r:Rc)(L:Lc):Option Expr->FO
 |none=>wH
 |some e=>jY (r.E L e)
def vh(M:Gm)(L:Lc):Bi->Option B1
 |[]=>some []
 |y::ys=>if Ex L y&&((mi M.P.cn y).bind λd=>M.P.fn[d]?).isSome then(mi M.P.cn y).bind λd=>(vh M L ys).map (d::·)else none
def blt(M:Gm)(L:Lc)(x:Str):Bool:=M.bl.contains x&&Ex L x
def isF(M:Gm)(r:Rc)(L:Lc)(a:Expr):Expr->FE
 |.Name y _=>(match uT.lookup y with
  |some ty=>if M.bl.contains y&&Ex L y then cu (D7 ty) (r.E L a)else bD
  |none=>(match vh M L [y]with
   |some ds=>cu (gH M.P.sub ds) (r.E L a)
   |none=>bD))
 |.Tuple es _ _=>if es.length<=100 then(match(namesOf es).bind (vh M L)with
  |some ds=>cu (gH M.P.sub ds) (r.E L a)
  |none=>bD)else bD
 |_=>bD
def ak(l:List (Nat×Nat))(ai:Nat->Fn)(c:Nat):Option Fn:=(l.lookup c).map ai
def TX(L:Lc):Expr->Option Nat
 |.Name y _=>if L.mu.contains y&&kN L y then mi L.N y else none
 |_=>none
def vj(M:Gm)(r:Rc)(L:Lc)(o:Expr):Option FE:=(jP o).bind λq=>if M.bf.contains q.2.1&&bU q.1 then(mi M.P.an q.2.1).map λj=>aE M.P.tab j (r.E L q.1)else none
def vm(M:Gm)(r:Rc)(L:Lc)(a:Expr)(op:CmpOp)(b:Expr):FE:=match mh op,vj M r L b with
 |some neg,some f=>sW M.bc neg (r.E L a) f
 |_,_=>(match mh op,TX L b with
  |some neg,some i=>PZ op neg i (r.E L a)
  |_,_=>bB (aH op) (r.E L a) (r.E L b))
def rh(M:Gm)(L:Lc)(f:Str):Bz->Option Expr
 |[e]=>(jQ e).bind λq=>(match q.2.1,q.2.2 with
  |[a],[]=>if f=("len" : Str)/\q.1=("set" : Str)/\blt M L ("set" : Str)=true/\noStar a=true then some a else none
  |_,_=>none)
 |_=>none
def xS(M:Gm)(L:Lc)(f:Str):Bz->Option Expr
 |[e]=>(jQ e).bind λq=>(match q.2.1,q.2.2 with
  |[a],[]=>if f=("list" : Str)/\q.1=("range" : Str)/\blt M L ("range" : Str)=true/\noStar a=true then some a else none
  |_,_=>none)
 |_=>none
def xT(M:Gm)(ai:Nat->Fn)(r:Rc)(L:Lc)(f:Str)(args:Bz):FE:=
 if args.all noStar then(match M.fs.lookup f with
  |some (ds,i)=>if Ex L f then ao (ai i) ds (e9 (args.map (r.E L)))else bD
  |none=>(match M.cl.lookup f with
   |some (.fz c n)=>if Ex L f&&!args.isEmpty then cT c n (e9 (args.map (r.E L)))else bD
   |some (.z0 c)=>if Ex L f&&args.isEmpty then cT c 0 aZ else bD
   |some (.cp c)=>(match args with
    |[a]=>if Ex L f then cu (Dr c) (r.E L a)else bD
    |_=>bD)
   |some (.nw c i)=>if Ex L f&&!args.isEmpty then kq c (ai i) (e9 (args.map (r.E L)))else bD
   |none=>if blt M L f then(match f == ("isinstance" : Str),args with
     |true,[a,q]=>isF M r L a q
     |_,_=>(match f == ("len" : Str),args with
      |true,[.Name y p]=>(match mi L.N y with
       |some i=>if L.mu.contains y&&kN L y then(if M.lv.contains y then Ir i else K0 i)else aR bJ (e9 [r.E L (.Name y p)])
       |none=>aR bJ (e9 [r.E L (.Name y p)]))
      |_,_=>(match rh M L f args with
       |some a=>cu sQ (r.E L a)
       |none=>(match xS M L f args with
        |some a=>eX (o1 Bj (r.E L a))
        |none=>(match xK.lookup f,args with
         |some g,_::_=>aR g (e9 (args.map (r.E L)))
         |_,_=>bD)))))else bD))else bD
def EC:Const->FE
 |.int i=>cF (.int i)
 |.bool b=>cF (.bl b)
 |.none=>cF .non
 |.str s=>if s.length<=1000000 then cF (.str s.cps.toList)else bD
 |_=>bD
def ED(M:Gm)(L:Lc)(x:Str):FE:=match mi L.N x with
 |some i=>if kN L x then vF i else bD
 |none=>(match M.cs.lookup x with
  |some t=>if Ex L x then cF t else bD
  |none=>bD)
def unE(a:FE):UnaryOp->FE
 |.USub=>cu gT a
 |.Not=>uJ a
 |_=>bD
def boE(l:List FE):BoolOp->FE
 |.And=>Ey l
 |.Or=>Oh l
def XZ(M:Gm)(r:Rc)(L:Lc)(a:Expr):List CmpOp->Bz->FE
 |[op],[b]=>if behindInMarks op b then bD else vm M r L a op b
 |_,_=>bD
def X0:Expr->Bool
 |.Attribute _ _ _=>true
 |.Dict _ _ _=>true
 |_=>false
def Om(ks:List (Option Expr))(vs:Bz):FE:=match ks,vs with
 |[],[]=>cF (.du [] [])
 |_,_=>(match Iv ks vs with
  |some l=>if l.length<=15/\(l.map (·.1)).Nodup/\l.isEmpty=false then cF (TN l)else bD
  |none=>bD)
def VG(M:Gm)(r:Rc)(L:Lc)(o i:Expr):FE:=match vj M r L o with
 |some f=>Er M.bc f (r.E L i)
 |none=>if X0 o then bB xC (r.E L o) (r.E L i)else match(asName o).bind λy=>(mi L.N y).map λk=>(y,k)with
 |some (y,k)=>if L.mu.contains y&&kN L y then lF k (r.E L i)else bB gq (r.E L o) (r.E L i)
 |none=>bB gq (r.E L o) (r.E L i)
def Oo(M:Gm)(r:Rc)(L:Lc)(o:Expr):Expr->FE
 |.Slice lo hi st _=>(match st with
  |none=>mZ (r.E L o) (Ol r L lo) (Ol r L hi)
  |some _=>bD)
 |i=>VG M r L o i
def X3(M:Gm)(r:Rc)(L:Lc)(o:Expr)(f:Str):FE:=if bU o then(match mi M.P.an f with
  |some j=>if M.bf.contains f then il M.bc M.P.tab j (r.E L o)else aE M.P.tab j (r.E L o)
  |none=>bD)else bD
def joE(r:Rc)(L:Lc):Bz->FE
 |[e,q,f]=>(match jy e,Iw q,jy f with
  |some x,some (a,cv,none),some y=>if cv=-1/\x.length<=1000/\y.length<=1000 then cu (u2 x.cps.toList y.cps.toList) (r.E L a)else bD
  |_,_,_=>bD)
 |_=>bD
def Oq(M:Gm)(r:Rc)(L:Lc)(o:Expr)(m:Str):Bz->Option FE
 |[b,d]=>if m=("get" : Str)then(vj M r L o).map λf=>N1 M.bc f (r.E L b) (r.E L d)else none
 |_=>none
def Ot(M:Gm)(ai:Nat->Fn)(r:Rc)(L:Lc)(o:Expr)(m:Str)(ap:Pos)(args:Bz)(cp:Pos):FE:=if bU o&&args.all noStar&&decide (args.length<29)&&ap.endLine == cp.line then(match Oq M r L o m args with
   |some f=>f
   |none=>match M.ms.lookup m with
   |some l=>aw (ak l ai) (r.E L o) (e9 (args.map (r.E L)))
   |none=>(match xJ.lookup m,args with
    |some g,_::_=>pU g (r.E L o) (e9 (args.map (r.E L)))
    |_,_=>bD))else bD
def X4(M:Gm)(ai:Nat->Fn)(r:Rc)(L:Lc)(args:Bz)(cp:Pos):Expr->FE
 |.Name f _=>xT M ai r L f args
 |.Attribute o m ap=>Ot M ai r L o m ap args cp
 |_=>bD
def Lr(M:Gm)(ai:Nat->Fn)(r:Rc)(L:Lc):Expr->FE
 |.Constant c _ _=>EC c
 |.Name x _=>ED M L x
 |.BinOp a op b _=>bB (fY op) (r.E L a) (r.E L b)
 |.UnaryOp op a _=>unE (r.E L a) op
 |.BoolOp op es _=>boE (es.map (r.E L)) op
 |.Compare a ops bs _=>XZ M r L a ops bs
 |.IfExp c a b _=>uK (r.T L c) (r.E L a) (r.E L b)
 |.Tuple es _ _=>if es.all noStar then aR bQ (e9 (es.map (r.E L)))else bD
 |.List es _=>if es.all noStar then aR dQ (e9 (es.map (r.E L)))else bD
 |.Subscript o i _=>Oo M r L o i
 |.Attribute o f _=>X3 M r L o f
 |.JoinedStr vs _=>joE r L vs
 |.Dict ks vs _=>Om ks vs
 |.ListComp elt gs sc p=>eX (rf r L (.ListComp elt gs sc p))
 |.Call f args ks cp=>(match ks with
  |[]=>X4 M ai r L args cp f
  |_::_=>bD)
 |_=>bD
def boT(l:List FT):BoolOp->FT
 |.And=>Ez l
 |.Or=>Oi l
def X5(M:Gm)(r:Rc)(L:Lc)(a:Expr):List CmpOp->Bz->FT
 |[op],[b]=>if behindInMarks op b then qm else bw (vm M r L a op b)
 |_,_=>qm
def stepT(M:Gm)(r:Rc)(L:Lc)(e:Expr):FT:=match e with
 |.BoolOp op es _=>boT (es.map (r.T L)) op
 |.UnaryOp op a _=>(match op with
  |.Not=>dR (r.T L a)
  |_=>tB (r.E L e))
 |.Compare a ops bs _=>X5 M r L a ops bs
 |.IfExp _ _ _ _=>qm
 |_=>tB (r.E L e)
def zI(e:Expr):Option Bz:=(jQ e).bind λq=>if q.1=("range" : Str)/\q.2.2.isEmpty=true then some q.2.1 else none
noncomputable def vn(e:Expr):Option (Expr×Int):=(jQ e).bind λq=>if q.1=("enumerate" : Str)then(match q.2.1 with
 |[a]=>(match q.2.2 with
  |[]=>some (a,0)
  |[w]=>(match kL w.value with
   |some (.int n)=>if w.arg=some ("start" : Str)/\n=1 then some (a,n)else none
   |_=>none)
  |_=>none)
 |_=>none)else none
def Ou:Expr->Bool
 |.Tuple _ _ _=>true
 |_=>false
def Iz:Expr->Bool
 |.Name _ _=>true
 |_=>false
def EE(e:Expr):Option Expr:=(jQ e).bind λq=>(match q.2.1,q.2.2 with
 |[a],[]=>if q.1=("reversed" : Str)/\noStar a=true then some a else none
 |_,_=>none)
def stepI(M:Gm)(r:Rc)(L:Lc)(tg e:Expr):FL:=match zI e with
 |some args=>if blt M L ("range" : Str)&&args.all noStar then(match args with
   |[a]=>tR jt (e9 [r.E L a])
   |[a,b]=>tR jt (e9 [r.E L a,r.E L b])
   |[a,b,c]=>tR Bk (e9 [r.E L a,r.E L b,r.E L c])
   |_=>fV)else fV
 |none=>(match vn e with
  |some (a,n)=>if blt M L ("enumerate" : Str)&&Ou tg&&noStar a then iD n (r.E L a)else fV
  |none=>match EE e with
  |some a=>if blt M L ("reversed" : Str)then o1 N9 (r.E L a)else fV
  |none=>if Iz tg then sy (r.E L e)else Ef (r.E L e))
def Ov(M:Gm)(r:Rc)(L:Lc)(f:Str)(args:Bz):FL:=if blt M L f then match xS M L f args with
 |some a=>o1 Bj (r.E L a)
 |none=>(match args with
  |[a]=>if f=("list" : Str)/\noStar a=true then o1 XU (r.E L a)else fV
  |_=>fV)else fV
def Ls(M:Gm)(r:Rc)(L:Lc):Expr->FL
 |.IfExp c a b _=>VF (r.T L c) (r.O L a) (r.O L b)
 |.BinOp a op b _=>(match op with
  |.Mult=>o2 Et (r.E L a) (r.E L b)
  |.Add=>o2 Bh (r.E L a) (r.E L b)
  |_=>fV)
 |.Call f args ks _=>(match ks with
  |[]=>(match asName f with
   |some y=>Ov M r L y args
   |none=>fV)
  |_::_=>fV)
 |.List es _=>if es.all noStar then mO (e9 (es.map (r.E L)))else fV
 |.ListComp elt gs sc p=>rf r L (.ListComp elt gs sc p)
 |_=>fV
def comp(M:Gm)(ai:Nat->Fn):Nat->Rc
 |0=>⟨λ_ _=>bD,λ_ _=>qm,λ_ _ _=>fV,λ_ _=>fV⟩
 |n+1=>⟨Lr M ai (comp M ai n),stepT M (comp M ai n),stepI M (comp M ai n),Ls M (comp M ai n)⟩
def EF(L:Lc)(t:Str)(tp:Pos):Expr->Bool
 |.ListComp _ _ sc p=>(if L.sc.kind.isAnnotationScope then ScopeKind.function else L.sc.kind) == .function&&L.sc.names.lookup t == some .local&&tp.line == p.line&&!(sc.names.any λ(n,k)=>n == t&&(k == .local ||k == .cell))
 |_=>false
def xU:Expr->Bool
 |.ListComp _ _ _ _=>true
 |.SetComp _ _ _ _=>true
 |.DictComp _ _ _ _ _=>true
 |_=>false
noncomputable def zJ(mu:Bi)(e:Expr):Option (Str×Expr):=(sL e).bind λq=>(jP q.1).bind λw=>(asName w.1).bind λy=>(match q.2.1,q.2.2.1 with
 |[a],[]=>if w.2.1=("append" : Str)/\mu.contains y=true/\noStar a=true/\(w.2.2.endLine == q.2.2.2.line)=true then some (y,a)else none
 |_,_=>none)
def zK:Expr->Bool
 |.Dict [] [] _=>true
 |_=>false
def EG(M:Gm)(ai:Nat->Fn)(n:Nat)(L:Lc)(x:Str)(e:Expr):FS:=match mi L.N x with
 |some i=>if kN L x then(if L.mu.contains x then(if zK e then zA i else gj i ((comp M ai n).O L e))else aG i ((comp M ai n).E L e))else cM
 |none=>cM
def Lu:Expr->Bool
 |.Tuple vs _ _=>vs.all (foldedForSure 8)
 |_=>true
abbrev many:Nat:=1000000
def tgL(M:Gm)(L:Lc)(es:Bz):Option FG:=(namesOf es).bind λxs=>if xs.all (kN L)&&((xs.head?.map M.lu.contains).getD false)then(idxs L.N xs).map Ew else none
def tupS(M:Gm)(ai:Nat->Fn)(n:Nat)(L:Lc)(es:Bz)(e:Expr):FS:=if xU e || !Lu e || !es.all noStar then cM else(match tgL M L es with
  |some g=>uL g ((comp M ai n).E L e)
  |none=>(match P0 L.N (kN L) (.Tuple es 0 ⟨0,0,0,0⟩)with
  |some (g,_)=>uL g ((comp M ai n).E L e)
  |none=>cM))
def Ow(M:Gm)(ai:Nat->Fn)(n:Nat)(L:Lc)(f:Str)(e:Expr):FE:=if M.bf.contains f then(if zK e then mS M.bc else uM M.bc ((comp M ai n).O L e))else(comp M ai n).E L e
def Ox(M:Gm)(ai:Nat->Fn)(n:Nat)(L:Lc)(o:Expr)(f:Str)(e:Expr):FS:=match mi M.P.an f with
  |some j=>aO M.P.tab j ((comp M ai n).E L o) (Ow M ai n L f e)
  |none=>cM
def Oz(M:Gm)(ai:Nat->Fn)(n:Nat)(L:Lc)(o b e:Expr):FS:=if xU e then cM else match vj M (comp M ai n) L o with
 |some f=>Bf M.bc f ((comp M ai n).E L b) ((comp M ai n).E L e)
 |none=>match(asName o).bind λy=>if kN L y then mi L.N y else none with
  |some i=>if isSlice b then cM else Lo i ((comp M ai n).E L b) ((comp M ai n).E L e)
  |none=>cM
def asS(M:Gm)(ai:Nat->Fn)(n:Nat)(L:Lc)(e:Expr):Expr->FS
 |.Name x _=>EG M ai n L x e
 |.Tuple es _ _=>tupS M ai n L es e
 |.Attribute o f _=>Ox M ai n L o f e
 |.Subscript o b _=>Oz M ai n L o b e
 |_=>cM
def OA(M:Gm)(ai:Nat->Fn)(n:Nat)(L:Lc)(t:Expr)(op:Operator)(e:Expr):FS:=match(jP t).bind λq=>(mi M.P.an q.2.1).map λj=>(q.1,j)with
  |some (o,j)=>if op=.Add then ve M.P.tab j iF ((comp M ai n).E L o) ((comp M ai n).E L e)else cM
  |none=>match(asName t).bind λx=>(mi L.N x).map λi=>(x,i)with
  |some (x,i)=>if op=.Add/\kN L x=true then Dt iF i ((comp M ai n).E L e)else cM
  |none=>cM
def TY(M:Gm)(r:Rc)(L:Lc)(e:Expr):Option (FE×Expr):=(sL e).bind λq=>(jP q.1).bind λw=>(vj M r L w.1).bind λf=>(match q.2.1,q.2.2.1 with
 |[a],[]=>if w.2.1=("append" : Str)/\noStar a=true/\(w.2.2.endLine == q.2.2.2.line)=true then some (f,a)else none
 |_,_=>none)
def X6(M:Gm)(ai:Nat->Fn)(n:Nat)(L:Lc)(e:Expr):FS:=match TY M (comp M ai n) L e with
  |some (f,a)=>iG M.bc f ((comp M ai n).E L a)
  |none=>match zJ L.mu e with
  |some (y,a)=>(match mi L.N y with
   |some i=>if kN L y then dU i ((comp M ai n).E L a)else cM
   |none=>cM)
  |none=>if xU e then cM else aN ((comp M ai n).E L e)
def retS(M:Gm)(ai:Nat->Fn)(n:Nat)(L:Lc):Option Expr->FS
 |some e=>aB ((comp M ai n).E L e)
 |none=>aB (cF .non)
def OB(M:Gm)(ai:Nat->Fn)(n:Nat)(L:Lc)(b:FS)(tg it:Expr):FS:=if isSet it then cM else(match P0 L.N (kN L) tg with
  |some (g,_)=>fW ((comp M ai n).I L tg it) g b
  |none=>cM)
def X7(M:Gm)(ai:Nat->Fn)(n:Nat)(rS:Lc->Ee->FS)(L:Lc):Stmt->FS
 |.Assign ts e _=>(match ts with
  |[t]=>asS M ai n L e t
  |_=>cM)
 |.AugAssign t op e _=>OA M ai n L t op e
 |.Expr e _=>X6 M ai n L e
 |.Return o _=>retS M ai n L o
 |.If c a b _=>aU ((comp M ai n).T L c) (rS L a) (rS L b)
 |.For tg it body oe _=>(match oe with
  |[]=>OB M ai n L (rS L body) tg it
  |_::_=>cM)
 |.While c body oe _=>(match oe with
  |[]=>lG many ((comp M ai n).T L c) (rS L body)
  |_::_=>cM)
 |.Try body hs oe fb _=>(match hs,oe,fb with
  |_::_,[],[]=>rS L body
  |_,_,_=>cM)
 |.Pass _=>aC
 |.Break _=>RS
 |.Continue _=>RT
 |_=>cM
def lO(M:Gm)(ai:Nat->Fn)(n:Nat):Nat->Lc->Ee->FS
 |0,_,_=>cM
 |_+1,_,[]=>aC
 |k+1,L,[st]=>X7 M ai n (lO M ai n k) L st
 |k+1,L,st::rest=>af (X7 M ai n (lO M ai n k) L st) (lO M ai n k L rest)
end D
namespace D
open PySem L2
structure EH(M:Gm)(Pr:Program)(w:World)(K:bu)(mg:Str->D1)(base:Heap)(ai:Nat->Fn)(k:Nat):Prop where
 pg:mR K mg M.P
 cst:∀x t,M.cs.lookup x=some t->zy K mg x t
 fns:∀x ds i,M.fs.lookup x=some (ds,i)->XC M.P Pr w K mg base k x ds (ai i)
 fz:∀x c n,M.cl.lookup x=some (.fz c n)->DnC M.P Pr w K mg base k c n x
 z0:∀x c,M.cl.lookup x=some (.z0 c)->SG M.P Pr w K mg c x
 cp:∀x c,M.cl.lookup x=some (.cp c)->DnP M.P Pr w K mg base k c x
 nw:∀x c i,M.cl.lookup x=some (.nw c i)->DnN M.P Pr w K mg base k c x (ai i)
 mts:∀m l c i,M.ms.lookup m=some l->l.lookup c=some i->VB M.P Pr w K mg base k c m (ai i)
 bl:∀x,x∈M.bl->mg x=none
structure CxOk(M:Gm)(ai:Nat->Fn)(k:Nat)(L:Lc)(X:Cx):Prop where
 gm:EH M X.prog X.w X.K X.mg X.base ai k
 N:X.N=L.N
 sc:X.env.scope=L.sc
 calm:X.calm=true
 room:∃j,k+1<=j/\bH j X.A
variable{X:Cx}{a b c e o:Expr}{M:Gm}{L:Lc}{es:Bz}{i k:Nat}{ai:Nat->Fn}{cL dq p pos cJ:Pos}{K:bu}{r:Rc}{x y:Str}{mg:Str->D1}
theorem ir{N:Bi}{x:Str}{i:Nat}(h:mi N x=some i):N[i]?=some x:=by
 unfold mi at h;rw[J0,J1]at h;obtain⟨hj,h1,_⟩:=h;rw[cj hj,eq_of_beq h1]
theorem VH(h:q_ x=false):bZ x/\iO x:=by
 unfold q_ at h;exact Bool.or_eq_false_iff.mp h
theorem iu(C:CxOk M ai k L X)(h:kN L x=true):Loc X.env.scope x/\rL X.env.scope x/\bZ x/\iO x:=by
 rw[C.sc];unfold kN at h;split at h
 ·rename_i e
  obtain⟨h1,h2⟩:=VH (by simpa using h)
  exact⟨.inl e,.inl e,h1,h2⟩
 ·rename_i e
  obtain⟨h1,h2⟩:=VH (by simpa using h)
  exact⟨.inr e,.inr (.inl e),h1,h2⟩
 ·cases h
theorem kO(C:CxOk M ai k L X)(h:Ex L x=true):Gl X x/\bZ x:=by
 unfold Ex at h;rw[dc]at h;obtain⟨h1,h2⟩:=h;refine⟨?_,(VH (by simpa using h2)).1⟩
 show X.env.scope.names.lookup x=_;rw[C.sc];exact of_decide_eq_true h1
def zL(M:Gm)(X:Cx)(r:Rc)(L:Lc):Prop:=∀e,PE X e (tE (M.P.kt X) (r.E L e))
def X8(M:Gm)(X:Cx)(r:Rc)(L:Lc):Prop:=∀e,PT X e (tT (M.P.kt X) (r.T L e))
def OkI(M:Gm)(X:Cx)(r:Rc)(L:Lc):Prop:=∀tg e,PI X tg e (tI (M.P.kt X) (r.I L tg e))
def OkO(M:Gm)(X:Cx)(r:Rc)(L:Lc):Prop:=∀e,PE X e (tO (M.P.kt X) (r.O L e))
def xV(M:Gm)(ai:Nat->Fn)(k:Nat)(r:Rc):Prop:=∀L X,CxOk M ai k L X->zL M X r L/\X8 M X r L/\OkI M X r L/\OkO M X r L
theorem jj(hE:zL M X r L):∀es:Bz,es.all noStar=true->PA X es (tA (M.P.kt X) (e9 (es.map (r.E L))))
 |[],_=>xE
 |e::es,h=>by
  rw[fF,dc]at h;exact sE (hE e) (jj hE es h.2) (aq h.1)
theorem vo(hE:zL M X r L):∀es:Bz,PE X (.BoolOp .And es pos) (tE (M.P.kt X) (Ey (es.map (r.E L))))
 |[]=>aP
 |[a]=>DB (hE a)
 |a::b::es=>M8 (hE a) (vo hE (b::es))
theorem zM(hE:zL M X r L):∀es:Bz,PE X (.BoolOp .Or es pos) (tE (M.P.kt X) (Oh (es.map (r.E L))))
 |[]=>aP
 |[a]=>DB (hE a)
 |a::b::es=>R4 (hE a) (zM hE (b::es))
theorem TZ:PW X e (tT (M.P.kt X) qm):=λ_ _ _ _ _ _ _ ⟨_,_,_,_,_,h,_⟩=>by cases h
theorem vp(hT:X8 M X r L):∀es:Bz,PW X (.BoolOp .And es pos) (tT (M.P.kt X) (Ez (es.map (r.T L))))
 |[]=>TZ
 |[a]=>M7 (hT a)
 |a::b::es=>R0 (hT a) (vp hT (b::es))
theorem zN(hT:X8 M X r L):∀es:Bz,PW X (.BoolOp .Or es pos) (tT (M.P.kt X) (Oi (es.map (r.T L))))
 |[]=>TZ
 |[a]=>RZ (hT a)
 |a::b::es=>Xf (hT a) (zN hT (b::es))
theorem dw{α:Type}{l:List (Str×α)}{x:Str}{a:α}(h:l.lookup x=some a):(x,a)∈l:=by
 induction l with
 |nil=>simp at h
 |cons p l ih=>
  obtain⟨q,b⟩:=p;rw[jC]at h;split at h
  ·rename_i e
   cases h;rw[eq_of_beq e];exact er ..
  ·exact eF _ (ih h)
theorem xW(C:CxOk M ai k L X):∀{ys:Bi}{ds:B1},vh M L ys=some ds->ys.length=ds.length/\∀(i d:Nat)(y:Str),ds[i]?=some d->ys[i]?=some y->M.P.cn[d]?=some y/\(M.P.fn[d]?).isSome=true/\Gl X y/\bZ y
 |[],ds,h=>by
  cases h;exact⟨rfl,λi d y h=>by simp at h⟩
 |y::ys,ds,h=>by
  unfold vh at h;split at h
  ·rename_i q
   rw[dc]at q;obtain⟨d,h1,h2⟩:=eM.mp h;obtain⟨ds',h3,rfl⟩:=cH.mp h2;obtain⟨h4,h5⟩:=xW C h3;obtain⟨g1,g2⟩:=kO C q.1;refine⟨by simp[h4],λi d' y' e1 e2=>?_⟩
   cases i with
   |zero=>
    simp at e1 e2;subst e1 e2;refine⟨ir h1,?_,g1,g2⟩;have q2:=q.2;rw[h1]at q2;exact q2
   |succ i=>exact h5 i d' y' (by simpa using e1) (by simpa using e2)
  ·cases h
theorem fJ(C:CxOk M ai k L X)(h:blt M L x=true):Gl X x/\X.mg x=none/\bZ x:=by
 unfold blt at h;rw[dc]at h;obtain⟨g1,g2⟩:=kO C h.2;exact⟨g1,C.gm.bl x (Ce.mp h.1),g2⟩
theorem T_(C:CxOk M ai k L X)(hE:zL M X r L){q:Expr}(hb:blt M L ("isinstance" : Str)=true)(hs:noStar a=true):PE X (.Call (.Name "isinstance" p) [a,q] [] pos) (tE (M.P.kt X) (isF M r L a q)):=by
 obtain⟨hg,hm,_⟩:=fJ C hb;cases q with
 |Name y py=>
  show PE X _ (tE (M.P.kt X) (match uT.lookup y with|some ty=>_|none=>_))
  split
  ·rename_i ty Wr
   split
   ·rename_i q
    rw[dc]at q;obtain⟨g1,g2⟩:=kO C q.2;exact Nr rfl (dw Wr) hm (C.gm.bl _ (Ce.mp q.1)) (hE a) hg g1 hs
   ·exact aP
  ·split
   ·rename_i ds uV
    obtain⟨h1,h2⟩:=xW C uV
    match ds,h1,h2 with
    |[d],_,h2=>
     obtain⟨f1,f2,f3,f4⟩:=h2 0 d y rfl rfl;exact SD C.gm.pg f1 hm (hE a) hg f3 hs f4 f2
   ·exact aP
 |Tuple es x1 tp=>
  show PE X _ (tE (M.P.kt X) (if es.length<=100 then _ else bD))
  split
  ·rename_i hl
   split
   ·rename_i ds uV
    obtain⟨ys,h0,uV⟩:=eM.mp uV;obtain⟨h1,h2⟩:=xW C uV;exact Tg C.gm.pg h0 h1 h2 hl hm (hE a) hg hs
   ·exact aP
  ·exact aP
 |_=>exact aP
theorem xX{f:Str}{args:Bz}(h:rh M L f args=some a):f=("len" : Str)/\blt M L ("set" : Str)=true/\noStar a=true/\∃p1 ib,args=[.Call (.Name "set" p1) [a] [] ib]:=by
 match args,h with
 |[e],h=>
  obtain⟨⟨g,as,ks⟩,h1,hh⟩:=eM.mp h;obtain⟨p1,ib,rfl⟩:=eS h1
  match as,ks,hh with
  |[a'],[],hq=>
   dsimp only at hq;split at hq
   ·rename_i q
    obtain⟨rfl,rfl,q3,q4⟩:=q;cases hq;exact⟨rfl,q3,q4,_,_,rfl⟩
   ·cases hq
theorem vq{f:Str}{args:Bz}(h:xS M L f args=some a):f=("list" : Str)/\blt M L ("range" : Str)=true/\noStar a=true/\∃p1 ib,args=[.Call (.Name "range" p1) [a] [] ib]:=by
 match args,h with
 |[e],h=>
  obtain⟨⟨g,as,ks⟩,h1,hh⟩:=eM.mp h;obtain⟨p1,ib,rfl⟩:=eS h1
  match as,ks,hh with
  |[a'],[],hq=>
   dsimp only at hq;split at hq
   ·rename_i q
    obtain⟨rfl,rfl,q3,q4⟩:=q;cases hq;exact⟨rfl,q3,q4,_,_,rfl⟩
   ·cases hq
theorem EI(C:CxOk M ai k L X){i:Nat}(h:TX L b=some i):∃y py,b=.Name y py/\X.N[i]?=some y/\rL X.env.scope y/\bZ y/\iO y:=by
 cases b<;>first|(cases h;done)|skip
 replace h:(if _ then _ else none)=some i:=h
 split at h
 ·rename_i q
  rw[dc]at q;obtain⟨l1,l2,l3,l4⟩:=iu C q.2;exact⟨_,_,rfl,by rw[C.N];exact ir h,l2,l3,l4⟩
 ·cases h
theorem lP(C:CxOk M ai k L X)(hE:zL M X r L){f:FE}(h:vj M r L o=some f):PE X o (tE (M.P.kt X) f)/\bU o=true/\∀op,behindInMarks op o=false:=by
 obtain⟨q,h1,h⟩:=eM.mp h;rw[kJ h1];split at h
 ·rename_i z
  rw[dc]at z;obtain⟨j,h2,rfl⟩:=cH.mp h;exact⟨K_ C.gm.pg (ir h2) (hE _) z.2,rfl,λop=>by cases op<;>rfl⟩
 ·cases h
theorem IA(C:CxOk M ai k L X)(hE:zL M X r L){op:CmpOp}(h:behindInMarks op b=false):PE X (.Compare a [op] [b] pos) (tE (M.P.kt X) (vm M r L a op b)):=by
 obtain⟨j,hj,hr⟩:=C.room;unfold vm;split
 ·rename_i neg f h1 h2
  exact N5 M.sX hr h1 (hE a) (lP C hE h2).1 h
 split
 ·rename_i neg i h1 h2
  obtain⟨y,py,rfl,q1,q2,q3,q4⟩:=EI C h2;exact To rfl hr h1 (hE a) q1 q2 q3 q4
 ·exact NV rfl hr (hE a) (hE b) h
theorem EJ(C:CxOk M ai k L X)(hE:zL M X r L){op:CmpOp}(h:behindInMarks op b=false):PT X (.Compare a [op] [b] pos) (tT (M.P.kt X) (bw (vm M r L a op b))):=by
 obtain⟨j,hj,hr⟩:=C.room;unfold vm;split
 ·rename_i neg f h1 h2
  exact N6 M.sX hr h1 (hE a) (lP C hE h2).1 h
 split
 ·rename_i neg i h1 h2
  obtain⟨y,py,rfl,q1,q2,q3,q4⟩:=EI C h2;exact NX rfl hr h1 (hE a) q1 q2 q3 q4
 ·exact Il rfl hr (hE a) (hE b) h
theorem EK(C:CxOk M ai k L X)(hE:zL M X r L)(f:Str)(args:Bz):PE X (.Call (.Name f p) args [] pos) (tE (M.P.kt X) (xT M ai r L f args)):=by
 obtain⟨j,hj,hr⟩:=C.room;unfold xT;split
 case isFalse=>exact aP
 rename_i hs;have hA:=jj hE args hs;split
 ·rename_i ds i hf
  split
  case isFalse=>exact aP
  rename_i q;obtain⟨g1,g2⟩:=kO C q;cases args with
  |nil=>exact HZ (C.gm.fns f ds i hf) hr (by omega) g1 g2
  |cons a args=>exact s_call (C.gm.fns f ds i hf) hr (by omega) hA g1 g2 hs
 ·split
  ·rename_i c n hc
   split
   case isFalse=>exact aP
   rename_i q;rw[dc]at q;obtain⟨g1,g2⟩:=kO C q.1;cases args with
   |nil=>cases q.2
   |cons a args=>exact SE (C.gm.fz f c n hc) hr hj hA g1 g2 hs
  ·rename_i c hc
   split
   case isFalse=>exact aP
   rename_i q;rw[dc]at q;obtain⟨g1,g2⟩:=kO C q.1;cases args with
   |nil=>exact Nv (C.gm.z0 f c hc) g1 g2
   |cons a args=>cases q.2
  ·rename_i c hc
   split
   ·rename_i a
    split
    case isFalse=>exact aP
    rename_i q;obtain⟨g1,g2⟩:=kO C q;exact NQ (C.gm.cp f c hc) hr hj (hE a) g1 g2 (by simpa using hs)
   ·exact aP
  ·rename_i c i hc
   split
   case isFalse=>exact aP
   rename_i q;rw[dc]at q;obtain⟨g1,g2⟩:=kO C q.1;cases args with
   |nil=>cases q.2
   |cons a args=>exact NP (C.gm.nw f c i hc) hr hj hA g1 g2 hs
  ·split
   case isFalse=>exact aP
   rename_i hb;obtain⟨g1,g2,g3⟩:=fJ C hb;split
   ·rename_i a q e
    have e:=eq_of_beq e;subst e;rw[fF,dc]at hs;exact T_ C hE hb hs.1
   ·split
    ·rename_i y py e _
     have e:=eq_of_beq e;subst e;have main:PE X (.Call (.Name "len" p) [.Name y py] [] pos) (tE (M.P.kt X) (aR bJ (e9 [r.E L (.Name y py)]))):=K9 (D6 C.calm ("len",bJ) (er ..)) rfl g1 g2 hA hs;split
     ·rename_i i hi
      split
      ·rename_i q
       rw[dc]at q;obtain⟨l1,l2,l3,l4⟩:=iu C q.2;split
       ·exact Od rfl (by rw[C.N];exact ir hi) l2 l3 l4 g1 g2
       ·exact Ii rfl (by rw[C.N];exact ir hi) l2 l3 l4 g1 g2
      ·exact main
     ·exact main
    ·split
     ·rename_i a ha
      obtain⟨rfl,h2,h3,p1,ib,rfl⟩:=xX ha;obtain⟨k1,k2,k3⟩:=fJ C h2;exact Ep C.calm g2 k2 (hE a) g1 k1 h3
     split
     ·rename_i a ha
      obtain⟨rfl,h2,h3,p1,ib,rfl⟩:=vq ha;obtain⟨k1,k2,k3⟩:=fJ C h2;exact xG (Lp C.calm g2 k2 g1 k1 (hE a) h3)
     ·split
      ·rename_i g a Ua hg _ _ _ _
       exact K9 (D6 C.calm (f,g) (dw hg)) rfl g1 g2 hA hs
      ·exact aP
theorem oW{sc:Scope}(C:CxOk M ai k L X)(hf:∀x∈frees sc,sc.names.lookup x=some .free/\L.sc.names.lookup x=some .cell):∀{xs:Bi}{js:B1},idxs L.N xs=some js->(∀x∈xs,x∈frees sc)->fS X sc js xs
 |[],js,h,_=>by cases h;exact .nil
 |x::xs,js,h,hx=>by
  obtain⟨i,h1,h2⟩:=eM.mp (show(mi L.N x).bind _=some js from h);obtain⟨js',h3,rfl⟩:=cH.mp h2;obtain⟨f1,f2⟩:=hf x (hx x (er ..));refine .cons (by rw[C.N];exact ir h1) f1 ?_ (oW C hf h3 λy hy=>hx y (eF _ hy))
  show X.env.scope.names.lookup x=_;rw[C.sc];exact f2
theorem Bl{sc:Scope}{x:Str}(h:x∈frees sc):(x,NameKind.free)∈sc.names:=by
 unfold frees at h;obtain⟨q,h1,h2⟩:=B5.mp h;obtain⟨n,kk⟩:=q;split at h2
 ·rename_i e;cases h2;have e:kk=.free:=e;subst e;exact h1
 ·cases h2
theorem EL(C:CxOk M ai k L X)(sc:Scope):relabel sc X.env=EA sc L.sc:=by
 unfold relabel EA Env.kindOf;rw[C.sc]
theorem sY{N:Bi}{ok:Str->Bool}(hN:X.N.Nodup)(h:∀x i,ok x=true->mi N x=some i->X.N[i]?=some x/\Loc X.env.scope x/\(X.fn x=true\/X.env.scope.names.lookup x=some .local)):∀{es:Bz}{xs:Bi}{is:B1},namesOf es=some xs->xs.all ok=true->idxs N xs=some is ->
  PF X es (lK is)/\(assignEach es X.env).length=is.length/\(assignEach es X.env).findIdx? (·.1)=none
 |[],xs,is,h1,_,h3=>by
  cases h1;cases h3;exact⟨G2,rfl,rfl⟩
 |e::es,xs,is,h1,h2,h3=>by
  cases e<;>first|(cases h1;done)|skip
  rename_i x px;obtain⟨zs,h4,rfl⟩:=cH.mp (show(namesOf es).map (x::·)=some xs from h1)
  rw[fF,dc]at h2;obtain⟨i,h5,h6⟩:=eM.mp (show(mi N x).bind _=some is from h3);obtain⟨X_,h7,rfl⟩:=cH.mp h6;obtain⟨g1,g2,g3⟩:=h x i h2.1 h5;obtain⟨r1,r2,r3⟩:=sY hN h h4 h2.2 h7;refine⟨CH (rP hN g1 g2 g3) r1 rfl,?_,?_⟩
  ·show((false,_)::assignEach es X.env).length=_
   rw[dP,r2];rfl
  ·show List.findIdx? (·.1) ((false,_)::assignEach es X.env)=none
   rw[List.findIdx?_cons];simp only[r3];rfl
theorem Lv{B:KT}(hB:B.K=X.K){N:Bi}{ok:Str->Bool}{tg:Expr}{g:FG}{is:B1}(hc:X.calm=true)(hN:X.N.Nodup)(h:∀x i,ok x=true->mi N x=some i->X.N[i]?=some x/\Loc X.env.scope x/\(X.fn x=true\/X.env.scope.names.lookup x=some .local))
  (ht:P0 N ok tg=some (g,is)):∃gt,PG X tg gt/\qq B gt g is:=by
 cases tg<;>first|(cases ht;done)|skip
 ·rename_i x px
  replace ht:(if ok x=true then _ else none)=some (g,is):=ht
  split at ht
  ·rename_i q
   obtain⟨i,h1,h2⟩:=cH.mp ht;cases h2;obtain⟨g1,g2,g3⟩:=h x i q h1;exact⟨_,rP hN g1 g2 g3,zl i⟩
  ·cases ht
 ·rename_i es x1 tp
  replace ht:(namesOf es).bind _=some (g,is):=ht
  obtain⟨xs,h1,h2⟩:=eM.mp ht;split at h2
  ·rename_i q
   obtain⟨X_,h3,h4⟩:=cH.mp h2;cases h4;obtain⟨r1,r2,r3⟩:=sY hN h h1 q h3;refine⟨_,CI hc r1 r2 r3,?_⟩;rw[<- hB];exact Ed _ rfl
  ·cases h2
theorem OC{N:Bi}{ok:Str->Bool}{tg:Expr}{g:FG}{is:B1}(ht:P0 N ok tg=some (g,is)):∀i∈is,i<N.length:=by
 have lt:∀{x i},mi N x=some i->i<N.length:=λh=>(eA.mp (ir h)).1;cases tg<;>first|(cases ht;done)|skip
 ·rename_i x px
  replace ht:(if ok x=true then _ else none)=some (g,is):=ht
  split at ht
  ·obtain⟨i,h1,h2⟩:=cH.mp ht
   cases h2;intro j hj;rw[dB.mp hj];exact lt h1
  ·cases ht
 ·rename_i es x1 tp
  replace ht:(namesOf es).bind _=some (g,is):=ht
  obtain⟨xs,h1,h2⟩:=eM.mp ht;split at h2
  ·obtain⟨X_,h3,h4⟩:=cH.mp h2
   cases h4
   have:∀(xs:Bi)(is:B1),idxs N xs=some is->∀i∈is,i<N.length:=by
    intro xs
    induction xs with
    |nil=>intro is h;cases h;intro i hi;cases hi
    |cons x xs ih=>
     intro is h;obtain⟨i,h5,h6⟩:=eM.mp (show(mi N x).bind _=some is from h);obtain⟨is2,h7,rfl⟩:=cH.mp h6;intro j hj;rcases bA.mp hj with z|z
     ·rw[z];exact lt h5
     ·exact ih is2 h7 j z
   exact this xs _ h3
  ·cases h2
theorem zO{it:Expr}(h:isSet it=false):∀x,foldedSetIterable it X.env x=pure x:=λx=>by
 unfold foldedSetIterable;cases it<;>first|rfl|(cases h)
structure OD(M:Gm)(X:Cx)(r:Rc)(L:Lc)(elt tg iter:Expr)(ifs:Bz)(sc:Scope)(js:B1)(g:FG)(is:B1):Prop where
 sco:gx X sc
 fr:fS X sc js (frees sc)
 nd:(locals sc++frees sc).Nodup
 it:PI X tg iter (tI (M.P.kt X) (r.I L tg iter))
 ex:∃gt,(∀cl C fp s H,PG (X.block (locals sc++frees sc) sc cl C fp s H) tg gt)/\qq (M.P.kt X) gt g is
 ts:∀cl C fp s H,GN (X.block (locals sc++frees sc) sc cl C fp s H) ifs (tT (M.P.kt X) (Lq r (EB L sc) ifs))
 el:∀cl C fp s H,PE (X.block (locals sc++frees sc) sc cl C fp s H) elt (tE (M.P.kt X) (r.E (EB L sc) elt))
 lt:∀i∈is,i<(locals sc).length
 st:∀x,foldedSetIterable iter X.env x=pure x
theorem zP(R:xV M ai k r)(C:CxOk M ai k L X){elt tg iter:Expr}{ifs:Bz}{sc:Scope}{js:B1}{g:FG}{is:B1}(h:(Oj L sc&&decide ((locals sc++frees sc).Nodup)&&!isSet iter&&decide (ifs.length<=1))=true)(hj:idxs L.N (frees sc)=some js)
  (ht:P0 (locals sc) (λx=>decide (sc.names.lookup x=some .local)) tg=some (g,is)):OD M X r L elt tg iter ifs sc js g is:=by
 obtain⟨hE,hT,hI,hO⟩:=R L X C;simp only[dc,decide_eq_true_eq,Kn]at h;obtain⟨⟨⟨h1,Yb⟩,h3⟩,h4⟩:=h;unfold Oj at h1;simp only[dc,decide_eq_true_eq,gh]at h1;obtain⟨⟨k1,k2⟩,k3⟩:=h1;have qC:∀x∈frees sc,sc.names.lookup x=some .free/\L.sc.names.lookup x=some .cell:=λx hx=>by
  have:=(k2 _ (Bl hx)).2 rfl
  exact this
 have bs:gx X sc:=⟨k1,λq hq=>(k2 q hq).1.1,λq hq e=>(k2 q hq).1.2 e,λq hq e=>by
  show X.env.scope.names.lookup q.1=_;rw[C.sc];exact((k2 q hq).2 e).2⟩
 have Vx:∀cl CC fp s H,CxOk M ai k (EB L sc) (X.block (locals sc++frees sc) sc cl CC fp s H):=λcl CC fp s H=>⟨C.gm,rfl,EL C sc,C.calm,C.room⟩;refine⟨bs,oW C qC hj λ_ h=>h,Yb,hI tg iter,?_,λcl CC fp s H=>?_,λcl CC fp s H=>(R _ _ (Vx cl CC fp s H)).1 elt,OC ht,zO h3⟩
 ·-- the target's names are the block's own
  have key:∀cl CC fp s H,∀x i,decide (sc.names.lookup x=some .local)=true->mi (locals sc) x=some i->(X.block (locals sc++frees sc) sc cl CC fp s H).N[i]?=some x/\Loc (X.block (locals sc++frees sc) sc cl CC fp s H).env.scope x/\((X.block (locals sc++frees sc) sc cl CC fp s H).fn x=true\/(X.block (locals sc++frees sc) sc cl CC fp s H).env.scope.names.lookup x=some .local):=λcl CC fp s H x i hx hi=>by
   have hl:(relabel sc X.env).names.lookup x=some .local:=lookup_relabel_local (of_decide_eq_true hx);have h1:=ir hi;refine⟨?_,.inl hl,.inr hl⟩;show(locals sc++frees sc)[i]?=some x;rw[gO (eA.mp h1).1];exact h1
  cases tg<;>first|(cases ht;done)|skip
  ·rename_i x px
   replace ht:(if _ then _ else none)=some (g,is):=ht
   split at ht
   ·rename_i q
    obtain⟨i,h5,h6⟩:=cH.mp ht;cases h6;exact⟨_,λcl CC fp s H=>by
     obtain⟨g1,g2,g3⟩:=key cl CC fp s H x i q h5;exact rP Yb g1 g2 g3,zl i⟩
   ·cases ht
  ·rename_i es x1 tp
   replace ht:(namesOf es).bind _=some (g,is):=ht
   obtain⟨xs,h5,h6⟩:=eM.mp ht;split at h6
   ·rename_i q
    obtain⟨X_,h7,h8⟩:=cH.mp h6;cases h8;refine⟨Mi X.K is.length (lK is),λcl CC fp s H=>?_,Ed (B:=M.P.kt X) is rfl⟩;obtain⟨r1,r2,r3⟩:=sY (X:=X.block (locals sc++frees sc) sc cl CC fp s H) Yb (key cl CC fp s H) h5 q h7;exact CI (X:=X.block (locals sc++frees sc) sc cl CC fp s H) C.calm r1 r2 r3
   ·cases h6
 ·match ifs,h4 with
  |[],_=>exact SI
  |[c],_=>exact SJ ((R _ _ (Vx cl CC fp s H)).2.1 c)
theorem kP(R:xV M ai k r)(C:CxOk M ai k L X)(e:Expr):PE X e (tO (M.P.kt X) (rf r L e)):=by
 cases e<;>first|exact dY|skip
 rename_i elt gs sc p
 match gs with
 |[]=>exact dY
 |_::_::_=>exact dY
 |[⟨tg,iter,ifs,ay⟩]=>
  show PE X _ (tO (M.P.kt X) (oV r L elt ⟨tg,iter,ifs,ay⟩ sc));unfold oV;split
  case isFalse=>exact dY
  rename_i h;obtain⟨rfl,h⟩:=h;split
  ·rename_i js g is hj ht
   have K:=zP R C (elt:=elt) h hj ht;obtain⟨gt,h1,h2⟩:=K.ex;exact NF (locals sc) C.calm K.sco K.fr K.it h1 h2 K.ts K.el K.lt K.st
  ·exact dY
theorem EM(hE:zL M X r L):∀e:Option Expr,PO X e (tP (M.P.kt X) (Ol r L e))
 |none=>Sl
 |some e=>Sm (hE e)
theorem IB(h:isSlice e=false):ji e:=λo i=>by
 unfold subscripted;cases e<;>first|rfl|(cases h)
theorem IC{m:Str}{f:FE}:∀{args:Bz},Oq M r L o m args=some f->m=("get" : Str)/\∃b d fb,args=[b,d]/\vj M r L o=some fb/\f=N1 M.bc fb (r.E L b) (r.E L d)
 |[],h=>by cases h
 |[_],h=>by cases h
 |_::_::_::_,h=>by cases h
 |[b,d],h=>by
  dsimp only[Oq]at h;split at h
  ·rename_i e
   obtain⟨fb,h5,rfl⟩:=cH.mp h;exact⟨e,b,d,fb,rfl,h5,rfl⟩
  ·cases h
theorem Ub(hb:bU o=true)(hs:[a,b].all noStar=true)(hl:(cL.endLine == dq.line)=true):M2 X o "get" cL a b dq:=by
 refine⟨ie hb,jX hs (by simp),hl,?_⟩
 simp only[fF,J5,yG,dc]at hs;rw[aq hs.1,aq hs.2];rfl
theorem zQ{l:List (Nat×Nat)}{m:Str}(C:CxOk M ai k L X)(h:M.ms.lookup m=some l):∀c f,ak l ai c=some f->VB M.P X.prog X.w X.K X.mg X.base k c m f:=λc f hf=>by
 obtain⟨i,h1,rfl⟩:=cH.mp hf;exact C.gm.mts m l c i h h1
theorem EN{kk:Nat}(c:Const):PE X (.Constant c kk pos) (tE (M.P.kt X) (EC c)):=by
 cases c with
 |int i=>exact ku L6 λ_ _=>rfl
 |bool b=>exact ku Qh λ_ _=>rfl
 |none=>exact ku L7 λ_ _=>rfl
 |str s=>
  show PE X _ (tE _ (if s.length<=1000000 then cF (.str s.cps.toList)else bD))
  split
  ·rename_i h
   obtain⟨⟨l⟩⟩:=s;exact ku wY λ_ _=>⟨rfl,by rw[<- fH l];exact h⟩
  ·exact aP
 |_=>exact aP
theorem ID(C:CxOk M ai k L X)(x:Str):PE X (.Name x pos) (tE (M.P.kt X) (ED M L x)):=by
 unfold ED;split
 ·rename_i i hi
  split
  ·rename_i q
   obtain⟨l1,l2,l3,l4⟩:=iu C q;exact Dy (by rw[C.N];exact ir hi) l2 l3 l4
  ·exact aP
 ·split
  ·rename_i t ht
   split
   ·rename_i q
    obtain⟨g1,g2⟩:=kO C q;exact Ti (C.gm.cst _ _ ht) rfl g1 g2
   ·exact aP
  ·exact aP
theorem Uc(C:CxOk M ai k L X)(hE:zL M X r L){i:Expr}(h:ji i):PE X (.Subscript o i pos) (tE (M.P.kt X) (VG M r L o i)):=by
 unfold VG;split
 ·rename_i f hf
  obtain⟨j,hj,hr⟩:=C.room;exact Tr M.sX hr (lP C hE hf).1 (hE _) h
 split
 ·obtain⟨j,hj,hr⟩:=C.room
  exact TJ rfl hr (hE _) (hE _) h
 split
 ·rename_i y kk hk
  obtain⟨y',h1,h2⟩:=eM.mp hk;obtain⟨k',h2,h3⟩:=cH.mp h2;cases h3;obtain⟨py,rfl⟩:=eZ h1;split
  ·rename_i q
   rw[dc]at q;obtain⟨l1,l2,l3,l4⟩:=iu C q.2;exact NS (by rw[C.N];exact ir h2) l2 l3 l4 (hE _) h
  ·exact Ng rfl (hE _) (hE _) h
 ·exact Ng rfl (hE _) (hE _) h
theorem OE{q}(h:Iw e=some q):∃p,e=.FormattedValue q.1 q.2.1 q.2.2 p:=by
 cases e<;>first|(cases h;done)|(cases h;exact⟨_,rfl⟩)
theorem Ud(hE:zL M X r L)(es:Bz):PE X (.JoinedStr es pos) (tE (M.P.kt X) (joE r L es)):=by
 match es with
 |[]=>exact aP
 |[_]=>exact aP
 |[_,_]=>exact aP
 |_::_::_::_::_=>exact aP
 |[e,q,f]=>
  show PE X _ (tE (M.P.kt X) (match jy e,Iw q,jy f with|some x,some (a,cv,none),some y=>_|_,_,_=>bD))
  cases h1:jy e with
  |none=>exact aP
  |some x=>
  cases h2:Iw q with
  |none=>exact aP
  |some w=>
  obtain⟨a,cv,o⟩:=w;cases o with
  |some _=>exact aP
  |none=>
  cases h3:jy f with
  |none=>exact aP
  |some y=>
  obtain⟨k1,p1,rfl⟩:=str_inv h1;obtain⟨p2,rfl⟩:=OE h2;obtain⟨k3,p3,rfl⟩:=str_inv h3;show PE X _ (tE (M.P.kt X) (if _ then _ else bD))
  split
  ·rename_i h
   obtain⟨rfl,h1,h2⟩:=h;exact NR rfl (hE _) h1 h2
  ·exact aP
theorem OF(C:CxOk M ai k L X)(hE:zL M X r L)(o:Expr)(m:Str)(ap:Pos)(args:Bz)(cp:Pos):PE X (.Call (.Attribute o m ap) args [] cp) (tE (M.P.kt X) (Ot M ai r L o m ap args cp)):=by
 obtain⟨j,hj,hr⟩:=C.room;unfold Ot;split
 case isFalse=>exact aP
 rename_i h;simp only[dc,decide_eq_true_eq]at h;obtain⟨⟨⟨h1,h2⟩,h3⟩,h4⟩:=h;have hA:=jj hE args h2;split
 ·rename_i f hf
  obtain⟨rfl,b,d,fb,rfl,h5,rfl⟩:=IC hf;obtain⟨b1,b2,_⟩:=lP C hE h5;exact Tt M.sX hr b1 (hE b) (hE d) (Ub b2 h2 h4)
 split
 ·rename_i l hl
  cases args with
  |nil=>exact H0 (zQ C hl) hr (by omega) (hE o) (Lh h1 h2 (by omega) h4)
  |cons a args=>exact Nt (zQ C hl) hr (by omega) (hE o) hA h2 (Lh h1 h2 (by omega) h4)
 ·split
  ·rename_i g a Ua hg _
   exact So (Nn (m,g) (dw hg)) rfl (hE o) hA h1 h2 (by rw[dP]at h3;omega) h4
  ·exact aP
theorem OG(ks:List (Option Expr))(vs:Bz):PE X (.Dict ks vs pos) (tE (M.P.kt X) (Om ks vs)):=by
 unfold Om;split
 ·exact TL
 ·split
  ·rename_i l hl
   split
   ·rename_i q
    exact Oe hl (λz=>by rw[z]at q;cases q.2.2) q.1 q.2.1
   ·exact aP
  ·exact aP
theorem EO(R:xV M ai k r)(C:CxOk M ai k L X)(e:Expr):PE X e (tE (M.P.kt X) (Lr M ai r L e)):=by
 obtain⟨hE,hT,hI,hO⟩:=R L X C;cases e with
 |Constant c _ _=>exact EN c
 |Name x _=>exact ID C x
 |BinOp a op b _=>exact Se rfl _ (hE _) (hE _)
 |UnaryOp op a _=>cases op with
  |USub=>exact Sf rfl (hE _)
  |Not=>exact M9 (hE _)
  |_=>exact aP
 |BoolOp op es _=>cases op with
  |And=>exact vo hE _
  |Or=>exact zM hE _
 |Compare a ops bs _=>
  match ops,bs with
  |[op],[b]=>
   show PE X _ (tE (M.P.kt X) (if behindInMarks op b then bD else vm M r L a op b))
   split
   ·exact aP
   ·rename_i h
    exact IA C hE (by simpa using h)
  |[],_=>exact aP
  |_::_::_,_=>exact aP
  |[_],[]=>exact aP
  |[_],_::_::_=>exact aP
 |IfExp c a b _=>exact R5 (hT _) (hE _) (hE _)
 |Tuple es _ _=>
  show PE X _ (tE (M.P.kt X) (if es.all noStar then _ else bD))
  split
  ·rename_i h;exact RW (jj hE _ h)
  ·exact aP
 |List es _=>
  show PE X _ (tE (M.P.kt X) (if es.all noStar then _ else bD))
  split
  ·rename_i h;exact RY (jj hE _ h)
  ·exact aP
 |Subscript o i _=>
  show PE X _ (tE (M.P.kt X) (Oo M r L o i));cases hs:isSlice i with
  |false=>
   rw[show Oo M r L o i=VG M r L o i by cases i<;>first|rfl|cases hs]
   exact Uc C hE (IB hs)
  |true=>
   cases i<;>first|(cases hs;done)|skip
   rename_i lo hi st _;cases st with
   |none=>exact Xu rfl (hE _) (EM hE _) (EM hE _)
   |some _=>exact aP
 |Attribute o f _=>
  show PE X _ (tE (M.P.kt X) (if bU o then _ else bD))
  split
  ·rename_i h
   split
   ·rename_i j hj
    split
    ·exact N8 C.gm.pg M.sX (ir hj) (hE _) h
    ·exact K_ C.gm.pg (ir hj) (hE _) h
   ·exact aP
  ·exact aP
 |JoinedStr vs _=>exact Ud hE vs
 |Dict ks vs _=>exact OG ks vs
 |ListComp elt gs sc p=>exact xG (kP R C _)
 |Call f args ks cp=>
  cases ks with
  |cons _ _=>exact aP
  |nil=>cases f with
   |Name f _=>exact EK C hE _ _
   |Attribute o m ap=>exact OF C hE o m ap args cp
   |_=>exact aP
 |_=>exact aP
theorem ER(R:xV M ai k r)(C:CxOk M ai k L X)(e:Expr):PT X e (tT (M.P.kt X) (stepT M r L e)):=by
 obtain⟨hE,hT,hI,hO⟩:=R L X C;cases e with
 |BoolOp op es _=>cases op with
  |And=>exact(vp hT _).pt
  |Or=>exact(zN hT _).pt
 |UnaryOp op a _=>cases op with
  |Not=>exact R3 (hT _)
  |_=>exact K5 (hE _) rfl λiB=>rfl
 |Compare a ops bs _=>
  match ops,bs with
  |[op],[b]=>
   show PT X _ (tT (M.P.kt X) (if behindInMarks op b then qm else bw (vm M r L a op b)))
   split
   ·exact jL
   ·rename_i h
    exact EJ C hE (by simpa using h)
  |[],_=>exact jL
  |_::_::_,_=>exact jL
  |[_],[]=>exact jL
  |[_],_::_::_=>exact jL
 |IfExp _ _ _ _=>exact jL
 |_=>exact K5 (hE _) rfl λiB=>rfl
theorem IE{e:Expr}{args:Bz}(h:zI e=some args):∃p pos,e=.Call (.Name "range" p) args [] pos:=by
 obtain⟨⟨f,as,ks⟩,h1,hh⟩:=eM.mp h;clear h;obtain⟨p,pos,rfl⟩:=eS h1;have h:=hh;clear hh;split at h
 ·rename_i q
  obtain⟨rfl,q⟩:=q;cases h;rw[show ks=[]from Cf.mp q];exact⟨_,_,rfl⟩
 ·cases h
theorem ES{e a:Expr}{n:Int}(h:vn e=some (a,n)):∃p pos,(n=0/\e=.Call (.Name "enumerate" p) [a] [] pos)\/(n=1/\∃k1 p1 kp,e=.Call (.Name "enumerate" p) [a] [⟨some (Str.ofString "start"),.Constant (.int 1) k1 p1,kp⟩] pos):=by
 obtain⟨⟨f,as,ks⟩,h1,hh⟩:=eM.mp h;clear h;obtain⟨p,pos,rfl⟩:=eS h1;have h:=hh;clear hh;split at h
 case isFalse=>cases h
 rename_i q
 replace q:f=("enumerate" : Str):=q
 subst q
 match as,ks,h with
 |[a'],[],h=>cases h;exact⟨_,_,.inl ⟨rfl,rfl⟩⟩
 |[a'],[⟨an,v,kp⟩],h=>
  dsimp only at h;cases hc:kL v with
  |none=>rw[hc]at h;cases h
  |some c=>
   rw[hc]at h;cases c<;>first|(cases h;done)|skip
   obtain⟨k1,p1,rfl⟩:=qX hc;dsimp only at h;split at h
   ·rename_i q;obtain⟨rfl,rfl⟩:=q;cases h;exact⟨_,_,.inr ⟨rfl,_,_,_,rfl⟩⟩
   ·cases h
theorem IF(h:EE e=some a):∃p pos,e=.Call (.Name "reversed" p) [a] [] pos/\noStar a=true:=by
 obtain⟨⟨f,as,ks⟩,h1,hh⟩:=eM.mp h;clear h;obtain⟨p,pos,rfl⟩:=eS h1
 match as,ks,hh with
 |[a'],[],h=>
  dsimp only at h;split at h
  ·rename_i q
   obtain⟨rfl,q⟩:=q;cases h;exact⟨_,_,rfl,q⟩
  ·cases h
theorem IG(C:CxOk M ai k L X)(hE:zL M X r L)(f:Str)(args:Bz):PE X (.Call (.Name f p) args [] pos) (tO (M.P.kt X) (Ov M r L f args)):=by
 unfold Ov;split
 case isFalse=>exact dY
 rename_i hb;obtain⟨g1,g2,g3⟩:=fJ C hb;split
 ·rename_i a ha
  obtain⟨rfl,h2,h3,p1,ib,rfl⟩:=vq ha;obtain⟨k1,k2,k3⟩:=fJ C h2;exact Lp C.calm g2 k2 g1 k1 (hE a) h3
 ·split
  ·split
   ·rename_i q
    obtain⟨rfl,q⟩:=q;exact Tz rfl g2 g1 (hE _) q
   ·exact dY
  ·exact dY
theorem ET(R:xV M ai k r)(C:CxOk M ai k L X)(tg e:Expr):PI X tg e (tI (M.P.kt X) (stepI M r L tg e)):=by
 obtain⟨hE,hT,hI,hO⟩:=R L X C;unfold stepI;split
 ·rename_i args ha
  obtain⟨p,pos,rfl⟩:=IE ha;split
  case isFalse=>exact uY
  rename_i h;rw[dc]at h;obtain⟨g1,g2,_⟩:=fJ C h.1;have hs:=h.2;split
  ·exact Eg g1 g2 (hE _) (by simpa using hs)
  ·simp only[fF,dc]at hs
   exact Eh g1 g2 (hE _) (hE _) hs.1 hs.2.1
  ·exact Oc g1 g2 (hE _) (hE _) (hE _) hs
  ·exact uY
 ·split
  ·rename_i a n Yc
   split
   case isFalse=>exact uY
   rename_i h;simp only[dc]at h;obtain⟨⟨h1,h2⟩,h3⟩:=h;obtain⟨g1,g2,_⟩:=fJ C h1;cases tg<;>first|(cases h2;done)|skip
   obtain⟨p,pos,h4|h4⟩:=ES Yc
   ·obtain⟨rfl,rfl⟩:=h4
    exact Tc rfl g1 g2 (hE a) h3
   ·obtain⟨rfl,k1,p1,kp,rfl⟩:=h4
    exact Td rfl g1 g2 (hE a) h3
  split
  ·rename_i a hrv
   obtain⟨p,pos,rfl,h2⟩:=IF hrv;split
   ·rename_i h1
    obtain⟨g1,g2,_⟩:=fJ C h1;exact TF g1 g2 (hE a) h2
   ·exact uY
  ·split
   ·rename_i h
    cases tg<;>first|(cases h;done)|skip
    exact SH rfl (hE e)
   ·exact Lb rfl (hE e)
theorem EU(R:xV M ai k r)(C:CxOk M ai k L X)(e:Expr):PE X e (tO (M.P.kt X) (Ls M r L e)):=by
 obtain⟨hE,hT,hI,hO⟩:=R L X C;cases e with
 |List es _=>
  show PE X _ (tO (M.P.kt X) (if es.all noStar then _ else fV))
  split
  ·rename_i h;exact M6 (jj hE _ h)
  ·exact dY
 |ListComp elt gs sc p=>exact kP R C _
 |IfExp c a b _=>exact Tw (hT _) (hO _) (hO _)
 |BinOp a op b _=>cases op<;>first|exact N_ (hE _) (hE _)|exact Oa (hE _) (hE _)|exact dY
 |Call f args ks _=>cases ks with
  |cons _ _=>exact dY
  |nil=>cases f<;>first|exact IG C hE _ _|exact dY
 |_=>exact dY
theorem c_:∀n,xV M ai k (comp M ai n)
 |0=>λL X C=>⟨λ_=>aP,λ_=>jL,λ_ _=>uY,λ_=>dY⟩
 |n+1=>λL X C=>⟨EO (c_ n) C,ER (c_ n) C,ET (c_ n) C,EU (c_ n) C⟩
structure EV(M:Gm)(ai:Nat->Fn)(k:Nat)(L:Lc)(X:Cx):Prop extends CxOk M ai k L X where
 fn:∀x,X.fn x=true
 nd:X.N.Nodup
 xe:X.xe=λ_ _=>False
theorem jR{t:Option Expr}{l:Nat}(h:xU e=false):swapsWith e t l X.env=pure false:=by
 cases e<;>first|rfl|(cases h)
theorem OH(C:CxOk M ai k L X){tp:Pos}{l:Nat}(h:xU e=true->∃elt gs sc p,e=.ListComp elt gs sc p):swapsWith e (some (.Name x tp)) l X.env=pure (EF L x tp e):=by
 cases e<;>first|rfl|skip
 ·unfold swapsWith EF Env.blockKind Env.kindOf
  rw[C.sc];rfl
 ·obtain⟨_,_,_,_,z⟩:=h rfl;cases z
 ·obtain⟨_,_,_,_,z⟩:=h rfl;cases z
theorem passes(C:EV M ai k L X):PassesOwn (model X.prog X.w) X.A X.env X.xe:=by rw[C.xe];exact PassesOwn.never
theorem zR(h:zK e=true):∃dp,e=.Dict [] [] dp:=by
 cases e<;>first|(cases h;done)|skip
 rename_i ks vs dp
 match ks,vs,h with
 |[],[],_=>exact⟨_,rfl⟩
theorem OI(h:xU e=true):zK e=false:=by
 cases e<;>first|rfl|(cases h)
theorem II(C:EV M ai k L X)(n:Nat)(e:Expr):PS X (.Assign [.Name x cJ] e pos) (tS (M.P.kt X) (EG M ai n L x e)):=by
 obtain⟨hE,hT,hI,hO⟩:=c_ (M:=M) (ai:=ai) (k:=k) n L X C.toCxOk;unfold EG;split
 case h_2=>exact cQ
 rename_i i hi;split
 case isFalse=>exact cQ
 rename_i q;obtain⟨l1,l2,l3,l4⟩:=iu C.toCxOk q;have hN:X.N[i]?=some x:=by rw[C.N];exact ir hi
 have hf:X.fn x=true\/X.env.scope.names.lookup x=some .local:=.inl (C.fn x);by_cases hlc:xU e=false
 ·split
  ·split
   ·rename_i hd
    obtain⟨dp,rfl⟩:=zR hd;exact NY C.nd hN l1 hf
   ·exact Le C.nd hN l1 (hO e) (jR hlc) hf
  ·exact Ld C.nd hN l1 (hE e) (jR hlc) hf
 ·rw[OI (by simpa using hlc),if_neg dC]
  cases n with
  |zero=>
   split
   ·exact λ_ _ _ _ _ _ ⟨_,_,_,_,_,h,_⟩=>by cases h
   ·exact λ_ _ _ _ _ _ ⟨_,_,_,_,_,h,_⟩=>by cases h
  |succ n=>
   cases e with
   |ListComp elt gs sc cp=>
    have R:=c_ (M:=M) (ai:=ai) (k:=k) n;have main:PS X (.Assign [.Name x cJ] (.ListComp elt gs sc cp) pos) (tS (M.P.kt X) (gj i (rf (comp M ai n) L (.ListComp elt gs sc cp))))/\PS X (.Assign [.Name x cJ] (.ListComp elt gs sc cp) pos) (tS (M.P.kt X) (aG i (eX (rf (comp M ai n) L (.ListComp elt gs sc cp))))):=by
     have sw:=OH (X:=X) (x:=x) (tp:=cJ) (l:=pos.line) (e:=.ListComp elt gs sc cp) C.toCxOk (λ_=>⟨_,_,_,_,rfl⟩);cases hb:EF L x cJ (.ListComp elt gs sc cp)with
     |false=>
      rw[hb]at sw;exact⟨Le C.nd hN l1 (kP R C.toCxOk _) sw hf,Ld C.nd hN l1 (xG (kP R C.toCxOk _)) sw hf⟩
     |true=>
      rw[hb]at sw;have bad:PS X (.Assign [.Name x cJ] (.ListComp elt gs sc cp) pos) (tS (M.P.kt X) (gj i fV))/\PS X (.Assign [.Name x cJ] (.ListComp elt gs sc cp) pos) (tS (M.P.kt X) (aG i (eX fV))):=
       ⟨λ_ _ _ _ _ _ ⟨_,_,_,_,_,h,_⟩=>(by cases h),λ_ _ _ _ _ _ ⟨_,_,_,_,_,h,_⟩=>(by cases h)⟩
      match gs with
      |[]=>exact bad
      |_::_::_=>exact bad
      |[⟨tg,iter,ifs,ay⟩]=>
       rw[show rf (comp M ai n) L (.ListComp elt [⟨tg,iter,ifs,ay⟩] sc cp)=oV (comp M ai n) L elt ⟨tg,iter,ifs,ay⟩ sc from rfl];unfold oV;split
       case isFalse=>exact bad
       rename_i h;obtain⟨rfl,h⟩:=h;split
       ·rename_i js g is hj ht
        have K:=zP R C.toCxOk (elt:=elt) h hj ht;obtain⟨gt,h1,h2⟩:=K.ex;exact NK (locals sc) C.calm C.nd hN l1 K.sco K.fr K.it h1 h2 K.ts K.el K.lt K.st hf sw
       ·exact bad
    split
    ·exact main.1
    ·exact main.2
   |SetComp a b c d=>
    split
    ·exact λ_ _ _ _ _ _ ⟨_,_,_,_,_,h,_⟩=>by cases h
    ·exact λ_ _ _ _ _ _ ⟨_,_,_,_,_,h,_⟩=>by cases h
   |DictComp a b c d f=>
    split
    ·exact λ_ _ _ _ _ _ ⟨_,_,_,_,_,h,_⟩=>by cases h
    ·exact λ_ _ _ _ _ _ ⟨_,_,_,_,_,h,_⟩=>by cases h
   |_=>exact absurd rfl hlc
theorem IJ{mu:Bi}{e a:Expr}{y:Str}(h:zJ mu e=some (y,a)):noStar a=true/\∃py ap cp,e=.Call (.Attribute (.Name y py) "append" ap) [a] [] cp/\(ap.endLine == cp.line)=true:=by
 obtain⟨⟨f,as,ks,cp⟩,h1,h⟩:=eM.mp h;obtain⟨w,h2,h⟩:=eM.mp h;obtain⟨y',h3,h⟩:=eM.mp h
 match as,ks,h1,h with
 |[a'],[],h1,h=>
  dsimp only at h;split at h
  ·rename_i q
   obtain⟨q1,_,q3,q4⟩:=q;cases h;obtain⟨py,h3⟩:=eZ h3;rw[lM h1,kJ h2,h3,q1];exact⟨q3,_,_,_,rfl,q4⟩
  ·cases h
theorem kQ{es:Bz}{x1:Nat}{tp:Pos}(h:Lu e=true):swappedStores [.Tuple es x1 tp] e X.env=pure none:=by
 cases e<;>first|rfl|skip
 rename_i vs _ _;unfold swappedStores;dsimp only;rw[show vs.all (foldedForSure 8)=true from h];split
 ·rfl
 split
 ·rfl
 split
 ·rfl
 rfl
theorem Yd(C:EV M ai k L X):∀x i,kN L x=true->mi L.N x=some i->X.N[i]?=some x/\Loc X.env.scope x/\(X.fn x=true\/X.env.scope.names.lookup x=some .local):=λx i h1 h2=>⟨by rw[C.N];exact ir h2,(iu C.toCxOk h1).1,.inl (C.fn x)⟩
theorem IK(C:EV M ai k L X)(n:Nat)(es:Bz){x1:Nat}{tp:Pos}(e:Expr):PS X (.Assign [.Tuple es x1 tp] e pos) (tS (M.P.kt X) (tupS M ai n L es e)):=by
 obtain⟨hE,hT,hI,hO⟩:=c_ (M:=M) (ai:=ai) (k:=k) n L X C.toCxOk;unfold tupS;split
 ·exact cQ
 ·rename_i h
  simp only[yF,not_or,Bool.not_eq_true,Bool.not_eq_eq_eq_not,Cn,Ko]at h;obtain⟨⟨h1,h2⟩,h3⟩:=h;split
  ·rename_i g ht
   obtain⟨xs,h4,h5⟩:=eM.mp ht;split at h5
   case isFalse=>cases h5
   rename_i q;rw[dc]at q;obtain⟨is,h6,rfl⟩:=cH.mp h5;obtain⟨r1,r2,r3⟩:=sY C.nd (Yd C) h4 q.1 h6;exact Lf (hE e) (Of C.calm r1 r2 r3) (Og (B:=M.P.kt X) _ rfl) (show swapsWith e (some (.Tuple es x1 tp)) pos.line X.env=pure false from jR h1) (kQ (by simpa using h2)) rfl
  split
  ·rename_i g is ht
   obtain⟨gt,q1,q2⟩:=Lv (B:=M.P.kt X) (tg:=.Tuple es x1 tp) rfl C.calm C.nd (Yd C) ht;exact Lf (hE e) q1 q2 (show swapsWith e (some (.Tuple es x1 tp)) pos.line X.env=pure false from jR h1) (kQ (by simpa using h2)) rfl
  ·exact cQ
theorem OJ(C:EV M ai k L X)(n:Nat)(f:Str)(e:Expr):PE X e (tE (M.P.kt X) (Ow M ai n L f e)):=by
 obtain⟨hE,hT,hI,hO⟩:=c_ (M:=M) (ai:=ai) (k:=k) n L X C.toCxOk;unfold Ow;split
 ·split
  ·rename_i hd
   obtain⟨dp,rfl⟩:=zR hd;exact N3 M.sX M.TV
  ·exact N2 M.sX M.TV (hO e)
 ·exact hE e
theorem EX{f:Str}{fp:Pos}{l:Nat}:swapsWith e (some (.Attribute o f fp)) l X.env=pure false:=by
 cases e<;>rfl
theorem IL(C:EV M ai k L X)(n:Nat)(o:Expr)(f:Str){fp:Pos}(e:Expr):PS X (.Assign [.Attribute o f fp] e pos) (tS (M.P.kt X) (Ox M ai n L o f e)):=by
 obtain⟨hE,hT,hI,hO⟩:=c_ (M:=M) (ai:=ai) (k:=k) n L X C.toCxOk;unfold Ox;split
 ·rename_i j hj
  exact SY C.gm.pg (ir hj) (hE o) (OJ C n f e) EX
 ·exact cQ
theorem IM(C:EV M ai k L X)(n:Nat)(o b:Expr){sp:Pos}(e:Expr):PS X (.Assign [.Subscript o b sp] e pos) (tS (M.P.kt X) (Oz M ai n L o b e)):=by
 obtain⟨hE,hT,hI,hO⟩:=c_ (M:=M) (ai:=ai) (k:=k) n L X C.toCxOk;obtain⟨j,hj,hr⟩:=C.room;unfold Oz;split
 ·exact cQ
 rename_i h;split
 ·rename_i f hf
  exact Tq M.sX hr (hE e) (lP C.toCxOk hE hf).1 (hE b) (jR (by simpa using h))
 split
 ·rename_i i hi
  obtain⟨y,h1,h2⟩:=eM.mp hi;obtain⟨py,rfl⟩:=eZ h1;split at h2
  ·rename_i q
   obtain⟨l1,l2,l3,l4⟩:=iu C.toCxOk q;split
   ·exact cQ
   ·rename_i hs
    exact XX hr (hE b) (hE e) (by rw[C.N];exact ir h2) l2 l3 l4 (jR (by simpa using h)) (by simpa using hs)
  ·cases h2
 ·exact cQ
theorem IP(C:EV M ai k L X)(n:Nat)(t:Expr)(op:Operator)(e:Expr):PS X (.AugAssign t op e pos) (tS (M.P.kt X) (OA M ai n L t op e)):=by
 obtain⟨hE,hT,hI,hO⟩:=c_ (M:=M) (ai:=ai) (k:=k) n L X C.toCxOk;unfold OA;split
 ·rename_i o j hk
  obtain⟨q,h1,h2⟩:=eM.mp hk;obtain⟨j',h2,h3⟩:=cH.mp h2;cases h3;rw[kJ h1];split
  ·rename_i e;subst e
   exact Tv C.gm.pg (ir h2) (hE _) (hE _)
  ·exact cQ
 split
 case h_2=>exact cQ
 rename_i x i hk;obtain⟨x',h1,h2⟩:=eM.mp hk;obtain⟨i',h2,h3⟩:=cH.mp h2;cases h3;obtain⟨py,rfl⟩:=eZ h1;split
 ·rename_i q
  obtain⟨rfl,q⟩:=q;obtain⟨l1,l2,l3,l4⟩:=iu C.toCxOk q;exact Th C.nd (by rw[C.N];exact ir h2) l1 (hE _) (.inl (C.fn _))
 ·exact cQ
theorem IQ{f:FE}(h:TY M r L e=some (f,a)):∃o ap cp,e=.Call (.Attribute o "append" ap) [a] [] cp/\vj M r L o=some f/\noStar a=true/\(ap.endLine == cp.line)=true:=by
 obtain⟨⟨g,as,ks,cp⟩,h1,h⟩:=eM.mp h;obtain⟨w,h2,h⟩:=eM.mp h;obtain⟨f',h3,h⟩:=eM.mp h
 match as,ks,h1,h with
 |[a'],[],h1,h=>
  dsimp only at h;split at h
  ·rename_i q
   obtain⟨q1,q3,q4⟩:=q;cases h;rw[lM h1,kJ h2,q1];exact⟨_,_,_,rfl,h3,q3,q4⟩
  ·cases h
theorem OL(C:EV M ai k L X)(n:Nat)(e:Expr):PS X (.Expr e pos) (tS (M.P.kt X) (X6 M ai n L e)):=by
 obtain⟨hE,hT,hI,hO⟩:=c_ (M:=M) (ai:=ai) (k:=k) n L X C.toCxOk;unfold X6;split
 ·rename_i f a ha
  obtain⟨o,ap,cp,rfl,ho,h1,h2⟩:=IQ ha;obtain⟨b1,b2,_⟩:=lP C.toCxOk hE ho;exact N4 M.sX b1 b2 (hE a) h1 h2
 split
 ·rename_i y a ha
  obtain⟨h1,py,ap,cp,rfl,h2⟩:=IJ ha;split
  ·rename_i i hi
   split
   ·rename_i q
    obtain⟨l1,l2,l3,l4⟩:=iu C.toCxOk q;exact SW (hE a) (by rw[C.N];exact ir hi) l2 l3 l4 h1 h2
   ·exact cQ
  ·exact cQ
 ·split
  ·exact cQ
  ·rename_i h
   exact NN (hE e) (jR (by simpa using h))
theorem EY(C:EV M ai k L X)(n:Nat){rS:Lc->Ee->FS}(hS:∀NG,j8 X NG (tS (M.P.kt X) (rS L NG)))(st:Stmt):PS X st (tS (M.P.kt X) (X7 M ai n rS L st)):=by
 obtain⟨hE,hT,hI,hO⟩:=c_ (M:=M) (ai:=ai) (k:=k) n L X C.toCxOk;cases st with
 |Assign ts e pos=>
  match ts with
  |[]=>exact cQ
  |_::_::_=>exact cQ
  |[t]=>cases t with
   |Name x _=>exact II C n _
   |Tuple es _ _=>exact IK C n es e
   |Attribute o f _=>exact IL C n o f e
   |Subscript o b _=>exact IM C n o b e
   |_=>exact cQ
 |AugAssign t op e pos=>exact IP C n t op e
 |Expr e pos=>exact OL C n e
 |Return o pos=>cases o with
  |none=>exact NL
  |some e=>exact SS (hE _)
 |If c a b pos=>exact XG (hT _) (hS _) (hS _)
 |For tg it body oe pos=>cases oe with
  |cons _ _=>exact cQ
  |nil=>
   show PS X _ (tS (M.P.kt X) (OB M ai n L (rS L body) tg it));unfold OB;split
   ·exact cQ
   ·rename_i h
    split
    ·rename_i g is ht
     obtain⟨gt,q1,q2⟩:=Lv (B:=M.P.kt X) rfl C.calm C.nd (Yd C) ht;exact SX C.calm (hI tg it) q1 q2 (hS body) (passes C) (zO (by simpa using h))
    ·exact cQ
 |While c body oe pos=>cases oe with
  |cons _ _=>exact cQ
  |nil=>exact Ia _ (hT _) (hS _) (passes C)
 |Try body hs oe fb pos=>
  match hs,oe,fb with
  |[],_,_=>exact cQ
  |_::_,_::_,_=>exact cQ
  |_::_,[],_::_=>exact cQ
  |_::_,[],[]=>exact Tj C.xe (hS _)
 |Pass _=>exact NI
 |Break _=>exact H_
 |Continue _=>exact NJ
 |_=>exact cQ
theorem jk(n:Nat):∀(m:Nat)(L:Lc)(X:Cx),EV M ai k L X->∀NG,j8 X NG (tS (M.P.kt X) (lO M ai n m L NG))
 |0,_,_,_,_=>SN
 |m+1,L,X,C,[]=>SO
 |m+1,L,X,C,[st]=>SQ (EY C n (jk n m L X C) st)
 |m+1,L,X,C,st::s2::rest=>NH (EY C n (jk n m L X C) st) (jk n m L X C (s2::rest))
structure Fe where
 cls:Option Str
 x:Str
 qual:Str
 st:Stmt
 N:Bi
 ps:Bi
 mu:Bi
 sl:Bool
 ds:FK
def noFn:Fn:=λ_ _=>.bad
def Ue(b:Bool)(f:Fn):Fn:=if b then aQ f else f
def EZ(M:Gm)(ai:Nat->Fn)(e:Fe):Fn:=Ue e.sl (aK e.ps.length e.N.length (lO M ai 60 200 ⟨e.N,aD e.st,e.mu⟩ (cU e.st)))
def jz(M:Gm)(Ft:List Fe):Nat->Nat->Fn
 |0,_=>noFn
 |n+1,i=>match Ft[i]? with
  |some e=>EZ M (jz M Ft n) e
  |none=>noFn
section
def E1(K:bu)(x:Str):Option Addr:=match pY K mainGlobals x with
 |some (some (.ref a))=>some a
 |_=>none
theorem kR{x:Str}{a:Addr}(h:E1 K x=some a):pY K mainGlobals x=some (some (.ref a)):=by
 unfold E1 at h;split at h
 ·rename_i e;cases h;exact e
 ·cases h
def Ye(K:bu)(C:Addr)(m:Str):Option Addr:=match gE K (.ref C) m with
 |some (some (.ref a))=>some a
 |_=>none
def VI(K:bu)(C:Addr)(ns:Bi):Bool:=BK K C Str.empty&&yp K C&&BQ K C&&decide (gE K (.ref C) "__setattr__" = some (some (.builtin "object.__setattr__"))) &&
 decide (gE K (.ref C) "__class__" = some (some (.builtin "object.__class__")))&&decide (yt K C (.type "object")=some true)&&ns.all (λf=>decide (gE K (.ref C) f=some none))&&decide ns.Nodup&&decide (ns.length<=100)
def subB(K:bu)(cn:Bi)(C:Addr)(l:B1):Bool:=(b9 cn.length).all λd=>match cn[d]? with
 |none=>true
 |some n=>(match E1 K n with
  |some D=>decide (rB K (.ref C) (.ref D)=some (decide (d∈l)))
  |none=>false)
def Ug(K:bu)(P:Pg):Bool:=(b9 P.cn.length).all λc=>match P.cn[c]? with
 |none=>true
 |some n=>(match E1 K n,P.fn[c]?,P.sub[c]? with
  |some C,some ns,some l=>VI K C ns&&subB K P.cn C l
  |_,_,_=>false)
def gtB(K:bu):Bool:=decide (yq K (.builtin "object.__class__") "__get__" = some (some (.builtin "getset_descriptor.__get__")))&&decide (yr K (.builtin "object.__class__")=some true)
def OM(K:bu)(mg:Str->D1):Prop:=∀x o,pY K mainGlobals x=some o->mg x=o
theorem ON{h:Heap}(X:K.In h)(G:h.Ns mainGlobals mg):OM K mg:=λx o e=>by
 cases o with
 |none=>exact PySem.W.mg_none_of X G e
 |some v=>exact PySem.W.mg_of X G e
theorem vt{P:Pg}(h:Ug K P=true){c:Nat}{n:Str}(hc:P.cn[c]?=some n):∃C ns l,E1 K n=some C/\P.fn[c]?=some ns/\P.sub[c]?=some l/\VI K C ns=true/\subB K P.cn C l=true:=by
 unfold Ug at h
 have:=gh.mp h c (pZ.mpr (eA.mp hc).1)
 rw[hc]at this;dsimp only at this;split at this
 ·rename_i C ns l h1 h2 h3
  rw[dc]at this;exact⟨C,ns,l,h1,h2,h3,this.1,this.2⟩
 ·cases this
theorem sZ(g:OM K mg){n:Str}{C:Addr}{ns:Bi}(ha:E1 K n=some C)(h:VI K C ns=true):PU K mg n ns C:=by
 unfold VI at h;simp only[dc,decide_eq_true_eq]at h;obtain⟨⟨⟨⟨⟨⟨⟨⟨h1,h2⟩,h3⟩,h4⟩,h5⟩,h6⟩,h7⟩,h8⟩,h9⟩:=h;have a:=kR ha;exact⟨a,g _ _ a,h8,h9,⟨h1,h2,h3,h4⟩,λf hf=>show gE K (.ref C) f=some none from of_decide_eq_true (gh.mp h7 f hf),h5,h6⟩
theorem Uh{P:Pg}(g:OM K mg)(h:Ug K P=true)(ht:gtB K=true):mR K mg P:=by
 refine⟨λc n ns h1 h2=>?_,λc d n n' C D l h1 h2 h3 h4 h5=>?_,?_⟩
 ·obtain⟨C,Du,l,ha,hn,_,hb,_⟩:=vt h h1
  rw[h2]at hn;cases hn;exact⟨C,sZ g ha hb⟩
 ·obtain⟨C',Du,l',ha,_,hl,_,hs⟩:=vt h h1
  rw[h5]at hl;cases hl;have e:=(g _ _ (kR ha)).symm.trans h3;cases e;unfold subB at hs
  have:=gh.mp hs d (pZ.mpr (eA.mp h2).1)
  rw[h2]at this;dsimp only at this;split at this
  ·rename_i D' hd
   have e:=(g _ _ (kR hd)).symm.trans h4;cases e;exact of_decide_eq_true this
  ·cases this
 ·unfold gtB at ht
  rw[dc]at ht;exact⟨of_decide_eq_true ht.1,of_decide_eq_true ht.2⟩
def OO(K:bu)(e:Fe):Option Addr:=match e.cls with
 |none=>E1 K e.x
 |some c=>(E1 K c).bind λC=>Ye K C e.x
def Lw(K:bu)(e:Fe):Option FuncData:=(OO K e).bind λf=>match K.lookup f with
 |some ⟨_,_,.func fd,_⟩=>some fd
 |_=>none
def E2(e:Fe)(fd:FuncData):FuncData:=Aw e.x e.qual (kj e.st) (cU e.st) (aD e.st) fd.defaults fd.kwdefaults fd.doc fd.pyModule fd.annotations fd.code fd.closureTuple
def scB(e:Fe):Bool:=decide ((aD e.st).kind=.function)&&!(aD e.st).isCoroutine&&!(aD e.st).isGenerator&&decide e.N.Nodup&&decide (e.N.take e.ps.length=e.ps)&&e.ps.all (λx=>decide ((aD e.st).names.lookup x=some .local) ||decide ((aD e.st).names.lookup x=some .cell))&&(aD e.st).names.all (λy=>decide (y.2≠.free))
def zS:T->Value->Bool
 |.int i,.int j _=>decide (i=j)
 |.str l,.str s _=>decide (s.cps.toList=l)&&decide (l.length<=1000000)
 |.bl b,.bool c=>b == c
 |.non,.none=>true
 |_,_=>false
def eE:T->V
 |.int i=>.int i
 |.str l=>SV l
 |.bl b=>.bl b
 |_=>.non
theorem zT{t:T}{u:Value}(h:zS t u=true):RelV (eE t) u/\∀(B:KT)al H,Rep B al H t (eE t):=by
 unfold zS at h;split at h
 ·have h:=of_decide_eq_true h
  subst h;exact⟨⟨_,rfl⟩,λ_ _ _=>rfl⟩
 ·rename_i l s tk
  rw[dc]at h;have h1:=of_decide_eq_true h.1;subst h1;exact⟨⟨tk,rfl⟩,λ_ _ _=>⟨rfl,of_decide_eq_true h.2⟩⟩
 ·have h:=eq_of_beq h
  subst h;exact⟨rfl,λ_ _ _=>rfl⟩
 ·exact⟨rfl,λ_ _ _=>rfl⟩
 ·cases h
def jS:FK->B2->Bool
 |[],[]=>true
 |t::ts,u::us=>zS t u&&jS ts us
 |_,_=>false
theorem oX:∀{ts:FK}{us:B2},jS ts us=true->Vals (ts.map eE) us/\∀(B:KT)al H,aA B al H ts (ts.map eE)
 |[],[],_=>⟨.nil,λ_ _ _=>rfl⟩
 |t::ts,u::us,h=>by
  rw[jS,dc]at h;obtain⟨a,b⟩:=zT h.1;obtain⟨c,d⟩:=oX h.2;exact⟨.cons a c,λB al H=>⟨_,_,rfl,b B al H,d B al H⟩⟩
 |[],_::_,h=>by cases h
 |_::_,[],h=>by cases h
def Yg(K:bu)(ds:FK)(dV:Value):Bool:=match ds with
 |[]=>(match dV with
  |.none=>true
  |_=>false)
 |_::_=>(match dV with
  |.ref a=>(match K.lookup a with
   |some ⟨_,_,.seq its _,_⟩=>jS ds its.toList
   |_=>false)
  |_=>false)
def VJ(K:bu)(e:Fe):Bool:=match OO K e,Lw K e with
 |some f,some fd=>pX K (.ref f)&&BL K (.ref f)&&BV K fd.code e.qual&&scB e&&Yg K e.ds fd.defaults
 |_,_=>false
def Bn(e:Fe):Prop:=match e.ds with
 |[]=>∀(kV doc pm:Value)(an:Option Addr)(jW ct:Value)(us:B2),us.length=e.ps.length->bindArgs (Aw e.x e.qual (kj e.st) (cU e.st) (aD e.st) .none kV doc pm an jW ct) ⟨us,[]⟩=pure (e.ps.zip us)
 |ds=>∀(kV doc pm:Value)(an:Option Addr)(jW ct:Value)(s:Shared)(a:Addr)(o:Obj)(gF:B2)(n:Nat)(us:B2),s.heap.get? a=some o->o.data=.seq gF.toArray n->gF.length=ds.length->(us++gF).length=e.ps.length ->
  BindsTo s (Aw e.x e.qual (kj e.st) (cU e.st) (aD e.st) (.ref a) kV doc pm an jW ct) ⟨us,[]⟩ (e.ps.zip (us++gF))
structure vv(K:bu)(e:Fe)(f:Addr)(fd:FuncData):Prop where
 at_:OO K e=some f
 fn:xO K e.x e.qual e.st f fd
 sc:h_ e.N e.ps (aD e.st)
 isf:BL K (.ref f)=true
 bs:e.ds=[]->∀us:B2,us.length=e.ps.length->bindArgs fd ⟨us,[]⟩=pure (e.ps.zip us)
 bd:∃(gF:B2)(dV:List V),Binds K fd e.ps gF/\Vals dV gF/\∀(B:KT)al H,aA B al H e.ds dV
theorem vv.bn{e:Fe}{f:Addr}{fd:FuncData}(F:vv K e f fd)(h:e.ds=[]):Binds K fd e.ps []:=.all (F.bs h)
theorem rj:∀{ts:FK}{us:B2},jS ts us=true->us.length=ts.length
 |[],[],_=>rfl
 |t::ts,u::us,h=>by
  rw[jS,dc]at h;simp[rj h.2]
 |[],_::_,h=>by cases h
 |_::_,[],h=>by cases h
theorem Ui{e:Fe}(h:VJ K e=true)(q:Lw K e=(Lw K e).map (E2 e))(b:Bn e):∃f fd,vv K e f fd:=by
 unfold VJ at h;split at h
 case h_2=>cases h
 rename_i f fd h1 h2;simp only[dc]at h;obtain⟨⟨⟨⟨h3,h4⟩,h5⟩,h6⟩,h7⟩:=h;rw[h2]at q;injection q with q
 have l:∃oc od C0,K.lookup f=some ⟨oc,od,.func fd,C0⟩:=by
  unfold Lw at h2;rw[h1]at h2;dsimp only[Option.bind]at h2;split at h2
  ·rename_i oc od fd' C0 e
   cases h2;exact⟨oc,od,C0,e⟩
  ·cases h2
 obtain⟨oc,od,C0,l⟩:=l;have F:xO K e.x e.qual e.st f fd:=⟨⟨oc,od,fd.defaults,fd.kwdefaults,fd.doc,fd.pyModule,fd.annotations,fd.code,fd.closureTuple,C0,q,l,h5⟩,h3⟩;have bs:e.ds=[]->∀us:B2,us.length=e.ps.length->bindArgs fd ⟨us,[]⟩=pure (e.ps.zip us):=λh us hl=>by
  unfold Bn at b;rw[h]at b h7;unfold Yg at h7;dsimp only at b h7;split at h7
  ·rename_i hd
   rw[q];unfold E2;rw[hd];exact b _ _ _ _ _ _ us hl
  ·cases h7
 have bd:∃(gF:B2)(dV:List V),Binds K fd e.ps gF/\Vals dV gF/\∀(B:KT)al H,aA B al H e.ds dV:=by
  cases uV:e.ds with
  |nil=>exact⟨[],[],.all (bs uV),.nil,λ_ _ _=>rfl⟩
  |cons d ds=>
   unfold Bn at b;rw[uV]at b h7;unfold Yg at h7;dsimp only at b h7;split at h7
   case h_2=>cases h7
   rename_i a hd;split at h7
   case h_2=>cases h7
   rename_i oc' od' its n' Vi hlk;obtain⟨v1,v2⟩:=oX h7;refine⟨its.toList,_,λs us KX hl=>?_,v1,λB al H=>v2 B al H⟩;rw[q];unfold E2;rw[hd];exact b _ _ _ _ _ _ s a _ its.toList n' us (KX _ _ hlk) rfl (rj h7) hl
 refine⟨f,fd,h1,F,?_,h4,bs,bd⟩;unfold scB at h6;simp only[dc,decide_eq_true_eq]at h6;obtain⟨⟨⟨⟨⟨⟨g1,g2⟩,g3⟩,g4⟩,g5⟩,g6⟩,g7⟩:=h6;refine⟨g1,by simpa using g2,by simpa using g3,g4,g5,λx hx=>?_,λy hy=>of_decide_eq_true (gh.mp g7 y hy)⟩
 have:=gh.mp g6 x hx
 rw[yF]at this;exact this.imp of_decide_eq_true of_decide_eq_true
end
abbrev IS:=List (Str×Nat)
section
variable{Ft:List Fe}{It:IS}
def Yh(e:Fe):Bool:=e.N.all λx=>(decide ((aD e.st).names.lookup x=some .local) ||decide ((aD e.st).names.lookup x=some .cell))&&!q_ x
theorem Lx{e:Fe}(h:Yh e=true):∀(i:Nat)(x:Str),e.N[i]?=some x->rL (aD e.st) x/\bZ x/\iO x:=λi x hx=>by
 have:=gh.mp h x (jB hx)
 rw[dc,yF]at this;refine⟨this.1.elim (λh=>.inl (of_decide_eq_true h)) λh=>.inr (.inl (of_decide_eq_true h)),VH (by simpa using this.2)⟩
def mkB(K:bu)(C f:Addr):Bool:=BN K C&&decide (gE K (.ref C) "__init__" = some (some (.ref f)))&&pX K (.ref C)
def E3(K:bu)(M:Gm)(Ft:List Fe)(It:IS)(c:Nat)(x:Str)(t:Bi->Fe->Bool):Bool:=match M.P.cn[c]?,M.P.fn[c]?,(It.lookup x).bind λi=>Ft[i]? with
 |some n,some ns,some e=>decide (n=x)&&(match E1 K x,OO K e with
  |some C,some f=>mkB K C f&&e.ds.isEmpty&&t ns e
  |_,_=>false)
 |_,_,_=>false
def fzB(n:Nat)(ns:Bi)(e:Fe):Bool:=Yh e&&oO e.N 1 (cU e.st) ns&&decide (e.ps.length=ns.length+1)&&decide (ns.length=n)
noncomputable def cpB(K:bu)(ns:Bi)(e:Fe):Bool:=Yh e&&decide (e.ps.length=2)&&decide (pY K mainGlobals "list" = some none)&&decide ((aD e.st).names.lookup ("list" : Str)=some .globalImplicit)&&(match cU e.st with
 |[Te]=>(match sP Te with
  |some (s0,n,q)=>decide (ns=[n])&&decide (e.N[0]?=some s0)&&decide (e.N[1]?=some q)
  |none=>false)
 |_=>false)
noncomputable def VL(K:bu)(M:Gm)(Ft:List Fe)(It:IS)(x:Str):Ck->Bool
 |.fz c n=>E3 K M Ft It c x (fzB n)
 |.z0 c=>(match M.P.cn[c]?,E1 K x with
  |some n,some C=>decide (n=x)&&BN K C&&decide (gE K (.ref C) "__init__" = some (some (.builtin "object.__init__")))&&pX K (.ref C)
  |_,_=>false)
 |.cp c=>E3 K M Ft It c x (cpB K)
 |.nw c i=>decide (It.lookup x=some i)&&E3 K M Ft It c x λ_ _=>true
def Yi:FK->FK->Bool
 |[],[]=>true
 |[.int i],[.int j]=>decide (i=j)
 |_,_=>false
theorem IU{a b:FK}(h:Yi a b=true):a=b:=by
 unfold Yi at h;split at h
 ·rfl
 ·rw[of_decide_eq_true h]
 ·cases h
def Yj(K:bu)(Ft:List Fe)(p:Str×FK×Nat):Bool:=match Ft[p.2.2]? with
 |some e=>decide (e.cls=none)&&decide (e.x=p.1)&&Yi p.2.1 e.ds
 |none=>false
noncomputable def Yk(K:bu)(M:Gm)(Ft:List Fe)(m:Str)(p:Nat×Nat):Bool:=match M.P.cn[p.1]?,M.P.fn[p.1]?,Ft[p.2]? with
 |some n,some ns,some e=>(match E1 K n,OO K e with
  |some C,some f=>decide (gE K (.ref C) m=some (some (.ref f)))&&e.ds.isEmpty&&!ns.contains m
  |_,_=>false)
 |_,_,_=>false
def OP(K:bu)(M:Gm)(Ft:List Fe)(It:IS):Bool:=Ug K M.P&&gtB K&&Ft.all (VJ K)&&M.fs.all (Yj K Ft)&&M.cl.all (λp=>VL K M Ft It p.1 p.2)&&M.ms.all (λp=>p.2.all (Yk K M Ft p.1))&&M.bl.all (λx=>decide (pY K mainGlobals x=some none))
structure ModOk(K:bu)(M:Gm)(Ft:List Fe)(It:IS):Prop where
 b:OP K M Ft It=true
 q:Ft.map (Lw K)=Ft.map λe=>(Lw K e).map (E2 e)
 bn:∀e∈Ft,Bn e
theorem E4{α β:Type}{f g:α->β}:∀{l:List α},l.map f=l.map g->∀a∈l,f a=g a
 |[],_,a,h=>by simp at h
 |b::l,e,a,h=>by
  rw[dz,dz]at e;injection e with e1 e2
  rcases bA.mp h with rfl|h
  ·exact e1
  ·exact E4 e2 a h
theorem ModOk.split(O:ModOk K M Ft It):Ug K M.P=true/\gtB K=true/\(∀e∈Ft,VJ K e=true)/\(∀p∈M.fs,Yj K Ft p=true)/\(∀p∈M.cl,VL K M Ft It p.1 p.2=true)/\(∀p∈M.ms,∀q∈p.2,Yk K M Ft p.1 q=true)/\∀x∈M.bl,pY K mainGlobals x=some none:=by
 have h:=O.b;unfold OP at h;simp only[dc]at h;obtain⟨⟨⟨⟨⟨⟨h1,h2⟩,h3⟩,h4⟩,h5⟩,h6⟩,h7⟩:=h;exact⟨h1,h2,gh.mp h3,gh.mp h4,gh.mp h5,λp hp=>gh.mp (gh.mp h6 p hp),λx hx=>of_decide_eq_true (gh.mp h7 x hx)⟩
theorem ModOk.fe(O:ModOk K M Ft It){e:Fe}(h:e∈Ft):∃f fd,vv K e f fd:=Ui (O.split.2.2.1 e h) (E4 O.q e h) (O.bn e h)
theorem IV{B:KT}{P:Program}{w:World}{base:Heap}{k:Nat}{f:Addr}{fd:FuncData}{ps:Bi}:dO P w K mg base mK k f fd ps (qT B noFn):=
 ⟨λvs H Q E ⟨_,_,_,_,_,_,_,h,_⟩=>(by cases h),λ_ _ _ _ _ _ _ _ _ _ _ _ _ ⟨_,_,_,_,_,_,_,h,_⟩=>(by cases h)⟩
theorem xY(g:OM K mg)(O:ModOk K M Ft It){c:Nat}{x:Str}{t:Bi->Fe->Bool}(h:E3 K M Ft It c x t=true):∃C ns e i f fd,M.P.cn[c]?=some x/\M.P.fn[c]?=some ns/\It.lookup x=some i/\Ft[i]?=some e/\vv K e f fd/\Mk K C f/\PU K mg x ns C/\t ns e=true/\e.ds=[]:=by
 unfold E3 at h;split at h
 case h_2=>cases h
 rename_i n ns e h1 h2 h3;obtain⟨i,h4,h5⟩:=eM.mp h3;rw[dc]at h;obtain⟨hn,h⟩:=h;have hn:=of_decide_eq_true hn;subst hn;split at h
 case h_2=>cases h
 rename_i C f h6 h7;rw[dc]at h;obtain⟨f',fd,F⟩:=O.fe (jB h5)
 have:=F.at_.symm.trans h7
 cases this;obtain⟨C',Du,l,g1,g2,_,g3,_⟩:=vt O.split.1 h1;rw[h6]at g1;cases g1;rw[h2]at g2;cases g2;unfold mkB at h;simp only[dc,decide_eq_true_eq]at h;exact⟨C,ns,e,i,_,fd,h1,h2,h4,h5,F,⟨h.1.1.1.1,h.1.1.1.2,F.isf,h.1.1.2⟩,sZ g h6 g3,h.2,Cf.mp h.1.2⟩
theorem Bm{α:Type}{l:List (Nat×α)}{x:Nat}{a:α}(h:l.lookup x=some a):(x,a)∈l:=by
 induction l with
 |nil=>simp at h
 |cons p l ih=>
  obtain⟨q,b⟩:=p;rw[jC]at h;split at h
  ·rename_i e
   cases h;rw[eq_of_beq e];exact er ..
  ·exact eF _ (ih h)
variable{Pr:Program}{w:World}{base:Heap}
theorem PU.E5{P:Pg}{c:Nat}{x:Str}{ns:Bi}{C:Addr}(F:PU K mg x ns C)(h1:P.cn[c]?=some x)(h2:P.fn[c]?=some ns):iR (jO P K Pr w) c C ns:=⟨x,h1,h2,F.nd,F.at_⟩
theorem IW{e:Fe}{f:Addr}{fd:FuncData}{ai:Nat->Fn}{k:Nat}(F:vv K e f fd)(G:EH M Pr w K mg base ai k):dO Pr w K mg base mK (k+2) f fd e.ps (qT (jO M.P K Pr w) (EZ M ai e)):=by
 have main:dO Pr w K mg base mK (k+2) f fd e.ps (qT (jO M.P K Pr w) (aK e.ps.length e.N.length (lO M ai 60 200 ⟨e.N,aD e.st,e.mu⟩ (cU e.st)))):=by
  refine NO F.fn F.sc λjW A outer s H E hr=>?_;exact jk 60 200 ⟨e.N,aD e.st,e.mu⟩ (qg mK Pr w K mg base e.N e.qual (aD e.st) f jW A outer s H E).KJ ⟨⟨G,rfl,rfl,rfl,k+1,dj _,hr⟩,λ_=>rfl,F.sc.nd,rfl⟩ (cU e.st)
 unfold EZ Ue;split
 ·exact Ib main
 ·exact main
theorem zU{n:Nat}{i:Nat}{e:Fe}{f:Addr}{fd:FuncData}(F:vv K e f fd)(he:Ft[i]?=some e)(h:∀m,n=m+1->EH M Pr w K mg base (jz M Ft m) (2*m+1)):dO Pr w K mg base mK (2*n+1) f fd e.ps (qT (jO M.P K Pr w) (jz M Ft n i)):=by
 cases n with
 |zero=>exact IV
 |succ m=>
  have:=IW F (h m rfl)
  unfold jz;rw[he];exact this
theorem OQ(g:OM K mg)(O:ModOk K M Ft It)(hc:∀x t,M.cs.lookup x=some t->zy K mg x t):∀n,EH M Pr w K mg base (jz M Ft n) (2*n+1):=by
 intro n
 induction n using Nat.strongRecOn with
 |ind n ih=>
 have call:∀{i:Nat}{e:Fe}{f:Addr}{fd:FuncData},vv K e f fd->Ft[i]?=some e->dO Pr w K mg base mK (2*n+1) f fd e.ps (qT (jO M.P K Pr w) (jz M Ft n i)):=λF he=>zU F he λm hm=>ih m (by omega)
 obtain⟨o1,o2,o3,o4,o5,o6,o7⟩:=O.split;have pg:=Uh g o1 o2;refine⟨pg,hc,λx ds i h=>?_,λx c k h=>?_,λx c h=>?_,λx c h=>?_,λx c i h=>?_,λm l c i h1 h2=>?_,λx h=>g x none (o7 x h)⟩
 ·have q:=o4 _ (dw h)
  unfold Yj at q;dsimp only at q;split at q
  case h_2=>cases q
  rename_i e he;rw[dc,dc]at q;obtain⟨⟨q2,q3⟩,q1⟩:=q;have q2:=of_decide_eq_true q2;have q3:=of_decide_eq_true q3;subst q3;obtain⟨f,fd,F⟩:=O.fe (jB he);have ha:=F.at_;unfold OO at ha;rw[q2]at ha;obtain⟨gF,dV,b1,b2,b3⟩:=F.bd;exact⟨f,fd,e.ps,gF,dV,call F he,g _ _ (kR ha),F.fn.kp,b1,b2,λal H=>IU q1▸b3 _ al H⟩
 ·obtain⟨C,ns,e,i,f,fd,c1,c2,c3,c4,F,m,cl,q,q9⟩:=xY g O (o5 _ (dw h))
  unfold fzB at q;simp only[dc,decide_eq_true_eq]at q;obtain⟨⟨⟨q1,q2⟩,q3⟩,q4⟩:=q;exact⟨C,f,fd,e.ps,ns,cl.E5 c1 c2,q4,cl.gl,m,Ih F.fn F.sc (Lx q1) q2 q3 cl.cl cl.na cl.nd cl.jX,F.bn q9⟩
 ·have q:=o5 _ (dw h)
  unfold VL at q;dsimp only at q;split at q
  case h_2=>cases q
  rename_i n' C h1 h2;simp only[dc,decide_eq_true_eq]at q;obtain⟨⟨⟨q1,q2⟩,q3⟩,q4⟩:=q;subst q1;obtain⟨C',ns,l,g1,g2,_,g3,_⟩:=vt o1 h1;rw[h2]at g1;cases g1;have cl:=sZ g h2 g3;exact⟨C,ns,cl.E5 h1 g2,cl.gl,q2,q3,q4⟩
 ·obtain⟨C,ns,e,i,f,fd,c1,c2,c3,c4,F,m,cl,q,q9⟩:=xY g O (o5 _ (dw h))
  unfold cpB at q;simp only[dc,decide_eq_true_eq]at q;obtain⟨⟨⟨⟨q1,q2⟩,q3⟩,q4⟩,q5⟩:=q;split at q5
  case h_2=>cases q5
  rename_i Te hb;split at q5
  case h_2=>cases q5
  rename_i s0 n' q' hi;simp only[dc,decide_eq_true_eq]at q5;obtain⟨⟨r1,r2⟩,r3⟩:=q5;subst r1;exact⟨C,f,fd,e.ps,n',cl.E5 c1 c2,cl.gl,m,El F.fn F.sc hb hi r2 r3 (Lx q1) (g _ _ q3) q4 q2 cl.cl (cl.na _ (er ..)),F.bn q9⟩
 ·have q:=o5 _ (dw h)
  unfold VL at q;dsimp only at q;rw[dc]at q;obtain⟨q0,q⟩:=q;have q0:=of_decide_eq_true q0;obtain⟨C,ns,e,i',f,fd,c1,c2,c3,c4,F,m,cl,_,q9⟩:=xY g O q;rw[q0]at c3;cases c3;exact⟨C,f,fd,e.ps,ns,cl.E5 c1 c2,cl.gl,m,call F c4,F.bn q9⟩
 ·have q:=o6 _ (dw h1) (c,i) (Bm h2)
  unfold Yk at q;dsimp only at q;split at q
  case h_2=>cases q
  rename_i n' ns e d1 d2 d3;split at q
  case h_2=>cases q
  rename_i C f d4 d5;rw[dc,dc]at q;obtain⟨⟨q1,q9⟩,q2⟩:=q;obtain⟨C',Du,l',g1,g2,_,g3,_⟩:=vt o1 d1;rw[d4]at g1;cases g1;rw[d2]at g2;cases g2;have cl:=sZ g d4 g3;obtain⟨f',fd,F⟩:=O.fe (jB d3)
  have:=F.at_.symm.trans d5
  cases this;exact⟨C,_,fd,e.ps,ns,cl.E5 d1 d2,cl.cl,⟨of_decide_eq_true q1,F.isf,F.fn.kp⟩,call F d3,F.bn (Cf.mp q9),λz=>by rw[Ce.mpr z]at q2;cases q2⟩
end
section
variable{Ft:List Fe}{It:IS}
def IX(K:bu)(p:Str×T):Bool:=match pY K mainGlobals p.1 with
 |some (some u)=>(match p.2,u with
  |.tup ts,.ref a=>(match K.lookup a with
   |some ⟨.type c,_,.seq its _,_⟩=>decide (c = "tuple")&&decide (its.size<=sizeLine)&&jS ts its.toList
   |_=>false)
  |t,u=>zS t u)
 |_=>false
theorem OR(g:OM K mg){x:Str}{t:T}(h:IX K (x,t)=true):zy K mg x t:=by
 unfold IX at h;dsimp only at h;split at h
 case h_2=>cases h
 rename_i u hu;have hm:=g _ _ hu;split at h
 ·rename_i ts a
  split at h
  ·rename_i c od its n sl hl
   simp only[dc,decide_eq_true_eq]at h;obtain⟨⟨h1,h2⟩,h3⟩:=h;subst h1;obtain⟨v1,v2⟩:=oX h3;exact⟨_,.ref a,hm,rfl,λB al H hB=>⟨a,ts.map eE,rfl,.inr ⟨_,its,n,hB▸hl,rfl,rfl,h2,v1⟩,v2 B al H⟩⟩
  ·cases h
 ·obtain⟨v1,v2⟩:=zT h
  exact⟨u,eE t,hm,v1,λB al H _=>v2 B al H⟩
structure E6(K:bu)(M:Gm)(Ft:List Fe)(It:IS):Prop extends ModOk K M Ft It where
 cs:M.cs.all (IX K)=true
variable{Pr:Program}{w:World}{base:Heap}
theorem IY(g:OM K mg)(O:E6 K M Ft It)(n:Nat):EH M Pr w K mg base (jz M Ft n) (2*n+1):=OQ g O.toModOk (λx t h=>OR g (gh.mp O.cs _ (dw h))) n
theorem IZ{B:KT}{f:Fn}{k:Nat}(ns:Dx)(h:∃m',f [.scr ns] []=.ok (.bl true,m')){H:Hp}{a:Addr}(hO:MI H)(hS:df B.K H a (ns.map V.int)):qT B f [.ref a] H (λv _=>v=.bl true) λ_ _ _=>False:=by
 obtain⟨m',h⟩:=h;refine⟨⟨H,λ_=>none,[]⟩,[.scr ns],[],_,m',⟨λ_ _ e=>e,λb p e=>(by cases e),rfl,λk ob e=>(by simp at e)⟩,⟨_,_,rfl,⟨a,rfl,hS⟩,rfl⟩,h,λv g' H' _ _ r=>r⟩
end
theorem Uj{l:PySem.W.OpenLaw}{m n:Nat}{q:Program}{loose:Bi}{XP:(Str->D1)->Heap->Prop}{YP:World->Heap->Prop}{d:DefRec}{K:Params->bu}{M:Gm}{Ft:List Fe}{It:IS}{i:Nat}{e:Fe}
  (hn:l.most=some m) (hm:m<=sizeLine) (hdf:d.params.defaults=[]) (hr:bH (2*n+1) callerA) (hY:∀(w:World)(h:Heap),YP w h->(K w.params).In h)
  (he:Ft[i]?=some e) (hp:e.ps=[("_law_script" : Str)]) (hx:e.x=d.name) (r_:e.cls=none) (uV:e.ds=[]) (O:∀P,E6 (K P) M Ft It) (hT:∀ns:Dx,ns.length<=m->(∀i∈ns,i.natAbs.log2<1048577)->∃m',jz M Ft n i [.scr ns] []=.ok (.bl true,m')) :
  PySem.W.WalkO q loose XP YP l.row.toRowW d [] (λf vs=>PySem.call f vs):=by
 intro w s₀ s₁ mg mb G Y fa o pm cd doc dV kV ho hd jD hD hmg hg args vals as Hm Yl hrd Wx hlo
 obtain rfl:dV=.none:=JV.none hD hdf
 obtain rfl:kV=.none:=JV.noKw hD
 obtain⟨a,vs,ns,rfl,rfl,Ym,hints,ck⟩:=Att.AW hn Hm Wx;have bits:∀i∈ns,i.natAbs.log2<1048577:=λi hi=>by
  have h1:=PySem.W.layableW_item (PySem.W.layableW_arg Yl _ (dB.mpr rfl)) (.int i) (fG.mpr ⟨i,hi,rfl⟩);have h2:=PyData.bits_of_layable (PyProof.Rows.Da.lay0_int (PySem.W.layable_int h1));unfold Builtin.Int.intBits at h2;split at h2
  ·rename_i z
   rw[show i=0 from of_decide_eq_true z];decide
  ·omega
 refine PySem.W.enter_call (codeAny_mono (?_:codeAny (model l.prog w) callerA (.call (.ref fa) ⟨[.ref a],[]⟩) (λr s'=>r=.ok (.ret (.bool true))/\OldK s₁.heap s'.heap/\s'.os=s₁.os/\PyProof.Rows.AllBare s'.gens) s₁) λr s' hq=>?_)
 ·have KX:=hY w _ Y
  have g:=ON KX G.T.g;obtain⟨f,fd,F⟩:=(O w.params).fe (jB he);have ha:=F.at_;unfold OO at ha;rw[r_]at ha;have ea:=(g _ _ (kR ha)).symm.trans (hx▸hmg);cases ea;refine Dc (k:=2*n+1) (fd:=fd) (x:=("_law_script" : Str)) (CX:=mK) (sp:=qT (jO M.P (K w.params) l.prog w) (jz M Ft n i)) KX G.T.g G.T.b G.T.builtins G.T.nolimit hg Ym hints (gP ck hm) hr (λbase KB GB=>?_) (λs u=>?_) (λH hO hS=>IZ (k:=0) ns (hT ns ck bits) hO hS) λ_ _ _ z=>z
  ·have:=zU (Pr:=l.prog) (w:=w) (base:=base) (mg:=mg) F he (n:=n) λm hm=>IY g (O w.params) m
   rw[hp]at this;exact this
  ·have:=F.bs uV [u] (by rw[hp];rfl)
   rw[hp]at this;exact .of_eq this
 ·obtain⟨rfl,h2,h3,h4⟩:=hq
  exact⟨.inl ⟨.bool true,.bool true,[],rfl,λ_=>rfl,.bool true,Att.AX l _,λ_=>⟨List.Pairwise.nil,λ_ hm=>(nomatch hm)⟩⟩,h2,h3,h4⟩
end D
namespace D
theorem bC{α β:Type}(a:α)(f:α->Res β):Res.bind (.ok a) f=f a:=rfl
theorem nk{α:Type}(a:α):aY (some a)=.ok a:=rfl
section
variable{a b:FS}{s s':S}{r:Res (Out×S)}{t:T}{c:FT}{np n:Nat}{ts:FK}{m m':FV}{e:FE}
theorem seq1(h:a s=.ok (.nx,s'))(k:b s'=r):af a b s=r:=by unfold af;rw[h];exact k
theorem E7(h:a s=.ok (.rt t,s')):af a b s=.ok (.rt t,s'):=by unfold af;rw[h];rfl
theorem OS(h:c s=.ok (true,s'))(k:a s'=r):aU c a b s=r:=by unfold aU;rw[h];exact k
theorem zV(h:c s=.ok (false,s'))(k:b s'=r):aU c a b s=r:=by unfold aU;rw[h];exact k
theorem gu(h:e s=.ok (t,s')):aB e s=.ok (.rt t,s'):=by unfold aB;rw[h];rfl
theorem dH(h:ts.length=np)(k:b ⟨ts.map (λt=>some (.val t))++bX (n-ts.length) none,m⟩=.ok (.rt t,s'))(hm:s'.m=m'):aK np n b ts m=.ok (t,m'):=by
 unfold aK;rw[if_pos h,k,<- hm];rfl
theorem OT(h:ts.length=np)(k:b ⟨ts.map (λt=>some (.val t))++bX (n-ts.length) none,m⟩=.ok (.nx,s'))(hm:s'.m=m'):aK np n b ts m=.ok (.non,m'):=by
 unfold aK;rw[if_pos h,k,<- hm];rfl
theorem kT{g:Fn}(h:az ts=true)(k:g ts []=.ok (t,m'))(ht:noOwn t=true):aQ g ts m=.ok (t,m):=by
 unfold aQ;rw[if_pos h,k];exact if_pos ht
theorem gB{g:Fn}{ds:FK}{fl:FL}(h:fl s=.ok (ts,s'))(k:g (ts++ds) s'.m=.ok (t,m')):ao g ds fl s=.ok (t,⟨s'.r,m'⟩):=by
 unfold ao;rw[h];show(match g (ts++ds) s'.m with|.ok q=>_|.bad=>_|.exc c fs s'=>_)=_;rw[k]
end
theorem vz{g:Nat->Option Fn}{o:FE}{fl:FL}{k:Nat}{ob:Ob}{f:Fn}{ts:FK}{t:T}{s s1 s2:S}{m':FV}(h:o s=.ok (.own k,s1))(hm:s1.m[k]?=some ob)(hg:g ob.c=some f)(ha:fl s1=.ok (ts,s2))(hc:f (.own k::ts) s2.m=.ok (t,m')) :
  aw g o fl s=.ok (t,⟨s2.r,m'⟩):=by
 unfold aw;rw[h];show Res.bind (aY ((s1.m[k]?).bind λob=>g ob.c)) _=_;rw[hm];show Res.bind (aY (g ob.c)) _=_;rw[hg];refine Eq.trans (bC f _) ?_;exact gB (ts:=.own k::ts) (s':=s2) (by rw[ha];rfl) (by rw[cY];exact hc)
theorem jT{α:Type}{p:Prop}[Decidable p]{x:α}(h:p):gd p x=some x:=if_pos h
theorem ev:(∀t s,cF t s=.ok (t,s))/\(∀g a s,cu g a s=(a s).bind λp=>(aY (g p.1)).bind λt=>.ok (t,p.2))/\(∀g a b s,bB g a b s=(a s).bind λp=>(b p.2).bind λq=>(aY (g p.1 q.1)).bind λt=>.ok (t,q.2)) /\
  (∀s,aZ s=.ok ([],s))/\(∀a r s,bK a r s=(a s).bind λp=>(r p.2).bind λq=>.ok (p.1::q.1,q.2))/\(∀g a s,aR g a s=(a s).bind λp=>(aY (g p.1)).bind λt=>.ok (t,p.2)) /\
  (∀a s,tB a s=(a s).bind λp=>(aY (HC p.1)).bind λb=>.ok (b,p.2))/\(∀a s,bw a s=(a s).bind λp=>(aY (M4 p.1)).bind λb=>.ok (b,p.2))/\(∀a s,dR a s=(a s).bind λp=>.ok (!p.1,p.2)) /\
  (∀s,wH s=.ok (none,s))/\(∀a s,jY a s=(a s).bind λp=>(aY (RO p.1)).bind λi=>.ok (some i,p.2))/\(∀a lo hi s,mZ a lo hi s=(a s).bind λp=>(lo p.2).bind λq=>(hi q.2).bind λz=>(aY (HB q.1 z.1 p.1)).bind λt=>.ok (t,z.2)) /\
  (∀i a s,aG i a s=(a s).bind λp=>.ok (.nx,jr p.2 i (.val p.1)))/\(∀a s,aN a s=(a s).bind λp=>.ok (.nx,p.2))/\(∀s,aC s=.ok (.nx,s)) /\
  (∀r m i c,jr ⟨r,m⟩ i c=⟨r.set i (some c),m⟩)/\(∀f o fl s,pU f o fl s=(o s).bind λp=>(aY (HS p.1)).bind λl=>(fl p.2).bind λq=>(aY (f l q.1)).bind λt=>.ok (t,q.2)) /\
  (∀t,HC (.bl t)=some t)/\(∀t,M4 (.bl t)=some t)/\(∀i,RO (.int i)=some i)/\(∀l,HS (.str l)=some l):=
 ⟨λ_ _=>rfl,λ_ _ _=>rfl,λ_ _ _ _=>rfl,λ_=>rfl,λ_ _ _=>rfl,λ_ _ _=>rfl,λ_ _=>rfl,λ_ _=>rfl,λ_ _=>rfl,λ_=>rfl,λ_ _=>rfl,λ_ _ _ _=>rfl,λ_ _ _=>rfl,λ_ _=>rfl,λ_=>rfl,λ_ _ _ _=>rfl,λ_ _ _ _=>rfl,λ_=>rfl,λ_=>rfl,λ_=>rfl,λ_=>rfl⟩
theorem pW:(∀r m t,vF 0 ⟨some (.val t)::r,m⟩=.ok (t,⟨some (.val t)::r,m⟩))/\(∀x0 r m t,vF 1 ⟨x0::some (.val t)::r,m⟩=.ok (t,⟨x0::some (.val t)::r,m⟩))/\(∀x0 x1 r m t,vF 2 ⟨x0::x1::some (.val t)::r,m⟩=.ok (t,⟨x0::x1::some (.val t)::r,m⟩))/\(∀x0 x1 x2 r m t,vF 3 ⟨x0::x1::x2::some (.val t)::r,m⟩=.ok (t,⟨x0::x1::x2::some (.val t)::r,m⟩))/\(∀x0 x1 x2 x3 r m t,vF 4 ⟨x0::x1::x2::x3::some (.val t)::r,m⟩=.ok (t,⟨x0::x1::x2::x3::some (.val t)::r,m⟩))/\(∀x0 x1 x2 x3 x4 r m t,vF 5 ⟨x0::x1::x2::x3::x4::some (.val t)::r,m⟩=.ok (t,⟨x0::x1::x2::x3::x4::some (.val t)::r,m⟩))/\(∀x0 x1 x2 x3 x4 x5 r m t,vF 6 ⟨x0::x1::x2::x3::x4::x5::some (.val t)::r,m⟩=.ok (t,⟨x0::x1::x2::x3::x4::x5::some (.val t)::r,m⟩))/\(∀x0 x1 x2 x3 x4 x5 x6 r m t,vF 7 ⟨x0::x1::x2::x3::x4::x5::x6::some (.val t)::r,m⟩=.ok (t,⟨x0::x1::x2::x3::x4::x5::x6::some (.val t)::r,m⟩))/\(∀y r c,tX (α:=Option C) (y::r) 0 c=c::r)/\(∀x0 y r c,tX (α:=Option C) (x0::y::r) 1 c=x0::c::r)/\(∀x0 x1 y r c,tX (α:=Option C) (x0::x1::y::r) 2 c=x0::x1::c::r)/\(∀x0 x1 x2 y r c,tX (α:=Option C) (x0::x1::x2::y::r) 3 c=x0::x1::x2::c::r)/\(∀x0 x1 x2 x3 y r c,tX (α:=Option C) (x0::x1::x2::x3::y::r) 4 c=x0::x1::x2::x3::c::r)/\(∀x0 x1 x2 x3 x4 y r c,tX (α:=Option C) (x0::x1::x2::x3::x4::y::r) 5 c=x0::x1::x2::x3::x4::c::r)/\(∀x0 x1 x2 x3 x4 x5 y r c,tX (α:=Option C) (x0::x1::x2::x3::x4::x5::y::r) 6 c=x0::x1::x2::x3::x4::x5::c::r)/\(∀x0 x1 x2 x3 x4 x5 x6 y r c,tX (α:=Option C) (x0::x1::x2::x3::x4::x5::x6::y::r) 7 c=x0::x1::x2::x3::x4::x5::x6::c::r):=
 ⟨λ_ _ _=>rfl,λ_ _ _ _=>rfl,λ_ _ _ _ _=>rfl,λ_ _ _ _ _ _=>rfl,λ_ _ _ _ _ _ _=>rfl,λ_ _ _ _ _ _ _ _=>rfl,λ_ _ _ _ _ _ _ _ _=>rfl,λ_ _ _ _ _ _ _ _ _ _=>rfl,λ_ _ _=>rfl,λ_ _ _ _=>rfl,λ_ _ _ _ _=>rfl,λ_ _ _ _ _ _=>rfl,λ_ _ _ _ _ _ _=>rfl,λ_ _ _ _ _ _ _ _=>rfl,λ_ _ _ _ _ _ _ _ _=>rfl,λ_ _ _ _ _ _ _ _ _ _=>rfl⟩
end D
namespace D
open PySem L2 PyProof.Rows
theorem E8(l:B1):(⟨l.toArray⟩:Str).length=l.length:=by show l.toArray.size=_;simp
open PySem.StrLaws in
theorem vA(s sub:Str)(hi:Nat):∀(l:B1)(a fr:Nat),(forIn l ((#[a]:Array Nat),fr) (occBody s sub hi 1)).run.fst=#[a]
 |[],_,_=>rfl
 |b::l,a,fr=>by
  rw[yv];unfold occBody;rw[if_neg (by simp)]
  exact vA s sub hi l a fr
open PySem.StrLaws Builtin.Str in
theorem occ_first(s sub:Str)(hi:Nat):∀(n lo fr:Nat),fr<=lo ->
  ((forIn (qb lo n) ((#[]:Array Nat),fr) (occBody s sub hi 1)).run.fst=#[]/\∀i,lo<=i->i<lo+n->¬ (i+sub.length<=hi/\subAt s sub i=true)) \/
  ∃i,(forIn (qb lo n) ((#[]:Array Nat),fr) (occBody s sub hi 1)).run.fst=#[i]/\lo<=i/\i<lo+n/\(i+sub.length<=hi/\subAt s sub i=true)/\∀j,lo<=j->j<i->¬ (j+sub.length<=hi/\subAt s sub j=true)
 |0,lo,fr,_=>.inl ⟨rfl,λi a b=>by omega⟩
 |n+1,lo,fr,h=>by
  rw[AB,yv];by_cases hc:lo+sub.length<=hi/\subAt s sub lo=true
  ·right
   refine⟨lo,?_,dj _,by omega,hc,λj a b=>by omega⟩
   unfold occBody;rw[if_pos ⟨⟨⟨by simp,h⟩,hc.1⟩,hc.2⟩]
   exact vA s sub hi _ lo _
  ·have e:∀k,(occBody s sub hi 1 lo ((#[]:Array Nat),fr) >>= k:Id (Array Nat×Nat))=k (ForInStep.yield ((#[]:Array Nat),fr)):=λk=>by
    unfold occBody;rw[if_neg (λz=>hc ⟨z.1.2,z.2⟩)];rfl
   rw[e];rcases occ_first s sub hi n (lo+1) fr (by omega)with⟨a,b⟩|⟨i,a,b,c,d,g⟩
   ·refine .inl ⟨a,λi h1 h2=>?_⟩
    by_cases z:i=lo
    ·subst z;exact hc
    ·exact b i (by omega) (by omega)
   ·refine .inr ⟨i,a,by omega,by omega,d,λj h1 h2=>?_⟩
    by_cases z:j=lo
    ·subst z;exact hc
    ·exact g j (by omega) h2
theorem xZ(c:Nat)(r:B1)(i:Nat):(i+(⟨[c].toArray⟩:Str).length<=r.length/\Builtin.Str.subAt ⟨r.toArray⟩ ⟨[c].toArray⟩ i=true) ↔ r[i]?=some c:=by
 rw[StrLaws.subAt_eq,E8,beq_iff_eq];show(i + [c].length<=r.length/\(r.drop i).take [c].length=[c]) ↔ _;constructor
 ·rintro⟨h1,h2⟩
  have:=congrArg (λq=>q[0]?) h2
  simpa using this
 ·intro h
  have hi:=(eA.mp h).1;refine⟨hi,?_⟩;rw[nF hi]
  have:=(eA.mp h).2
  simp[this]
theorem zW(c:Nat)(D S R:B1)(h:c∉S):Builtin.Str.occurrences ⟨(D++(S++c::R)).toArray⟩ ⟨[c].toArray⟩ D.length (D++(S++c::R)).length 1=[D.length+S.length]:=by
 have hat:(D++(S++c::R))[D.length+S.length]?=some c:=by
  rw[fQ (by omega),fQ (by omega)]
  simp
 have vB:∀j,D.length<=j->j<D.length+S.length->¬ (D++(S++c::R))[j]?=some c:=λj h1 h2 z=>by
  rw[fQ h1,gO (by omega)]at z
  exact h (jB z)
 rw[StrLaws.occ_eq];rcases occ_first ⟨(D++(S++c::R)).toArray⟩ ⟨[c].toArray⟩ (D++(S++c::R)).length ((D++(S++c::R)).length+1-D.length) D.length D.length (dj _)with⟨a,b⟩|⟨i,a,b,c',d,g⟩
 ·exact absurd ((xZ c _ _).mpr hat) (b _ (by omega) (by simp;omega))
 ·rw[a]
  have hi:=(xZ c _ _).mp d
  have:i=D.length+S.length:=by
   rcases Nat.lt_trichotomy i (D.length+S.length)with z|z|z
   ·exact absurd hi (vB i b z)
   ·exact z
   ·exact absurd ((xZ c _ _).mpr hat) (g _ (by omega) z)
  rw[this]
theorem E9(c:Nat)(D S R:B1)(h:c∉S):oH (D++(S++c::R)) [.str [c],.int (D.length:Nat)]=some (.int ((D.length+S.length:Nat):Int)):=by
 show some (T.int (Txt.find3 _ _ _))=_;unfold Txt.find3;have hfi:PySem.fromIndex (⟨(D++(S++c::R)).toArray⟩:Str).length ((D.length:Nat):Int)=D.length:=by
  unfold PySem.fromIndex;rw[if_neg (by omega)]
  omega
 rw[hfi,E8,zW c D S R h]
theorem Bo(c:Nat)(S R:B1)(h:c∉S):oH (S++c::R) [.str [c]]=some (.int ((S.length:Nat):Int)):=by
 have:=zW c [] S R h
 rw[rE]at this;show some (T.int (Txt.find _ _))=_;unfold Txt.find;rw[E8];have e:Builtin.Str.occurrences ⟨(S++c::R).toArray⟩ ⟨[c].toArray⟩ 0 (S++c::R).length 1=[0+S.length]:=this;rw[e,ud]
theorem fK(n d k:Nat):gf n d (some (k:Int))=min k n:=by
 unfold gf;dsimp only;rw[if_neg (by omega)];rfl
theorem E_(n d:Nat):gf n d none=d:=rfl
theorem jb{α:Type}(w r:List α):bg (w++r) (some (w.length:Int)) none=r:=by
 unfold bg;rw[fK,E_,cC,AD (by omega),Cg]
 simp
theorem Fb{α:Type}(w r:List α):bg (w++r) none (some (w.length:Int))=w:=by
 unfold bg;rw[fK,E_,cC,AD (by omega)]
 simp
theorem I_{α:Type}(a b c:List α):bg (a++(b++c)) (some (a.length:Int)) (some ((a.length+b.length:Nat):Int))=b:=by
 unfold bg;rw[fK,fK,cC,cC,AD (by omega),AD (by omega),Cg]
 have:a.length+b.length-a.length=b.length:=by omega
 rw[this,List.take_left]
theorem pre_app(w r:B1):pre w (w++r)=true:=by unfold pre;simp
theorem cy{c d:Nat}{w r:B1}(h:c≠d):pre (c::w) (d::r)=false:=by
 unfold pre;rw[dP,dP,Cd]
 have:(d::yz w.length r == c::w)=false:=by
  rw[beq_eq_false_iff_ne];intro z;injection z with z _
  exact h z.symm
 rw[this,Kl]
theorem Fc(c:Nat)(w r:B1):pre (c::w) (c::r)=pre w r:=by
 unfold pre;rw[dP,dP,Cd]
 have:(c::yz w.length r == c::w)=(yz w.length r == w):=by
  rw[yE];simp
 rw[this]
 congr 1
 apply decide_eq_decide.mpr;omega
end D
namespace D
abbrev sv(t:T):Option C:=some (.val t)
abbrev cI(i:Int):FE:=cF (.int i)
abbrev cS(l:B1):FE:=cF (.str l)
abbrev oA:FE->FE->FE:=bB (fY .Add)
abbrev oM:FE->FE->FE:=bB (fY .Mod)
abbrev oD:FE->FE->FE:=bB (fY .FloorDiv)
abbrev oE:FE->FE->FE:=bB (aH .Eq)
abbrev oI:FE->FE->FE:=bB gq
abbrev k1(a:FE):FL:=bK a aZ
abbrev k2(a b:FE):FL:=bK a (k1 b)
abbrev k3(a b c:FE):FL:=bK a (k2 b c)
def W{α:Type}(x:Res α)(Q:α->Prop):Prop:=∃a,x=.ok a/\Q a
section
variable{α β:Type}{x:Res α}{f:α->Res β}{P:α->Prop}{R:β->Prop}
theorem W.mono{Q:α->Prop}(h:W x Q)(k:∀a,Q a->P a):W x P:=let⟨a,e,q⟩:=h;⟨a,e,k a q⟩
theorem W.bind(h:W x λa=>W (f a) R):W (x.bind f) R:=by
 obtain⟨a,rfl,b,e,q⟩:=h;exact⟨b,e,q⟩
theorem W.of{a:α}(e:x=.ok a)(h:P a):W x P:=⟨a,e,h⟩
theorem wO{o:Option α}{a:α}(e:o=some a)(h:W (f a) R):W ((aY o).bind f) R:=by rw[e];exact h
end
section
variable{s s1 s':S}{a b:FE}{fl:FL}{g:T->T->FR}{gN:FK->FR}{Q:T×S->Prop}{t u:T}{ts:FK}{i:Nat}{c:FT}{A B:FS}{QS:Out×S->Prop}{QB:Bool×S->Prop}{QL:FK×S->Prop}{G:T×FV->Prop}
theorem Yn(h:W (fl s) λp=>∃v,gN p.1=some v/\Q (v,p.2)):W (aR gN fl s) Q:=W.bind (h.mono λ_ ⟨_,e,q⟩=>wO e ⟨_,rfl,q⟩)
theorem Uk(h:W (a s) λp=>W (fl p.2) λq=>QL (p.1::q.1,q.2)):W (bK a fl s) QL:=W.bind (h.mono λ_ k=>W.bind (k.mono λ_ q=>⟨_,rfl,q⟩))
theorem Ul{f:Fn}(h:W (fl s) λp=>W (f p.1 p.2.m) λq=>Q (q.1,⟨p.2.r,q.2⟩)):W (ao f [] fl s) Q:=W.bind (h.mono λp k=>by
 obtain⟨q,e,k⟩:=k;refine⟨_,?_,k⟩;rw[cY,e])
def WB(b:FS)(s:S)(G:T×FV->Prop):Prop:=W (b s) λp=>∃t,p.1=.rt t/\G (t,p.2.m)
theorem OU(h:W (a s) λp=>G (p.1,p.2.m)):WB (aB a) s G:=W.bind (h.mono λp q=>⟨_,rfl,_,rfl,q⟩)
theorem Bp(e:a s=.ok (t,s'))(h:G (t,s'.m)):WB (aB a) s G:=OU ⟨_,e,h⟩
theorem dI(h:W (A s) λp=>p.1=.nx/\WB B p.2 G):WB (af A B) s G:=W.bind (h.mono λp zz=>by
 obtain⟨e,k⟩:=zz;obtain⟨o,s'⟩:=p;cases e;exact k)
theorem Ly(h:WB A s G):WB (af A B) s G:=W.bind (W.mono h λp ⟨t,e,k⟩=>⟨p,by obtain⟨o,s'⟩:=p;cases e;rfl,t,e,k⟩)
theorem Yo(h:W (a s) λp=>QS (.nx,jr p.2 i (.val p.1))):W (aG i a s) QS:=W.bind (h.mono λ_ q=>⟨_,rfl,q⟩)
theorem Um(h:W (a s) λp=>WB B (jr p.2 i (.val p.1)) G):WB (af (aG i a) B) s G:=dI (Yo (h.mono λ_ q=>⟨rfl,q⟩))
theorem Uo(e:a s=.ok (t,s'))(h:WB B (jr s' i (.val t)) G):WB (af (aG i a) B) s G:=Um ⟨_,e,h⟩
theorem Up(h:W (c s) λp=>(p.1=true->W (A p.2) QS)/\(p.1=false->W (B p.2) QS)):W (aU c A B s) QS:=W.bind (h.mono λp zz=>by
 obtain⟨k1,k2⟩:=zz;cases e:p.1 with
 |true=>exact k1 e
 |false=>exact k2 e)
theorem vC(e:c s=.ok (true,s'))(h:W (A s') QS):W (aU c A B s) QS:=Up ⟨_,e,⟨λ_=>h,λz=>by cases z⟩⟩
theorem fL(e:c s=.ok (false,s'))(h:W (B s') QS):W (aU c A B s) QS:=Up ⟨_,e,⟨λz=>(by cases z),λ_=>h⟩⟩
theorem Yp(e:c s=.ok (true,s'))(h:WB A s' G):WB (af (aU c A B) a') s G:=Ly (vC e h)
theorem P1(e:c s=.ok (false,s'))(h:WB B s' G):WB (af (aU c A aC) B) s G:=dI (fL e ⟨_,rfl,rfl,h⟩)
theorem VM(h:W (c s) λp=>(p.1=true->WB A p.2 G)/\(p.1=false->WB B p.2 G)):WB (af (aU c A aC) B) s G:=by
 obtain⟨p,e,k1,k2⟩:=h;obtain⟨k,s'⟩:=p;cases k with
 |true=>exact Yp e (k1 rfl)
 |false=>exact P1 e (k2 rfl)
theorem ju{np n:Nat}{m:FV}(h:ts.length=np)(k:WB B ⟨ts.map (λt=>some (.val t))++bX (n-ts.length) none,m⟩ G):W (aK np n B ts m) G:=by
 unfold aK;rw[if_pos h];exact W.bind (W.mono k λp ⟨t,e,k⟩=>⟨_,by rw[e],k⟩)
theorem kU{f:Fn}{m:FV}(h:az ts=true)(k:W (f ts []) λp=>noOwn p.1=true/\G (p.1,m)):W (aQ f ts m) G:=by
 obtain⟨p,e,h1,h2⟩:=k;refine⟨_,?_,h2⟩;unfold aQ;rw[if_pos h,e];exact if_pos h1
theorem gY(h:W (A s) λp=>p.1=.nx/\W (B p.2) QS):W (af A B s) QS:=W.bind (h.mono λp zz=>by
 obtain⟨e,k⟩:=zz;obtain⟨o,s'⟩:=p;cases e;exact k)
theorem Uq{gg:FG}(h:W (a s) λp=>∃r,gg p.1 p.2.r=some r/\QS (.nx,⟨r,p.2.m⟩)):W (uL gg a s) QS:=W.bind (h.mono λ_ ⟨_,e,q⟩=>wO e ⟨_,rfl,q⟩)
theorem Ur(h:W (fl s) λp=>Q (.lst p.1,p.2)):W (eX fl s) Q:=W.bind (h.mono λ_ q=>⟨_,rfl,q⟩)
theorem Lz{n:Nat}{js:B1}{gg:FG}{e:FE}(h:W (fl s) λp=>p.1.length<=1000000/\W (aW gg c e (i9 n js (jJ js p.2.r)) p.1 p.2.m) λq=>QL (q.1,⟨jJ js p.2.r,q.2⟩)):W (cW fl n js gg c e s) QL:=W.bind (h.mono λp zz=>by
 obtain⟨z,k⟩:=zz;rw[if_pos z];exact W.bind (k.mono λ_ q=>⟨_,rfl,q⟩))
theorem wGo{gg:FG}{e:FE}{r:Fs}{I:FV->Prop}{R:T->Prop}:∀{ts:FK},(∀t∈ts,∀m,I m->∃b1,gg t r=some b1/\W (e ⟨b1,m⟩) λp=>R p.1/\I p.2.m)->∀m,I m->W (aW gg dG e r ts m) λp=>p.1.length=ts.length/\(∀t∈p.1,R t)/\I p.2
 |[],_,m,h=>⟨_,rfl,rfl,λ_ z=>(nomatch z),h⟩
 |t::ts,k,m,h=>by
  obtain⟨b1,e1,p,e2,r1,h1⟩:=k t (er ..) m h;obtain⟨q,e3,l,r2,h2⟩:=wGo (λt ht=>k t (eF _ ht)) p.2.m h1;refine⟨(p.1::q.1,q.2),?_,by show q.1.length+1=ts.length+1;rw[l],λu hu=>?_,h2⟩
  ·rw[aW,e1]
   refine Eq.trans (bC _ _) ?_;show Res.bind (e ⟨b1,m⟩) _=_;rw[e2];show Res.bind (aW gg dG e r ts p.2.m) _=_;rw[e3];rfl
  ·rcases bA.mp hu with z|z
   ·rw[z];exact r1
   ·exact r2 u z
theorem LA{α:Type}{f:α->T}{P:α->Prop}:∀{us:FK},(∀t∈us,∃x,P x/\t=f x)->∃xs:List α,us=xs.map f/\∀x∈xs,P x
 |[],_=>⟨[],rfl,λ_ z=>nomatch z⟩
 |u::us,h=>by
  obtain⟨x,h1,rfl⟩:=h u (er ..);obtain⟨xs,rfl,h2⟩:=LA λt ht=>h t (eF _ ht);exact⟨x::xs,rfl,λy hy=>by
   rcases bA.mp hy with z|z
   ·rw[z];exact h1
   ·exact h2 y z⟩
theorem Fd{gg:FG}{I:S->Prop}:∀{ts:FK}{s:S},(∀t∈ts,∀s,I s->∃r,gg t s.r=some r/\W (B ⟨r,s.m⟩) λp=>p.1=.nx/\I p.2)->I s->W (bP gg B ts s) λp=>p.1=.nx/\I p.2
 |[],s,_,h=>⟨_,rfl,rfl,h⟩
 |t::ts,s,k,h=>by
  obtain⟨r,e1,⟨o,s1⟩,e2,e3,h1⟩:=k t (er ..) s h;cases e3;obtain⟨p,e4,h2⟩:=Fd (ts:=ts) (λt ht=>k t (eF _ ht)) h1;refine⟨p,?_,h2⟩;rw[bP,e1];refine Eq.trans (bC _ _) ?_;show Res.bind (B ⟨r,s.m⟩) _=_;rw[e2];exact e4
end
end D
namespace K32
open PySem D L2
variable(n:Nat){m:List _root_.D.Ob}
abbrev Ff:B1:=[97,98,99,100,101,102,103,104,105,106,107,108,109,110,111,112,113,114,115,116,117,118,119,120,121,122,65,66,67,68,69,70,71,72,73,74,75,76,77,78,79,80,81,82,83,84,85,86,87,88,89,90,48,49,50,51,52,53,54,55,56,57,32,33,34,35,36,38,39,40,41,42,43,44,45,46,47,58,59,60,61,62,63,64,91,92,93,94,95,96,123,124,125,126]
abbrev Us:B1:=[97,98,99,100,101,102,103,104,105,106,107,108,109,32,65,66,67,68,69,70,71,72,73,74]
abbrev Ut:B1:=[110,111,112,113,114,115,116,117,118,119,120,121,122,75,76,77,78,79,80,81,82,83,84,48,49,50,51]
abbrev Uu:B1:=[85,86,87,88,89,90,52,53,54,55,56,57,33,35,38,39,40,41,44,45,58,59,60,61,62,64,92,95,96,123,124,125,126]
noncomputable abbrev fx(x:Str)(i:Nat):Str×FK×Nat:=(x,[],i)
noncomputable def M:Gm:={
 P:={cn:=["Program","Line","Cond","Always","RowIs","Last","Like","Soon","FromTo","Not","End","Deed","Mark","Drop","Print","Done","Say","Swap","Join","Pile","Bring","Go","Add","Tell","TextRow","Truths","Walker","Scan"],an:=["lines","cond","deed","number","pattern","many","first","second","inner","name","words","every","most","shelf","text","known","conds","up","behind_marks","teller","truths","passed","met","taken","hand","hand_rows","shelves","sums","noted","log","wanting","rest"],tab:=[[0],[1,2],[],[],[3],[],[4],[5,4],[6,7],[8],[],[],[9],[],[],[],[10],[4,10,11],[12],[13,12],[13],[9],[6,7],[],[14,3,15],[16,17],[0,18,19,20,21,22,23,24,25,26,27,28,29,30],[31,3]],sub:=[[0],[1],[2],[2,3],[2,4],[2,5],[2,6],[2,7],[2,8],[2,9],[2,10],[11],[11,12],[11,13],[11,14],[11,15],[11,16],[11,17],[11,18],[11,19],[11,20],[11,21],[11,22],[11,23],[24],[25],[26],[27]]},
 cs:=[("SIGNS",.str Ff),("SMALL_LETTERS",.str [97,98,99,100,101,102,103,104,105,106,107,108,109,110,111,112,113,114,115,116,117,118,119,120,121,122]),("FIGURES",.str [48,49,50,51,52,53,54,55,56,57]),("MOST_ITEMS",.int 8),("MOST_SIGNS",.int 12),("NEVER_PLAIN",.str [94,36,46,91,93,42,43,63,47]),("NEVER_IN_A_SET",.str [93,94,47]),("ONCE",.str [49]),("HOW_MANY",.str [42,43,63]),("NOWHERE",.int (-1)),("MOST_FIGURES_pieces",.int 60),("COND_BEGINNINGS",.tup [.str [114,111,119,32],.str [108,97,115,116],.str [47],.str [115,111,111,110,32],.str [102,114,111,109,32],.str [110,111,116,32],.str [101,110,100]]),("MOST_ROW",.int 999),("MOST_FIGURES_linereading",.int 3),("MOST_SOON",.int 3),("LEAST_JOIN",.int 2),("MOST_SMALL",.int 9),("MOST_LETTERS",.int 8),("MOST_TEXT",.int 40),("MOST_LINES",.int 24)],
 fs:=[fx "_wall" 0,fx "cut" 1,fx "made_of" 2,fx "beginning_of" 3,fx "may_stand_plain" 4,fx "pattern" 5,fx "items_of" 6,fx "place_behind_core" 7,fx "many_at" 8,fx "item_of" 9,fx "set_item" 10,fx "is_written_plain" 11,fx "written" 12,fx "written_core" 13,fx "may_be_empty" 14,fx "least_length" 15,fx "may_be_left_out" 16,fx "may_come_again" 17,("stretch",[.int 0],18),fx "found" 19,fx "greatest_ends" 20,fx "ends_behind_items" 21,fx "ends_with_item" 22,fx "text_rows" 23,fx "holds" 24,fx "is_row_up_to" 25,fx "first_swapped" 26,fx "every_swapped" 27,fx "words_of" 28,fx "word_of" 29,fx "number_of" 30,fx "given_in" 31,fx "numbers_of_marks" 32,fx "walk" 33,fx "line_of" 34,fx "line_next" 35,fx "cond_next" 36,fx "plain_cond_next" 37,fx "row_or_pattern_next" 38,fx "deed_next" 39,fx "swap_next" 40,fx "pile_next" 41,fx "add_next" 42,fx "number_next" 43,fx "name_next" 44,fx "words_next" 45,fx "pattern_next" 46,fx "may_stand" 47,fx "may_swap" 48,fx "read" 49,fx "lines_of" 50,fx "marks_of" 51,fx "refuse_go_without_mark" 52,fx "_law_cell_at" 53,fx "_law_signs" 54,fx "_law_row" 55,fx "_law_pattern" 56,fx "_law_cond" 57,fx "_law_written" 58,fx "_law_part" 59,fx "_law_holds" 60,fx "_law_due" 61,fx "_law_exact" 62,fx "law" 63],
 cl:=[("Program",.cp 0),("Line",.fz 1 2),("Cond",.z0 2),("Always",.z0 3),("RowIs",.fz 4 1),("Last",.z0 5),("Like",.fz 6 1),("Soon",.fz 7 2),("FromTo",.fz 8 2),("Not",.fz 9 1),("End",.z0 10),("Deed",.z0 11),("Mark",.fz 12 1),("Drop",.z0 13),("Print",.z0 14),("Done",.z0 15),("Say",.fz 16 1),("Swap",.fz 17 3),("Join",.fz 18 1),("Pile",.fz 19 2),("Bring",.fz 20 1),("Go",.fz 21 1),("Add",.fz 22 2),("Tell",.z0 23),("TextRow",.nw 24 79),("Truths",.nw 25 81),("Walker",.nw 26 85),("Scan",.nw 27 106)],
 ms:=[("has",[(24,80)]),("told_of",[(25,82)]),("truth",[(25,83)]),("truth_of_stretch",[(25,84)]),("want",[(26,86)]),("take",[(26,87)]),("take_with",[(26,88)]),("go_on",[(26,89)]),("meet",[(26,90)]),("hand_over",[(26,91)]),("finish",[(26,92)]),("find_none",[(26,93)]),("give",[(26,94)]),("end_turn",[(26,95)]),("give_hand_and_end",[(26,96)]),("do",[(26,97)]),("do_giving",[(26,98)]),("do_swap",[(26,99)]),("do_join",[(26,100)]),("do_pile",[(26,101)]),("do_bring",[(26,102)]),("rows_on_shelves",[(26,103)]),("do_add",[(26,104)]),("do_tell",[(26,105)]),("refuse",[(27,107)]),("passes",[(27,108)]),("must_pass",[(27,109)]),("while_made_of",[(27,110)]),("between",[(27,111)])],
 bl:=["isinstance","len","all","any","str","int","list","range","enumerate","tuple","bool","set","sorted","reversed"],bf:=["log","met","up","known","shelves","sums","noted"],lu:=["_law_one"],lv:=["_law_conds"]}
abbrev Fu(x:Str)(k:Nat)(N:Bi)(a:Nat)(u:Bi)(b:Bool):Fe:=⟨none,x,x,top k,N,N.take a,u,b,[]⟩
abbrev Fm(c x q:Str)(k h:Nat)(N:Bi)(a:Nat):Fe:=⟨some c,x,q,inClass (top k) h,"self" :: N,"self" :: N.take a,[],false,[]⟩
noncomputable def Ft:List Fe:=[
 Fu "_wall" 0 ["k"] 9 [] true,
 Fu "cut" 2 ["text","rows"] 1 [] true,
 Fu "made_of" 39 ["text","signs"] 9 [] true,
 Fu "beginning_of" 40 ["text","signs","many"] 2 [] true,
 Fu "may_stand_plain" 48 ["sign"] 9 [] true,
 Fu "pattern" 49 ["text","front","body","back","items"] 1 [] true,
 Fu "items_of" 50 ["body","items","place","behind","many"] 1 ["items"] true,
 Fu "place_behind_core" 51 ["body","place","bracket"] 2 [] true,
 Fu "many_at" 52 ["body","place"] 9 [] true,
 Fu "item_of" 53 ["core","many"] 9 [] true,
 Fu "set_item" 54 ["inside","many","others","signs"] 2 [] true,
 Fu "is_written_plain" 55 ["signs","others"] 9 [] true,
 Fu "written" 56 ["one","parts","signs","others","many"] 1 ["parts"] true,
 Fu "written_core" 57 ["signs","others"] 9 [] true,
 Fu "may_be_empty" 58 ["one"] 9 [] true,
 Fu "least_length" 59 ["one"] 9 [] true,
 Fu "may_be_left_out" 60 ["item"] 9 [] true,
 Fu "may_come_again" 61 ["item"] 9 [] true,
 ⟨none,"stretch","stretch",top 64,["one","row","start","ends","begin"],["one","row","start"],[],true,[.int 0]⟩,
 Fu "found" 65 ["one","row"] 9 [] true,
 Fu "greatest_ends" 66 ["one","row","ends","item"] 2 [] true,
 Fu "ends_behind_items" 67 ["row","back"] 9 [] true,
 Fu "ends_with_item" 68 ["item","row","behind","signs","others","again","ends","place","end"] 3 ["ends"] true,
 Fu "text_rows" 71 ["rows"] 9 [] false,
 Fu "holds" 73 ["cond","row"] 9 [] false,
 Fu "is_row_up_to" 74 ["cond","number"] 9 [] true,
 Fu "first_swapped" 77 ["hand","one","words","place"] 3 [] true,
 Fu "every_swapped" 78 ["hand","one","words","ends","parts","kept_to","place"] 3 ["parts"] true,
 Fu "words_of" 79 ["hand"] 9 [] true,
 Fu "word_of" 80 ["hand","number","words"] 2 [] true,
 Fu "number_of" 81 ["word","figures"] 1 [] true,
 Fu "given_in" 84 ["log"] 9 [] true,
 Fu "numbers_of_marks" 85 ["lines","numbers","number","line"] 1 ["numbers"] true,
 Fu "walk" 87 ["program","text","rows","walker","number","row"] 2 [] true,
 Fu "line_of" 98 ["row","number","scan","line"] 2 [] true,
 Fu "line_next" 99 ["scan","cond"] 1 [] false,
 Fu "cond_next" 100 ["scan"] 9 [] false,
 Fu "plain_cond_next" 101 ["scan","many","first"] 1 [] false,
 Fu "row_or_pattern_next" 102 ["scan"] 9 [] false,
 Fu "deed_next" 103 ["scan"] 9 [] false,
 Fu "swap_next" 104 ["scan","every","one"] 2 [] false,
 Fu "pile_next" 105 ["scan","shelf"] 1 [] false,
 Fu "add_next" 106 ["scan","first"] 1 [] false,
 Fu "number_next" 107 ["scan","least","most","figures","number"] 3 [] false,
 Fu "name_next" 108 ["scan","name"] 1 [] false,
 Fu "words_next" 109 ["scan","words"] 1 [] false,
 Fu "pattern_next" 110 ["scan","text"] 1 [] false,
 Fu "may_stand" 111 ["cond","deed"] 9 [] true,
 Fu "may_swap" 112 ["deed"] 9 [] true,
 Fu "read" 115 ["text","lines","marks"] 1 [] true,
 Fu "lines_of" 116 ["rows","lines","number","row"] 1 ["lines"] true,
 Fu "marks_of" 117 ["lines","marks","number","line"] 1 ["marks"] true,
 Fu "refuse_go_without_mark" 118 ["lines","marks","number","line"] 2 [] true,
 Fu "_law_cell_at" 120 ["_law_script","_law_k"] 9 [] true,
 Fu "_law_signs" 121 ["_law_cell","_law_some","_law_number"] 1 [] true,
 Fu "_law_row" 122 ["_law_cell","_law_signs_here","_law_some","_law_row_here","_law_number","_law_k"] 2 [] true,
 Fu "_law_pattern" 123 ["_law_cell","_law_signs_here","_law_some","_law_text","_law_number","_law_k","_law_one","_law_two","_law_three"] 2 [] true,
 Fu "_law_cond" 124 ["_law_cell","_law_signs_here","_law_way","_law_rest"] 2 [] true,
 Fu "_law_written" 125 ["_law_cond_here","_law_turned","_law_text"] 2 [] true,
 Fu "_law_part" 126 ["_law_cond_here","_law_turned","_law_part_here"] 2 [] true,
 Fu "_law_holds" 127 ["_law_cond_here","_law_rows","_law_at"] 9 [] true,
 Fu "_law_due" 128 ["_law_conds","_law_rows","_law_given","_law_log","_law_at","_law_k","_law_truth","_law_cond_here","_law_turned"] 2 ["_law_given","_law_log"] true,
 Fu "_law_exact" 129 ["_law_told","_law_due_here","_law_entry"] 2 [] true,
 Fu "law" 130 ["_law_script","_law_signs_here","_law_conds","_law_cell","_law_lines","_law_text","_law_rows","_law_ended","_law_whole","_law_told","_law_due_here","_law_parts","_law_cond_here"] 1 ["_law_conds"] true,
 Fm "Program" "__init__" "Program.__init__" 4 0 ["lines"] 9,
 Fm "Line" "__init__" "Line.__init__" 5 0 ["cond","deed"] 9,
 Fm "RowIs" "__init__" "RowIs.__init__" 8 0 ["number"] 9,
 Fm "Like" "__init__" "Like.__init__" 10 0 ["pattern"] 9,
 Fm "Soon" "__init__" "Soon.__init__" 11 0 ["many","pattern"] 9,
 Fm "FromTo" "__init__" "FromTo.__init__" 12 0 ["first","second"] 9,
 Fm "Not" "__init__" "Not.__init__" 13 0 ["inner"] 9,
 Fm "Mark" "__init__" "Mark.__init__" 16 0 ["name"] 9,
 Fm "Say" "__init__" "Say.__init__" 20 0 ["words"] 9,
 Fm "Swap" "__init__" "Swap.__init__" 21 0 ["pattern","words","every"] 9,
 Fm "Join" "__init__" "Join.__init__" 22 0 ["most"] 9,
 Fm "Pile" "__init__" "Pile.__init__" 23 0 ["shelf","most"] 9,
 Fm "Bring" "__init__" "Bring.__init__" 24 0 ["shelf"] 9,
 Fm "Go" "__init__" "Go.__init__" 25 0 ["name"] 9,
 Fm "Add" "__init__" "Add.__init__" 26 0 ["first","second"] 9,
 Fm "TextRow" "__init__" "TextRow.__init__" 70 0 ["text","number"] 9,
 Fm "TextRow" "has" "TextRow.has" 70 1 ["one","name"] 1,
 Fm "Truths" "__init__" "Truths.__init__" 72 0 ["lines"] 9,
 ⟨some "Truths","told_of","Truths.told_of",inClass (top 72) 1,["self","row","behind","truths","place","cond"],["self","row","behind"],["truths"],false,[]⟩,
 Fm "Truths" "truth" "Truths.truth" 72 2 ["place","cond","row","behind"] 9,
 Fm "Truths" "truth_of_stretch" "Truths.truth_of_stretch" 72 3 ["place","cond","row"] 9,
 Fm "Walker" "__init__" "Walker.__init__" 83 0 ["program"] 9,
 Fm "Walker" "want" "Walker.want" 83 1 [] 9,
 Fm "Walker" "take" "Walker.take" 83 2 ["row","behind"] 9,
 Fm "Walker" "take_with" "Walker.take_with" 83 3 ["text","truths"] 9,
 Fm "Walker" "go_on" "Walker.go_on" 83 4 [] 9,
 Fm "Walker" "meet" "Walker.meet" 83 5 ["line","number","truth"] 2,
 Fm "Walker" "hand_over" "Walker.hand_over" 83 6 [] 9,
 Fm "Walker" "finish" "Walker.finish" 83 7 ["line"] 0,
 Fm "Walker" "find_none" "Walker.find_none" 83 8 [] 9,
 Fm "Walker" "give" "Walker.give" 83 9 ["row"] 9,
 Fm "Walker" "end_turn" "Walker.end_turn" 83 10 [] 9,
 Fm "Walker" "give_hand_and_end" "Walker.give_hand_and_end" 83 11 [] 9,
 Fm "Walker" "do" "Walker.do" 83 12 ["deed","number"] 9,
 Fm "Walker" "do_giving" "Walker.do_giving" 83 13 ["deed"] 9,
 Fm "Walker" "do_swap" "Walker.do_swap" 83 14 ["deed"] 9,
 Fm "Walker" "do_join" "Walker.do_join" 83 15 ["deed"] 9,
 Fm "Walker" "do_pile" "Walker.do_pile" 83 16 ["deed","things"] 1,
 Fm "Walker" "do_bring" "Walker.do_bring" 83 17 ["deed","thing"] 1,
 Fm "Walker" "rows_on_shelves" "Walker.rows_on_shelves" 83 18 [] 9,
 Fm "Walker" "do_add" "Walker.do_add" 83 19 ["deed","number","name","word","amount"] 2,
 Fm "Walker" "do_tell" "Walker.do_tell" 83 20 ["name"] 0,
 Fm "Scan" "__init__" "Scan.__init__" 97 0 ["row","number"] 9,
 Fm "Scan" "refuse" "Scan.refuse" 97 1 [] 9,
 Fm "Scan" "passes" "Scan.passes" 97 2 ["words"] 9,
 Fm "Scan" "must_pass" "Scan.must_pass" 97 3 ["words"] 9,
 Fm "Scan" "while_made_of" "Scan.while_made_of" 97 4 ["signs","taken"] 1,
 Fm "Scan" "between" "Scan.between" 97 5 ["sign","place","inside"] 1]
noncomputable def It:IS:=[("Program",64),("Line",65),("RowIs",66),("Like",67),("Soon",68),("FromTo",69),("Not",70),("Mark",71),("Say",72),("Swap",73),("Join",74),("Pile",75),("Bring",76),("Go",77),("Add",78),("TextRow",79),("Truths",81),("Walker",85),("Scan",106)]
noncomputable abbrev cN:=jz M Ft
def t1(ai:Nat->Fn):Fn:=aQ (aK 1 2 (af (aG 1 (pU splitM (vF 0) (k1 (cS [10]))))
 (af (aU (bw (oE (oI (vF 1) (cu gT (cI 1))) (cS [])))
  (aB (aR bQ (k2 (mZ (vF 1) wH (jY (cu gT (cI 1)))) (cF (.bl true)))))
  aC)
 (aB (aR bQ (k2 (vF 1) (cF (.bl false))))))))
theorem w1:cN (n+1) 1=t1 (cN n):=rfl
def t2(ai:Nat->Fn):Fn:=aQ (aK 2 2 (aB (aR HV (k1 (eX (cW (sy (vF 0)) 2 [1] (setG 1) dG (bB (aH .In) (vF 1) (vF 2))))))))
theorem w2:cN (n+1) 2=t2 (cN n):=rfl
def t3(ai:Nat->Fn):Fn:=aQ (aK 2 3 (af (aG 2 (cI 0))
 (af (lG many (gX (bw (bB (aH .Lt) (vF 2) (aR bJ (k1 (vF 0))))) (bw (bB (aH .In) (oI (vF 0) (vF 2)) (vF 1))))
  (Dt iF 2 (cI 1)))
 (aB (mZ (vF 0) wH (jY (vF 2)))))))
theorem w3:cN (n+1) 3=t3 (cN n):=rfl
def t4(ai:Nat->Fn):Fn:=aQ (aK 1 1 (aB (ko (bB (aH .In) (vF 0) (cS Ff)) (bB (aH .NotIn) (vF 0) (cS [94,36,46,91,93,42,43,63,47])))))
theorem w4:cN (n+1) 4=t4 (cN n):=rfl
def t5(ai:Nat->Fn):Fn:=aQ (aK 1 5 (af (aU (dR (tB (cu (D7 "str") (vF 0))))
  cM
  aC)
 (af (aU (dR (tB (ao (ai 2) [] (k2 (vF 0) (cS Ff)))))
  cM
  aC)
 (af (aG 1 (pU A9 (vF 0) (k1 (cS [94]))))
 (af (aG 2 (uK (tB (vF 1)) (mZ (vF 0) (jY (cI 1)) wH) (vF 0)))
 (af (aG 3 (pU Xw (vF 2) (k1 (cS [36]))))
 (af (aG 4 (ao (ai 6) [] (k1 (uK (tB (vF 3)) (mZ (vF 2) wH (jY (cu gT (cI 1)))) (vF 2)))))
 (af (aU (bw (bB (aH .Gt) (aR bJ (k1 (vF 4))) (cI 8)))
  cM
  aC)
 (aB (aR bQ (k3 (vF 1) (vF 4) (vF 3))))))))))))
theorem w5:cN (n+1) 5=t5 (cN n):=rfl
def t6(ai:Nat->Fn):Fn:=aQ (aK 1 5 (af (gj 1 (mO aZ))
 (af (aG 2 (cI 0))
 (af (lG many (bw (bB (aH .Lt) (vF 2) (aR bJ (k1 (vF 0)))))
  (af (aG 3 (ao (ai 7) [] (k2 (vF 0) (vF 2))))
 (af (aG 4 (ao (ai 8) [] (k2 (vF 0) (vF 3))))
 (af (dU 1 (ao (ai 9) [] (k2 (mZ (vF 0) (jY (vF 2)) (jY (vF 3))) (vF 4))))
 (aG 2 (uK (bw (oE (vF 4) (cS [49]))) (vF 3) (oA (vF 3) (cI 1))))))))
 (aB (vF 1))))))
theorem w6:cN (n+1) 6=t6 (cN n):=rfl
def t7(ai:Nat->Fn):Fn:=aQ (aK 2 3 (af (aU (bw (bB (aH .NotEq) (oI (vF 0) (vF 1)) (cS [91])))
  (aB (oA (vF 1) (cI 1)))
  aC)
 (af (aG 2 (pU oH (vF 0) (k2 (cS [93]) (vF 1))))
 (af (aU (bw (oE (vF 2) (cu gT (cI 1))))
  cM
  aC)
 (aB (oA (vF 2) (cI 1)))))))
theorem w7:cN (n+1) 7=t7 (cN n):=rfl
def t8(ai:Nat->Fn):Fn:=aQ (aK 2 2 (af (aU (gX (bw (bB (aH .Lt) (vF 1) (aR bJ (k1 (vF 0))))) (bw (bB (aH .In) (oI (vF 0) (vF 1)) (cS [42,43,63]))))
  (aB (oI (vF 0) (vF 1)))
  aC)
 (aB (cS [49]))))
theorem w8:cN (n+1) 8=t8 (cN n):=rfl
def t9(ai:Nat->Fn):Fn:=aQ (aK 2 2 (af (aU (bw (oE (vF 0) (cS [46])))
  (aB (aR bQ (k3 (cS []) (cF (.bl true)) (vF 1))))
  aC)
 (af (aU (tB (pU A9 (vF 0) (k1 (cS [91]))))
  (aB (ao (ai 10) [] (k2 (mZ (vF 0) (jY (cI 1)) (jY (cu gT (cI 1)))) (vF 1))))
  aC)
 (af (aU (dR (tB (ao (ai 4) [] (k1 (vF 0)))))
  cM
  aC)
 (aB (aR bQ (k3 (vF 0) (cF (.bl false)) (vF 1))))))))
theorem w9:cN (n+1) 9=t9 (cN n):=rfl
def t10(ai:Nat->Fn):Fn:=aQ (aK 2 4 (af (aG 2 (pU A9 (vF 0) (k1 (cS [94]))))
 (af (aG 3 (uK (tB (vF 2)) (mZ (vF 0) (jY (cI 1)) wH) (vF 0)))
 (af (aU (qo (bw (oE (vF 3) (cS []))) (bw (bB (aH .Gt) (aR bJ (k1 (vF 3))) (cI 12))))
  cM
  aC)
 (af (aU (tB (aR mQ (k1 (eX (cW (sy (vF 3)) 2 [] (setG 1) dG (bB (aH .In) (vF 1) (cS [93,94,47])))))))
  cM
  aC)
 (af (aU (bw (bB (aH .NotEq) (cu sQ (vF 3)) (aR bJ (k1 (vF 3)))))
  cM
  aC)
 (af (aU (tB (ao (ai 11) [] (k2 (vF 3) (vF 2))))
  cM
  aC)
 (aB (aR bQ (k3 (vF 3) (vF 2) (vF 1)))))))))))
theorem WH:cN (n+1) 10=t10 (cN n):=rfl
def t11(ai:Nat->Fn):Fn:=aQ (aK 2 2 (aB (ko (uJ (vF 1)) (ko (oE (aR bJ (k1 (vF 0))) (cI 1)) (ao (ai 4) [] (k1 (vF 0)))))))
theorem w11:cN (n+1) 11=t11 (cN n):=rfl
def t12(ai:Nat->Fn):Fn:=aQ (aK 1 5 (af (gj 1 (mO (k1 (uK (tB (oI (vF 0) (cI 0))) (cS [94]) (cS [])))))
 (af (fW (Ef (oI (vF 0) (cI 1))) (dh [2,3,4])
  (af (dU 1 (ao (ai 13) [] (k2 (vF 2) (vF 3))))
 (dU 1 (uK (bw (oE (vF 4) (cS [49]))) (cS []) (vF 4)))))
 (af (dU 1 (uK (tB (oI (vF 0) (cI 2))) (cS [36]) (cS [])))
 (aB (pU joinM (cS []) (k1 (vF 1))))))))
theorem w12:cN (n+1) 12=t12 (cN n):=rfl
def t13(ai:Nat->Fn):Fn:=aQ (aK 2 2 (af (aU (bw (oE (vF 0) (cS [])))
  (aB (cS [46]))
  aC)
 (af (aU (tB (vF 1))
  (aB (cu (u2 [91,94] [93]) (vF 0)))
  aC)
 (af (aU (tB (ao (ai 11) [] (k2 (vF 0) (vF 1))))
  (aB (vF 0))
  aC)
 (aB (cu (u2 [91] [93]) (vF 0)))))))
theorem w13:cN (n+1) 13=t13 (cN n):=rfl
def t16(ai:Nat->Fn):Fn:=aQ (aK 1 1 (aB (bB (aH .In) (oI (vF 0) (cI 2)) (aR bQ (k2 (cS [42]) (cS [63]))))))
theorem w16:cN (n+1) 16=t16 (cN n):=rfl
def t17(ai:Nat->Fn):Fn:=aQ (aK 1 1 (aB (bB (aH .In) (oI (vF 0) (cI 2)) (aR bQ (k2 (cS [42]) (cS [43]))))))
theorem w17:cN (n+1) 17=t17 (cN n):=rfl
def t18(ai:Nat->Fn):Fn:=aQ (aK 3 5 (af (aG 3 (ao (ai 20) [] (k2 (vF 0) (vF 1))))
 (af (fW (tR jt (k2 (vF 2) (aR bJ (k1 (vF 3))))) (setG 4)
  (aU (bw (bB (aH .NotEq) (oI (vF 3) (vF 4)) (cI (-1))))
  (aB (aR bQ (k2 (vF 4) (oI (vF 3) (vF 4)))))
  aC))
 (aB (cF .non)))))
theorem w18:cN (n+1) 18=t18 (cN n):=rfl
def t19(ai:Nat->Fn):Fn:=aQ (aK 2 2 (aB (bB (aH .IsNot) (ao (ai 18) [(.int (0))] (k2 (vF 0) (vF 1))) (cF .non))))
theorem w19:cN (n+1) 19=t19 (cN n):=rfl
def t20(ai:Nat->Fn):Fn:=aQ (aK 2 4 (af (aG 2 (ao (ai 21) [] (k2 (vF 1) (oI (vF 0) (cI 2)))))
 (af (fW (o1 N9 (oI (vF 0) (cI 1))) (setG 3)
  (aG 2 (ao (ai 22) [] (k3 (vF 3) (vF 1) (vF 2)))))
 (aB (uK (tB (oI (vF 0) (cI 0))) (mZ (vF 2) wH (jY (cI 1))) (vF 2))))))
theorem w20:cN (n+1) 20=t20 (cN n):=rfl
def t21(ai:Nat->Fn):Fn:=aQ (aK 2 2 (af (aU (tB (vF 1))
  (aB (oA (bB (fY .Mult) (aR dQ (k1 (cI (-1)))) (aR bJ (k1 (vF 0)))) (aR dQ (k1 (aR bJ (k1 (vF 0)))))))
  aC)
 (aB (eX (o1 Bj (oA (aR bJ (k1 (vF 0))) (cI 1)))))))
theorem w21:cN (n+1) 21=t21 (cN n):=rfl
def t22(ai:Nat->Fn):Fn:=aQ (aK 3 9 (af (aG 3 (oI (vF 0) (cI 0)))
 (af (aG 4 (oI (vF 0) (cI 1)))
 (af (aG 5 (ao (ai 17) [] (k1 (vF 0))))
 (af (gj 6 (VF (tB (ao (ai 16) [] (k1 (vF 0)))) (o1 XU (vF 2)) (o2 Et (aR dQ (k1 (cI (-1)))) (aR bJ (k1 (vF 2))))))
 (af (fW (tR Bk (k3 (bB (fY .Sub) (aR bJ (k1 (vF 1))) (cI 1)) (cu gT (cI 1)) (cu gT (cI 1)))) (setG 7)
  (aU (bw (bB (aH .NotEq) (bB (aH .In) (oI (vF 1) (vF 7)) (vF 3)) (vF 4)))
  (af (aG 8 (oI (vF 2) (oA (vF 7) (cI 1))))
 (af (aU (gX (tB (vF 5)) (bw (bB (aH .Gt) (lF 6 (oA (vF 7) (cI 1))) (vF 8))))
  (aG 8 (lF 6 (oA (vF 7) (cI 1))))
  aC)
 (aU (bw (bB (aH .Gt) (vF 8) (lF 6 (vF 7))))
  (Lo 6 (vF 7) (vF 8))
  aC)))
  aC))
 (aB (vF 6))))))))
theorem w22:cN (n+1) 22=t22 (cN n):=rfl
def t23(ai:Nat->Fn):Fn:=aK 1 1 (aB (eX (cW (iD 1 (vF 0)) 3 [] (dh [1,2]) dG (kq 24 (ai 79) (k2 (vF 2) (vF 1))))))
theorem w23:cN (n+1) 23=t23 (cN n):=rfl
def t24(ai:Nat->Fn):Fn:=aK 2 2 (af (aU (tB (cu (gH M.P.sub [4]) (vF 0)))
  (aB (oE (aE M.P.tab 3 (vF 0)) (aE M.P.tab 3 (vF 1))))
  aC)
 (af (aU (tB (cu (gH M.P.sub [6]) (vF 0)))
  (aB (aw (ak [(24,80)] ai) (vF 1) (k1 (aE M.P.tab 4 (vF 0)))))
  aC)
 (aB (cF (.bl true)))))
theorem Yq:cN (n+1) 24=t24 (cN n):=rfl
def t31(ai:Nat->Fn):Fn:=aQ (aK 1 1 (aB (eX (cW (sy (vF 0)) 2 [] (setG 1) (bw (oE (oI (vF 1) (cI 0)) (cS [103,105,118,101]))) (oI (vF 1) (cI 1))))))
theorem w31:cN (n+1) 31=t31 (cN n):=rfl
def t32(ai:Nat->Fn):Fn:=aQ (aK 1 4 (af (zA 1)
 (af (fW (iD 1 (vF 0)) (dh [2,3])
  (aU (tB (cu (gH M.P.sub [12]) (aE M.P.tab 2 (vF 3))))
  (Lo 1 (aE M.P.tab 9 (aE M.P.tab 2 (vF 3))) (vF 2))
  aC))
 (aB (vF 1)))))
theorem w32:cN (n+1) 32=t32 (cN n):=rfl
def t33(ai:Nat->Fn):Fn:=aQ (aK 2 6 (af (aG 2 (ao (ai 23) [] (k1 (oI (ao (ai 1) [] (k1 (vF 1))) (cI 0)))))
 (af (aG 3 (kq 26 (ai 85) (k1 (vF 0))))
 (af (fW (iD 1 (vF 2)) (dh [4,5])
  (aN (aw (ak [(26,87)] ai) (vF 3) (k2 (vF 5) (mZ (vF 2) (jY (vF 4)) wH)))))
 (af (aN (aw (ak [(26,92)] ai) (vF 3) aZ))
 (aB (aR bQ (bK (ao (ai 31) [] (k1 (il M.bc M.P.tab 29 (vF 3)))) (k3 (il M.bc M.P.tab 27 (vF 3)) (il M.bc M.P.tab 28 (vF 3)) (il M.bc M.P.tab 29 (vF 3)))))))))))
theorem w33:cN (n+1) 33=t33 (cN n):=rfl
def t34(ai:Nat->Fn):Fn:=aQ (aK 2 4 (af (aG 2 (kq 27 (ai 106) (k2 (vF 0) (vF 1))))
 (af (aG 3 (ao (ai 35) [] (k1 (vF 2))))
 (af (aU (qo (bw (bB (aH .NotEq) (aE M.P.tab 31 (vF 2)) (cS []))) (dR (tB (ao (ai 47) [] (k2 (aE M.P.tab 1 (vF 3)) (aE M.P.tab 2 (vF 3)))))))
  (aN (aw (ak [(27,107)] ai) (vF 2) aZ))
  aC)
 (aB (vF 3))))))
theorem w34:cN (n+1) 34=t34 (cN n):=rfl
def t35(ai:Nat->Fn):Fn:=aK 1 2 (af (aU (tB (aw (ak [(27,108)] ai) (vF 0) (k1 (cS [109,97,114,107,32]))))
  (aB (cT 1 2 (k2 (cT 3 0 aZ) (cT 12 1 (k1 (ao (ai 44) [] (k1 (vF 0))))))))
  aC)
 (af (aU (dR (tB (aR mQ (k1 (eX (cW (sy (cF (.tup [(.str [114,111,119,32]),(.str [108,97,115,116]),(.str [47]),(.str [115,111,111,110,32]),(.str [102,114,111,109,32]),(.str [110,111,116,32]),(.str [101,110,100])]))) 2 [0] (setG 1) dG (pU A9 (aE M.P.tab 31 (vF 2)) (k1 (vF 1)))))))))
  (aB (cT 1 2 (k2 (cT 3 0 aZ) (ao (ai 39) [] (k1 (vF 0))))))
  aC)
 (af (aG 1 (ao (ai 36) [] (k1 (vF 0))))
 (af (aN (aw (ak [(27,109)] ai) (vF 0) (k1 (cS [58,32]))))
 (aB (cT 1 2 (k2 (vF 1) (ao (ai 39) [] (k1 (vF 0))))))))))
theorem w35:cN (n+1) 35=t35 (cN n):=rfl
def t36(ai:Nat->Fn):Fn:=aK 1 1 (af (aU (tB (aw (ak [(27,108)] ai) (vF 0) (k1 (cS [101,110,100]))))
  (aB (cT 10 0 aZ))
  aC)
 (af (aU (tB (aw (ak [(27,108)] ai) (vF 0) (k1 (cS [110,111,116,32]))))
  (aB (cT 9 1 (k1 (ao (ai 37) [] (k1 (vF 0))))))
  aC)
 (aB (ao (ai 37) [] (k1 (vF 0))))))
theorem w36:cN (n+1) 36=t36 (cN n):=rfl
def t37(ai:Nat->Fn):Fn:=aK 1 3 (af (aU (tB (aw (ak [(27,108)] ai) (vF 0) (k1 (cS [108,97,115,116]))))
  (aB (cT 5 0 aZ))
  aC)
 (af (aU (tB (aw (ak [(27,108)] ai) (vF 0) (k1 (cS [115,111,111,110,32]))))
  (af (aG 1 (ao (ai 43) [] (k3 (vF 0) (cI 1) (cI 3))))
 (af (aN (aw (ak [(27,109)] ai) (vF 0) (k1 (cS [32]))))
 (aB (cT 7 2 (k2 (vF 1) (ao (ai 46) [] (k1 (vF 0))))))))
  aC)
 (af (aU (tB (aw (ak [(27,108)] ai) (vF 0) (k1 (cS [102,114,111,109,32]))))
  (af (aG 2 (ao (ai 38) [] (k1 (vF 0))))
 (af (aN (aw (ak [(27,109)] ai) (vF 0) (k1 (cS [32,116,111,32]))))
 (aB (cT 8 2 (k2 (vF 2) (ao (ai 38) [] (k1 (vF 0))))))))
  aC)
 (aB (ao (ai 38) [] (k1 (vF 0)))))))
theorem w37:cN (n+1) 37=t37 (cN n):=rfl
def t38(ai:Nat->Fn):Fn:=aK 1 1 (af (aU (tB (aw (ak [(27,108)] ai) (vF 0) (k1 (cS [114,111,119,32]))))
  (aB (cT 4 1 (k1 (ao (ai 43) [] (k3 (vF 0) (cI 1) (cI 999))))))
  aC)
 (aB (cT 6 1 (k1 (ao (ai 46) [] (k1 (vF 0)))))))
theorem w38:cN (n+1) 38=t38 (cN n):=rfl
def t39(ai:Nat->Fn):Fn:=aK 1 1 (af (aU (tB (aw (ak [(27,108)] ai) (vF 0) (k1 (cS [100,114,111,112]))))
  (aB (cT 13 0 aZ))
  aC)
 (af (aU (tB (aw (ak [(27,108)] ai) (vF 0) (k1 (cS [112,114,105,110,116]))))
  (aB (cT 14 0 aZ))
  aC)
 (af (aU (tB (aw (ak [(27,108)] ai) (vF 0) (k1 (cS [100,111,110,101]))))
  (aB (cT 15 0 aZ))
  aC)
 (af (aU (tB (aw (ak [(27,108)] ai) (vF 0) (k1 (cS [116,101,108,108]))))
  (aB (cT 23 0 aZ))
  aC)
 (af (aU (tB (aw (ak [(27,108)] ai) (vF 0) (k1 (cS [115,97,121,32]))))
  (aB (cT 16 1 (k1 (ao (ai 45) [] (k1 (vF 0))))))
  aC)
 (af (aU (tB (aw (ak [(27,108)] ai) (vF 0) (k1 (cS [115,119,97,112,32,101,118,101,114,121,32]))))
  (aB (ao (ai 40) [] (k2 (vF 0) (cF (.bl true)))))
  aC)
 (af (aU (tB (aw (ak [(27,108)] ai) (vF 0) (k1 (cS [115,119,97,112,32]))))
  (aB (ao (ai 40) [] (k2 (vF 0) (cF (.bl false)))))
  aC)
 (af (aU (tB (aw (ak [(27,108)] ai) (vF 0) (k1 (cS [106,111,105,110,32]))))
  (aB (cT 18 1 (k1 (ao (ai 43) [] (k3 (vF 0) (cI 2) (cI 9))))))
  aC)
 (af (aU (tB (aw (ak [(27,108)] ai) (vF 0) (k1 (cS [112,105,108,101,32]))))
  (aB (ao (ai 41) [] (k1 (vF 0))))
  aC)
 (af (aU (tB (aw (ak [(27,108)] ai) (vF 0) (k1 (cS [98,114,105,110,103,32]))))
  (aB (cT 20 1 (k1 (ao (ai 44) [] (k1 (vF 0))))))
  aC)
 (af (aU (tB (aw (ak [(27,108)] ai) (vF 0) (k1 (cS [103,111,32]))))
  (aB (cT 21 1 (k1 (ao (ai 44) [] (k1 (vF 0))))))
  aC)
 (af (aN (aw (ak [(27,109)] ai) (vF 0) (k1 (cS [97,100,100,32]))))
 (aB (ao (ai 42) [] (k1 (vF 0))))))))))))))))
theorem w39:cN (n+1) 39=t39 (cN n):=rfl
def t43(ai:Nat->Fn):Fn:=aK 3 5 (af (aG 3 (aw (ak [(27,110)] ai) (vF 0) (k1 (cS [48,49,50,51,52,53,54,55,56,57]))))
 (af (aU (qo (bw (oE (vF 3) (cS []))) (qo (tB (pU A9 (vF 3) (k1 (cS [48])))) (bw (bB (aH .Gt) (aR bJ (k1 (vF 3))) (cI 3)))))
  (aN (aw (ak [(27,107)] ai) (vF 0) aZ))
  aC)
 (af (aG 4 (aR sH (k1 (vF 3))))
 (af (aU (qo (bw (bB (aH .Lt) (vF 4) (vF 1))) (bw (bB (aH .Gt) (vF 4) (vF 2))))
  (aN (aw (ak [(27,107)] ai) (vF 0) aZ))
  aC)
 (aB (vF 4))))))
theorem w43:cN (n+1) 43=t43 (cN n):=rfl
def t45(ai:Nat->Fn):Fn:=aK 1 2 (af (aG 1 (aw (ak [(27,111)] ai) (vF 0) (k1 (cS [34]))))
 (af (aU (qo (bw (bB (aH .Gt) (aR bJ (k1 (vF 1))) (cI 40))) (dR (tB (ao (ai 2) [] (k2 (vF 1) (cS Ff))))))
  (aN (aw (ak [(27,107)] ai) (vF 0) aZ))
  aC)
 (aB (vF 1))))
theorem w45:cN (n+1) 45=t45 (cN n):=rfl
def t46(ai:Nat->Fn):Fn:=aK 1 2 (af (aG 1 (aw (ak [(27,111)] ai) (vF 0) (k1 (cS [47]))))
 (aB (ao (ai 5) [] (k1 (vF 1)))))
theorem w46:cN (n+1) 46=t46 (cN n):=rfl
def t47(ai:Nat->Fn):Fn:=aQ (aK 2 2 (af (aU (tB (cu (gH M.P.sub [10]) (vF 0)))
  (aB (cu (gH M.P.sub [16,20,23]) (vF 1)))
  aC)
 (af (aU (tB (cu (gH M.P.sub [17]) (vF 1)))
  (aB (ao (ai 48) [] (k1 (vF 1))))
  aC)
 (aB (uJ (cu (gH M.P.sub [23]) (vF 1)))))))
theorem w47:cN (n+1) 47=t47 (cN n):=rfl
def t49(ai:Nat->Fn):Fn:=aQ (aK 1 3 (af (aG 1 (ao (ai 50) [] (k1 (oI (ao (ai 1) [] (k1 (vF 0))) (cI 0)))))
 (af (aG 2 (ao (ai 51) [] (k1 (vF 1))))
 (af (aN (ao (ai 52) [] (k2 (vF 1) (vF 2))))
 (aB (cu (Dr 0) (vF 1)))))))
theorem w49:cN (n+1) 49=t49 (cN n):=rfl
def t50(ai:Nat->Fn):Fn:=aQ (aK 1 4 (af (gj 1 (mO aZ))
 (af (fW (iD 1 (vF 0)) (dh [2,3])
  (af (aU (bw (bB (aH .Gt) (vF 2) (cI 24)))
  cM
  aC)
 (dU 1 (ao (ai 34) [] (k2 (vF 3) (vF 2))))))
 (aB (vF 1)))))
theorem w50:cN (n+1) 50=t50 (cN n):=rfl
def t51(ai:Nat->Fn):Fn:=aQ (aK 1 4 (af (zA 1)
 (af (fW (iD 1 (vF 0)) (dh [2,3])
  (aU (tB (cu (gH M.P.sub [12]) (aE M.P.tab 2 (vF 3))))
  (af (aU (bw (PZ .In false 1 (aE M.P.tab 9 (aE M.P.tab 2 (vF 3)))))
  cM
  aC)
 (Lo 1 (aE M.P.tab 9 (aE M.P.tab 2 (vF 3))) (cF (.bl true))))
  aC))
 (aB (vF 1)))))
theorem w51:cN (n+1) 51=t51 (cN n):=rfl
def t52(ai:Nat->Fn):Fn:=aQ (aK 2 4 (fW (iD 1 (vF 0)) (dh [2,3])
  (aU (gX (tB (cu (gH M.P.sub [21]) (aE M.P.tab 2 (vF 3)))) (bw (bB (aH .NotIn) (aE M.P.tab 9 (aE M.P.tab 2 (vF 3))) (vF 1))))
  cM
  aC)))
theorem w52:cN (n+1) 52=t52 (cN n):=rfl
def t53(ai:Nat->Fn):Fn:=aQ (aK 2 2 (af (aU (bw (bB (aH .Lt) (vF 1) (aR bJ (k1 (vF 0)))))
  (aB (oI (vF 0) (vF 1)))
  aC)
 (aB (cI 0))))
theorem w53:cN (n+1) 53=t53 (cN n):=rfl
def t54(ai:Nat->Fn):Fn:=aQ (aK 1 3 (af (aG 1 (aR dQ (k3 (cS Us) (cS Ut) (cS Uu))))
 (af (aG 2 (oM (bB (fY .Mult) (vF 0) (cI 16807)) (cI 1000003)))
 (aB (aR dQ (k3 (oI (oI (vF 1) (cI 0)) (oM (vF 2) (cI 24))) (oI (oI (vF 1) (cI 1)) (oM (oD (vF 2) (cI 24)) (cI 27))) (oI (oI (vF 1) (cI 2)) (oM (oD (vF 2) (cI 648)) (cI 33)))))))))
theorem w54:cN (n+1) 54=t54 (cN n):=rfl
def t55(ai:Nat->Fn):Fn:=aQ (aK 2 6 (af (aG 2 (oA (vF 1) (aR dQ (bK (cS [32]) (k3 (cS [49]) (cS [45]) (oI (vF 1) (cI 0)))))))
 (af (aG 3 (cS []))
 (af (aG 4 (oM (bB (fY .Mult) (vF 0) (cI 40693)) (cI 65537)))
 (af (fW (tR jt (k1 (oM (vF 0) (cI 6)))) (setG 5)
  (af (aG 3 (oA (vF 3) (oI (vF 2) (oM (vF 4) (cI 7)))))
 (aG 4 (oM (oA (oA (bB (fY .Mult) (vF 4) (cI 48271)) (bB (fY .Mult) (vF 5) (vF 5))) (cI 5)) (cI 65537)))))
 (aB (vF 3)))))))
theorem w55:cN (n+1) 55=t55 (cN n):=rfl
def t56(ai:Nat->Fn):Fn:=aQ (aK 2 9 (af (uL (Ew [6,7,8]) (vF 1))
 (af (aG 2 (aR dQ (bK (vF 6) (bK (vF 7) (bK (vF 8) (bK (cS [46]) (k3 (oA (oA (oA (cS [91]) (vF 6)) (vF 7)) (cS [93])) (oA (oA (cS [91,94]) (vF 6)) (cS [93])) (oA (oA (oA (cS [91,94]) (vF 7)) (vF 8)) (cS [93])))))))))
 (af (aG 3 (oI (aR dQ (k3 (cS []) (cS []) (cS [94]))) (oM (oD (vF 0) (cI 4)) (cI 3))))
 (af (aG 4 (oM (oD (vF 0) (cI 36)) (cI 65537)))
 (af (fW (tR jt (k1 (oM (vF 0) (cI 4)))) (setG 5)
  (af (aG 4 (oM (oA (oA (bB (fY .Mult) (vF 4) (cI 48271)) (bB (fY .Mult) (vF 5) (vF 5))) (cI 3)) (cI 65537)))
 (aG 3 (oA (oA (vF 3) (oI (vF 2) (oM (vF 4) (cI 7)))) (oI (aR dQ (bK (cS []) (bK (cS []) (bK (cS [42]) (k3 (cS [43]) (cS [63]) (cS [])))))) (oM (oD (vF 4) (cI 7)) (cI 6)))))))
 (aB (oA (vF 3) (oI (aR dQ (k3 (cS []) (cS []) (cS [36]))) (oM (oD (vF 0) (cI 12)) (cI 3)))))))))))
theorem w56:cN (n+1) 56=t56 (cN n):=rfl
def t57(ai:Nat->Fn):Fn:=aQ (aK 2 4 (af (aG 2 (oM (vF 0) (cI 5)))
 (af (aG 3 (oM (bB (fY .Mult) (vF 0) (cI 69623)) (cI 1000003)))
 (af (aU (bw (oE (vF 2) (cI 1)))
  (aB (aR bQ (k2 (cS [114,111,119]) (oA (cI 1) (oM (vF 3) (cI 9))))))
  aC)
 (af (aU (bw (oE (vF 2) (cI 2)))
  (aB (aR bQ (k1 (cS [108,97,115,116]))))
  aC)
 (af (aU (bw (oE (vF 2) (cI 3)))
  (aB (aR bQ (k2 (cS [108,105,107,101]) (ao (ai 56) [] (k2 (vF 3) (vF 1))))))
  aC)
 (af (aU (bw (oE (vF 2) (cI 4)))
  (aB (aR bQ (k3 (cS [115,111,111,110]) (oA (cI 1) (oM (vF 3) (cI 3))) (ao (ai 56) [] (k2 (oD (vF 3) (cI 3)) (vF 1))))))
  aC)
 (aB (aR bQ (k1 (cS [])))))))))))
theorem w57:cN (n+1) 57=t57 (cN n):=rfl
def t58(ai:Nat->Fn):Fn:=aQ (aK 2 3 (af (aG 2 (bB xC (cF (.du [.s [],.s [114,111,119],.s [108,97,115,116],.s [108,105,107,101],.s [115,111,111,110]] [(.str []),(.str [114,111,119,32]),(.str [108,97,115,116]),(.str []),(.str [115,111,111,110,32])])) (oI (vF 0) (cI 0))))
 (af (aU (bw (oE (oI (vF 0) (cI 0)) (cS [114,111,119])))
  (aG 2 (oA (vF 2) (aR strN (k1 (oI (vF 0) (cI 1))))))
  aC)
 (af (aU (bw (oE (oI (vF 0) (cI 0)) (cS [115,111,111,110])))
  (aG 2 (oA (oA (vF 2) (aR strN (k1 (oI (vF 0) (cI 1))))) (cS [32])))
  aC)
 (af (aU (qo (bw (oE (oI (vF 0) (cI 0)) (cS [115,111,111,110]))) (bw (oE (oI (vF 0) (cI 0)) (cS [108,105,107,101]))))
  (aG 2 (oA (oA (oA (vF 2) (cS [47])) (oI (vF 0) (cu gT (cI 1)))) (cS [47])))
  aC)
 (af (aU (bw (oE (vF 2) (cS [])))
  (aB (cS []))
  aC)
 (aB (oA (oA (oI (aR dQ (k2 (cS []) (cS [110,111,116,32]))) (aR sH (k1 (vF 1)))) (vF 2)) (cS [58,32])))))))))
theorem w58:cN (n+1) 58=t58 (cN n):=rfl
def t59(ai:Nat->Fn):Fn:=aQ (aK 2 3 (af (aG 2 (cT 3 0 aZ))
 (af (aU (bw (oE (oI (vF 0) (cI 0)) (cS [114,111,119])))
  (aG 2 (cT 4 1 (k1 (oI (vF 0) (cI 1)))))
  aC)
 (af (aU (bw (oE (oI (vF 0) (cI 0)) (cS [108,97,115,116])))
  (aG 2 (cT 5 0 aZ))
  aC)
 (af (aU (bw (oE (oI (vF 0) (cI 0)) (cS [108,105,107,101])))
  (aG 2 (cT 6 1 (k1 (ao (ai 5) [] (k1 (oI (vF 0) (cI 1)))))))
  aC)
 (af (aU (bw (oE (oI (vF 0) (cI 0)) (cS [115,111,111,110])))
  (aG 2 (cT 7 2 (k2 (oI (vF 0) (cI 1)) (ao (ai 5) [] (k1 (oI (vF 0) (cI 2)))))))
  aC)
 (af (aU (tB (vF 1))
  (aB (cT 9 1 (k1 (vF 2))))
  aC)
 (aB (vF 2)))))))))
theorem w59:cN (n+1) 59=t59 (cN n):=rfl
def t60(ai:Nat->Fn):Fn:=aQ (aK 3 3 (af (aU (bw (oE (oI (vF 0) (cI 0)) (cS [114,111,119])))
  (aB (oE (oA (vF 2) (cI 1)) (oI (vF 0) (cI 1))))
  aC)
 (af (aU (bw (oE (oI (vF 0) (cI 0)) (cS [108,97,115,116])))
  (aB (oE (oA (vF 2) (cI 1)) (aR bJ (k1 (vF 1)))))
  aC)
 (af (aU (bw (oE (oI (vF 0) (cI 0)) (cS [108,105,107,101])))
  (aB (ao (ai 19) [] (k2 (ao (ai 5) [] (k1 (oI (vF 0) (cI 1)))) (oI (vF 1) (vF 2)))))
  aC)
 (af (aU (bw (oE (oI (vF 0) (cI 0)) (cS [115,111,111,110])))
  (aB (aR mQ (k1 (eX (cW (sy (mZ (vF 1) (jY (oA (vF 2) (cI 1))) (jY (oA (oA (vF 2) (cI 1)) (oI (vF 0) (cI 1)))))) 2 [0] (setG 1) dG (ao (ai 19) [] (k2 (ao (ai 5) [] (k1 (oI (vF 2) (cI 2)))) (vF 1))))))))
  aC)
 (aB (cF (.bl true))))))))
theorem w60:cN (n+1) 60=t60 (cN n):=rfl
def t61(ai:Nat->Fn):Fn:=aQ (aK 2 9 (af (gj 2 (mO aZ))
 (af (gj 3 (mO aZ))
 (af (fW (tR jt (k1 (aR bJ (k1 (vF 1))))) (setG 4)
  (af (gj 3 (o2 Bh (vF 3) (aR dQ (k2 (aR bQ (k2 (cS [119,97,110,116]) (oA (vF 4) (cI 1)))) (aR bQ (k2 (cS [116,97,107,101]) (oA (vF 4) (cI 1))))))))
 (af (fW (tR jt (k1 (aR bJ (k1 (vF 0))))) (setG 5)
  (af (uL (dh [7,8]) (oI (vF 0) (vF 5)))
 (af (aG 6 (bB (aH .NotEq) (ao (ai 60) [] (k3 (vF 7) (vF 1) (vF 4))) (vF 8)))
 (af (dU 3 (aR bQ (k3 (cS [109,101,101,116]) (oA (vF 5) (cI 1)) (vF 6))))
 (aU (tB (vF 6))
  (af (dU 2 (oA (cS [108,105,110,101,32]) (aR strN (k1 (vF 5)))))
 (dU 3 (aR bQ (k2 (cS [103,105,118,101]) (lF 2 (cu gT (cI 1)))))))
  aC)))))
 (af (dU 2 (oI (vF 1) (vF 4)))
 (gj 3 (o2 Bh (vF 3) (aR dQ (k2 (aR bQ (k2 (cS [103,105,118,101]) (oI (vF 1) (vF 4)))) (aR bQ (k1 (cS [111,118,101,114])))))))))))
 (aB (aR dQ (k2 (vF 2) (oA (vF 3) (aR dQ (k3 (aR bQ (k2 (cS [119,97,110,116]) (oA (aR bJ (k1 (vF 1))) (cI 1)))) (aR bQ (k2 (cS [110,111,110,101]) (oA (aR bJ (k1 (vF 1))) (cI 1)))) (aR bQ (k1 (cS [101,110,100])))))))))))))
theorem w61:cN (n+1) 61=t61 (cN n):=rfl
def t62(ai:Nat->Fn):Fn:=aQ (aK 2 3 (af (aU (qo (dR (tB (cu (D7 "list") (vF 0)))) (bw (bB (aH .NotEq) (vF 0) (vF 1))))
  (aB (cF (.bl false)))
  aC)
 (af (fW (sy (vF 0)) (setG 2)
  (af (aU (qo (dR (tB (cu (D7 "tuple") (vF 2)))) (dR (tB (cu (D7 "str") (oI (vF 2) (cI 0))))))
  (aB (cF (.bl false)))
  aC)
 (aU (gX (bw (oE (oI (vF 2) (cI 0)) (cS [109,101,101,116]))) (dR (tB (cu (D7 "bool") (oI (vF 2) (cI 2))))))
  (aB (cF (.bl false)))
  aC)))
 (aB (cF (.bl true))))))
theorem w62:cN (n+1) 62=t62 (cN n):=rfl
def t63(ai:Nat->Fn):Fn:=aQ (aK 1 13 (af (aG 1 (ao (ai 54) [] (k1 (oD (ao (ai 53) [] (k2 (vF 0) (cI 0))) (cI 18)))))
 (af (gj 2 (mO aZ))
 (af (fW (sy (mZ (vF 0) (jY (cI 1)) (jY (oA (cI 1) (oM (ao (ai 53) [] (k2 (vF 0) (cI 0))) (cI 9)))))) (setG 3)
  (af (aG 12 (ao (ai 57) [] (k2 (vF 3) (vF 1))))
 (dU 2 (aR bQ (k2 (vF 12) (ko (bB (aH .NotEq) (vF 12) (aR bQ (k1 (cS [])))) (oE (oM (oD (vF 3) (cI 5)) (cI 2)) (cI 1))))))))
 (af (aG 4 (eX (cW (Ef (vF 2)) 3 [] (dh [1,2]) dG (ao (ai 58) [] (k2 (vF 1) (vF 2))))))
 (af (aG 5 (pU joinM (cS []) (k1 (eX (cW (tR jt (k1 (aR bJ (k1 (vF 4))))) 2 [4] (setG 1) dG (oA (oA (oA (oI (vF 2) (vF 1)) (cS [115,97,121,32,34,108,105,110,101,32])) (aR strN (k1 (vF 1)))) (cS [34,10])))))))
 (af (aG 6 (eX (cW (sy (mZ (vF 0) (jY (cI 9)) (jY (cI 29)))) 2 [1] (setG 1) dG (ao (ai 55) [] (k2 (vF 1) (vF 2))))))
 (af (aG 7 (oE (oM (oD (ao (ai 53) [] (k2 (vF 0) (cI 0))) (cI 9)) (cI 2)) (cI 0)))
 (af (aU (gX (bw (bB (aH .NotEq) (vF 6) (aR dQ aZ))) (bw (oE (oI (vF 6) (cu gT (cI 1))) (cS []))))
  (aG 7 (cF (.bl true)))
  aC)
 (af (aG 8 (oA (pU joinM (cS [10]) (k1 (vF 6))) (bB (fY .Mult) (cS [10]) (aR sH (k1 (ko (vF 7) (bB (aH .NotEq) (vF 6) (aR dQ aZ))))))))
 (af (aG 9 (ao (ai 33) [] (k2 (ao (ai 49) [] (k1 (vF 5))) (vF 8))))
 (af (aG 10 (ao (ai 61) [] (k2 (vF 2) (vF 6))))
 (af (aG 11 (eX (cW (tR jt (k1 (Ir 2))) 2 [2] (setG 1) dG (cT 1 2 (k2 (ao (ai 59) [] (k2 (oI (oI (vF 2) (vF 1)) (cI 0)) (oI (oI (vF 2) (vF 1)) (cI 1)))) (cT 16 1 (k1 (oA (cS [108,105,110,101,32]) (aR strN (k1 (vF 1)))))))))))
 (af (aU (bw (bB (aH .NotEq) (ao (ai 33) [] (k2 (cu (Dr 0) (vF 11)) (vF 8))) (vF 9)))
  (aB (cF (.bl false)))
  aC)
 (af (aU (qo (dR (tB (cu (D7 "tuple") (vF 9)))) (qo (bw (bB (aH .NotEq) (aR bJ (k1 (vF 9))) (cI 4))) (qo (bw (bB (aH .NotEq) (oI (vF 9) (cI 1)) (cF (.du [] [])))) (bw (bB (aH .NotEq) (oI (vF 9) (cI 2)) (aR dQ aZ))))))
  (aB (cF (.bl false)))
  aC)
 (aB (ko (cu (D7 "list") (oI (vF 9) (cI 0))) (ko (oE (oI (vF 9) (cI 0)) (oI (vF 10) (cI 0))) (ao (ai 62) [] (k2 (oI (vF 9) (cI 3)) (oI (vF 10) (cI 1))))))))))))))))))))))
theorem w63:cN (n+1) 63=t63 (cN n):=rfl
def t79(ai:Nat->Fn):Fn:=aK 3 3 (af (aO M.P.tab 14 (vF 0) (vF 1))
 (af (aO M.P.tab 3 (vF 0) (vF 2))
 (aO M.P.tab 15 (vF 0) (mS M.bc))))
theorem w79:cN (n+1) 79=t79 (cN n):=rfl
def t80(ai:Nat->Fn):Fn:=aK 2 3 (af (aG 2 (ao (ai 12) [] (k1 (vF 1))))
 (af (aU (bw (sW M.bc true (vF 2) (aE M.P.tab 15 (vF 0))))
  (Bf M.bc (aE M.P.tab 15 (vF 0)) (vF 2) (ao (ai 19) [] (k2 (vF 1) (aE M.P.tab 14 (vF 0)))))
  aC)
 (aB (Er M.bc (aE M.P.tab 15 (vF 0)) (vF 2)))))
theorem w80:cN (n+1) 80=t80 (cN n):=rfl
def t81(ai:Nat->Fn):Fn:=aK 2 2 (af (aO M.P.tab 16 (vF 0) (eX (cW (sy (vF 1)) 2 [] (setG 1) dG (aE M.P.tab 1 (vF 1)))))
 (aO M.P.tab 17 (vF 0) (mS M.bc)))
theorem w81:cN (n+1) 81=t81 (cN n):=rfl
def t82(ai:Nat->Fn):Fn:=aK 3 6 (af (gj 3 (mO aZ))
 (af (fW (iD 0 (aE M.P.tab 16 (vF 0))) (dh [4,5])
  (dU 3 (aw (ak [(25,83)] ai) (vF 0) (bK (vF 4) (k3 (vF 5) (vF 1) (vF 2))))))
 (aB (vF 3))))
theorem w82:cN (n+1) 82=t82 (cN n):=rfl
def t83(ai:Nat->Fn):Fn:=aK 5 5 (af (aU (tB (cu (gH M.P.sub [9]) (vF 2)))
  (aB (uJ (aw (ak [(25,83)] ai) (vF 0) (bK (vF 1) (k3 (aE M.P.tab 8 (vF 2)) (vF 3) (vF 4))))))
  aC)
 (af (aU (tB (cu (gH M.P.sub [8]) (vF 2)))
  (aB (aw (ak [(25,84)] ai) (vF 0) (k3 (vF 1) (vF 2) (vF 3))))
  aC)
 (af (aU (tB (cu (gH M.P.sub [5]) (vF 2)))
  (aB (oE (aR bJ (k1 (vF 4))) (cI 0)))
  aC)
 (af (aU (tB (cu (gH M.P.sub [7]) (vF 2)))
  (aB (aR mQ (k1 (eX (cW (sy (mZ (vF 4) wH (jY (aE M.P.tab 5 (vF 2))))) 2 [2] (setG 1) dG (aw (ak [(24,80)] ai) (vF 1) (k1 (aE M.P.tab 4 (vF 2)))))))))
  aC)
 (aB (ao (ai 24) [] (k2 (vF 2) (vF 3))))))))
theorem P4:cN (n+1) 83=t83 (cN n):=rfl
def t85(ai:Nat->Fn):Fn:=aK 2 2 (af (aO M.P.tab 0 (vF 0) (aR D5 (k1 (aE M.P.tab 0 (vF 1)))))
 (af (aO M.P.tab 18 (vF 0) (ao (ai 32) [] (k1 (aE M.P.tab 0 (vF 0)))))
 (af (aO M.P.tab 19 (vF 0) (kq 25 (ai 81) (k1 (aE M.P.tab 0 (vF 0)))))
 (af (aO M.P.tab 20 (vF 0) (aR dQ aZ))
 (af (aO M.P.tab 21 (vF 0) (cI 0))
 (af (aO M.P.tab 22 (vF 0) (mS M.bc))
 (af (aO M.P.tab 23 (vF 0) (cI 0))
 (af (aO M.P.tab 24 (vF 0) (cF .non))
 (af (aO M.P.tab 25 (vF 0) (cI 0))
 (af (aO M.P.tab 26 (vF 0) (mS M.bc))
 (af (aO M.P.tab 27 (vF 0) (mS M.bc))
 (af (aO M.P.tab 28 (vF 0) (uM M.bc (mO aZ)))
 (af (aO M.P.tab 29 (vF 0) (uM M.bc (mO aZ)))
 (af (aO M.P.tab 30 (vF 0) (cF (.bl false)))
 (aN (aw (ak [(26,86)] ai) (vF 0) aZ))))))))))))))))
theorem w85:cN (n+1) 85=t85 (cN n):=rfl
def t86(ai:Nat->Fn):Fn:=aK 1 1 (af (iG M.bc (aE M.P.tab 29 (vF 0)) (aR bQ (k2 (cS [119,97,110,116]) (oA (aE M.P.tab 23 (vF 0)) (cI 1)))))
 (aO M.P.tab 30 (vF 0) (cF (.bl true))))
theorem w86:cN (n+1) 86=t86 (cN n):=rfl
def t87(ai:Nat->Fn):Fn:=aK 3 3 (aN (aw (ak [(26,88)] ai) (vF 0) (k2 (aE M.P.tab 14 (vF 1)) (aw (ak [(25,82)] ai) (aE M.P.tab 19 (vF 0)) (k2 (vF 1) (vF 2))))))
theorem w87:cN (n+1) 87=t87 (cN n):=rfl
def t88(ai:Nat->Fn):Fn:=aK 3 3 (af (ve M.P.tab 23 iF (vF 0) (cI 1))
 (af (iG M.bc (aE M.P.tab 29 (vF 0)) (aR bQ (k2 (cS [116,97,107,101]) (aE M.P.tab 23 (vF 0)))))
 (af (aO M.P.tab 24 (vF 0) (uK (bw (bB (aH .Is) (aE M.P.tab 24 (vF 0)) (cF .non))) (vF 1) (oA (oA (aE M.P.tab 24 (vF 0)) (cS [32])) (vF 1))))
 (af (ve M.P.tab 25 iF (vF 0) (cI 1))
 (af (aO M.P.tab 20 (vF 0) (vF 2))
 (af (aO M.P.tab 22 (vF 0) (mS M.bc))
 (af (aO M.P.tab 30 (vF 0) (cF (.bl false)))
 (lG many (dR (tB (aE M.P.tab 30 (vF 0))))
  (aN (aw (ak [(26,89)] ai) (vF 0) aZ))))))))))
theorem w88:cN (n+1) 88=t88 (cN n):=rfl
def t89(ai:Nat->Fn):Fn:=aK 1 1 (aU (bw (oE (aE M.P.tab 21 (vF 0)) (aR bJ (k1 (aE M.P.tab 0 (vF 0))))))
  (aN (aw (ak [(26,96)] ai) (vF 0) aZ))
  (af (ve M.P.tab 21 iF (vF 0) (cI 1))
 (aN (aw (ak [(26,90)] ai) (vF 0) (k2 (bB xC (aE M.P.tab 0 (vF 0)) (bB (fY .Sub) (aE M.P.tab 21 (vF 0)) (cI 1))) (aE M.P.tab 21 (vF 0)))))))
theorem w89:cN (n+1) 89=t89 (cN n):=rfl
def t90(ai:Nat->Fn):Fn:=aK 3 4 (af (aU (tB (cu (gH M.P.sub [10]) (aE M.P.tab 1 (vF 1))))
  (aB (cF .non))
  aC)
 (af (aU (bw (sW M.bc false (vF 2) (aE M.P.tab 22 (vF 0))))
  cM
  aC)
 (af (Bf M.bc (aE M.P.tab 22 (vF 0)) (vF 2) (cF (.bl true)))
 (af (aG 3 (bB xC (aE M.P.tab 20 (vF 0)) (bB (fY .Sub) (vF 2) (cI 1))))
 (af (iG M.bc (aE M.P.tab 29 (vF 0)) (aR bQ (k3 (cS [109,101,101,116]) (vF 2) (vF 3))))
 (aU (tB (vF 3))
  (aN (aw (ak [(26,97)] ai) (vF 0) (k2 (aE M.P.tab 2 (vF 1)) (vF 2))))
  aC))))))
theorem w90:cN (n+1) 90=t90 (cN n):=rfl
def t92(ai:Nat->Fn):Fn:=aK 1 2 (af (aN (aw (ak [(26,93)] ai) (vF 0) aZ))
 (af (aU (bw (bB (aH .IsNot) (aE M.P.tab 24 (vF 0)) (cF .non)))
  (af (aN (aw (ak [(26,96)] ai) (vF 0) aZ))
 (aN (aw (ak [(26,93)] ai) (vF 0) aZ)))
  aC)
 (af (iG M.bc (aE M.P.tab 29 (vF 0)) (aR bQ (k1 (cS [101,110,100]))))
 (fW (sy (aE M.P.tab 0 (vF 0))) (setG 1)
  (aU (tB (cu (gH M.P.sub [10]) (aE M.P.tab 1 (vF 1))))
  (aN (aw (ak [(26,98)] ai) (vF 0) (k1 (aE M.P.tab 2 (vF 1)))))
  aC)))))
theorem w92:cN (n+1) 92=t92 (cN n):=rfl
def t93(ai:Nat->Fn):Fn:=aK 1 1 (iG M.bc (aE M.P.tab 29 (vF 0)) (aR bQ (k2 (cS [110,111,110,101]) (oA (aE M.P.tab 23 (vF 0)) (cI 1)))))
theorem w93:cN (n+1) 93=t93 (cN n):=rfl
def t94(ai:Nat->Fn):Fn:=aK 2 2 (iG M.bc (aE M.P.tab 29 (vF 0)) (aR bQ (k2 (cS [103,105,118,101]) (vF 1))))
theorem w94:cN (n+1) 94=t94 (cN n):=rfl
def t95(ai:Nat->Fn):Fn:=aK 1 1 (af (iG M.bc (aE M.P.tab 29 (vF 0)) (aR bQ (k1 (cS [111,118,101,114]))))
 (af (aO M.P.tab 24 (vF 0) (cF .non))
 (af (aO M.P.tab 25 (vF 0) (cI 0))
 (af (aO M.P.tab 21 (vF 0) (cI 0))
 (aN (aw (ak [(26,86)] ai) (vF 0) aZ))))))
theorem w95:cN (n+1) 95=t95 (cN n):=rfl
def t96(ai:Nat->Fn):Fn:=aK 1 1 (af (aN (aw (ak [(26,94)] ai) (vF 0) (k1 (aE M.P.tab 24 (vF 0)))))
 (aN (aw (ak [(26,95)] ai) (vF 0) aZ)))
theorem w96:cN (n+1) 96=t96 (cN n):=rfl
def t97(ai:Nat->Fn):Fn:=aK 3 3 (aU (tB (cu (gH M.P.sub [13]) (vF 1)))
  (aN (aw (ak [(26,95)] ai) (vF 0) aZ))
  (aU (tB (cu (gH M.P.sub [14]) (vF 1)))
  (aN (aw (ak [(26,94)] ai) (vF 0) (k1 (aE M.P.tab 24 (vF 0)))))
  (aU (tB (cu (gH M.P.sub [15]) (vF 1)))
  (aN (aw (ak [(26,96)] ai) (vF 0) aZ))
  (aU (tB (cu (gH M.P.sub [17]) (vF 1)))
  (aN (aw (ak [(26,99)] ai) (vF 0) (k1 (vF 1))))
  (aU (tB (cu (gH M.P.sub [18]) (vF 1)))
  (aN (aw (ak [(26,100)] ai) (vF 0) (k1 (vF 1))))
  (aU (tB (cu (gH M.P.sub [19]) (vF 1)))
  (aN (aw (ak [(26,101)] ai) (vF 0) (k1 (vF 1))))
  (aU (tB (cu (gH M.P.sub [21]) (vF 1)))
  (aO M.P.tab 21 (vF 0) (bB xC (aE M.P.tab 18 (vF 0)) (aE M.P.tab 9 (vF 1))))
  (aU (tB (cu (gH M.P.sub [22]) (vF 1)))
  (aN (aw (ak [(26,104)] ai) (vF 0) (k2 (vF 1) (vF 2))))
  (aU (dR (tB (cu (gH M.P.sub [12]) (vF 1))))
  (aN (aw (ak [(26,98)] ai) (vF 0) (k1 (vF 1))))
  aC)))))))))
theorem w97:cN (n+1) 97=t97 (cN n):=rfl
def t98(ai:Nat->Fn):Fn:=aK 2 2 (aU (tB (cu (gH M.P.sub [16]) (vF 1)))
  (aN (aw (ak [(26,94)] ai) (vF 0) (k1 (aE M.P.tab 10 (vF 1)))))
  (aU (tB (cu (gH M.P.sub [20]) (vF 1)))
  (aN (aw (ak [(26,102)] ai) (vF 0) (k1 (vF 1))))
  (aU (tB (cu (gH M.P.sub [23]) (vF 1)))
  (aN (aw (ak [(26,105)] ai) (vF 0) aZ))
  aC)))
theorem w98:cN (n+1) 98=t98 (cN n):=rfl
def Yr(ai:Nat->Fn):Fn:=aK 3 3 (af (aO M.P.tab 31 (vF 0) (vF 1))
 (aO M.P.tab 3 (vF 0) (vF 2)))
theorem Ys:cN (n+1) 106=Yr (cN n):=rfl
def Yt(ai:Nat->Fn):Fn:=aK 2 2 (af (aU (dR (tB (pU A9 (aE M.P.tab 31 (vF 0)) (k1 (vF 1)))))
  (aB (cF (.bl false)))
  aC)
 (af (aO M.P.tab 31 (vF 0) (mZ (aE M.P.tab 31 (vF 0)) (jY (aR bJ (k1 (vF 1)))) wH))
 (aB (cF (.bl true)))))
theorem Uv:cN (n+1) 108=Yt (cN n):=rfl
def Yu(ai:Nat->Fn):Fn:=aK 2 2 (aU (dR (tB (aw (ak [(27,108)] ai) (vF 0) (k1 (vF 1)))))
  (aN (aw (ak [(27,107)] ai) (vF 0) aZ))
  aC)
theorem Yv:cN (n+1) 109=Yu (cN n):=rfl
def Yw(ai:Nat->Fn):Fn:=aK 2 3 (af (aG 2 (ao (ai 3) [] (k2 (aE M.P.tab 31 (vF 0)) (vF 1))))
 (af (aO M.P.tab 31 (vF 0) (mZ (aE M.P.tab 31 (vF 0)) (jY (aR bJ (k1 (vF 2)))) wH))
 (aB (vF 2))))
theorem Yx:cN (n+1) 110=Yw (cN n):=rfl
def Yy(ai:Nat->Fn):Fn:=aK 2 4 (af (aN (aw (ak [(27,109)] ai) (vF 0) (k1 (vF 1))))
 (af (aG 2 (pU oH (aE M.P.tab 31 (vF 0)) (k1 (vF 1))))
 (af (aU (bw (oE (vF 2) (cu gT (cI 1))))
  (aN (aw (ak [(27,107)] ai) (vF 0) aZ))
  aC)
 (af (aG 3 (mZ (aE M.P.tab 31 (vF 0)) wH (jY (vF 2))))
 (af (aO M.P.tab 31 (vF 0) (mZ (aE M.P.tab 31 (vF 0)) (jY (oA (vF 2) (cI 1))) wH))
 (aB (vF 3)))))))
theorem Yz:cN (n+1) 111=Yy (cN n):=rfl
end K32
namespace K32
open D
variable(n:Nat){m:List _root_.D.Ob}
def SC(rest:B1)(k:Int):FV:=[⟨27,[.val (.str rest),.val (.int k)]⟩]
abbrev St(r:Fs)(rest:B1)(k:Int):S:=⟨sv (.own 0)::r,SC rest k⟩
section
variable{r:Fs}{rest vD l w:B1}{k:Int}{a:FE}{ai:Nat->Fn}{fl:FL}{ts:FK}{t:T}{i:Nat}
theorem OV:aE M.P.tab 31 (vF 0) (St r rest k)=.ok (.str rest,St r rest k):=rfl
theorem OW(h:a (St r rest k)=.ok (.str l,St r rest k)):aO M.P.tab 31 (vF 0) a (St r rest k)=.ok (.nx,St r l k):=by
 unfold aO;rw[h];rfl
theorem sm(ha:fl (St r rest k)=.ok (ts,St r rest k))(hc:ai i (.own 0::ts) (SC rest k)=.ok (t,SC vD k)):aw (ak [(27,i)] ai) (vF 0) fl (St r rest k)=.ok (t,St r vD k):=by
 exact vz (ob:=⟨27,[.val (.str rest),.val (.int k)]⟩) (s1:=St r rest k) rfl rfl rfl ha hc
theorem Bq(h:pre w rest=false):cN (n+1) 108 [.own 0,.str w] (SC rest k)=.ok (.bl false,SC rest k):=by
 rw[Uv];refine dH rfl (E7 (OS (s':=St [sv (.str w)] rest k) ?_ rfl)) rfl;show dR _ (St [sv (.str w)] rest k)=_;simp only[ev,pW,OV,bC,nk,A9,h,Ko]
theorem oY:cN (n+1) 108 [.own 0,.str w] (SC (w++rest) k)=.ok (.bl true,SC rest k):=by
 rw[Uv];refine dH rfl (seq1 (s':=St [sv (.str w)] (w++rest) k) (zV (s':=St [sv (.str w)] (w++rest) k) ?_ rfl) (seq1 (OW (l:=rest) ?_) rfl)) rfl
 ·show dR _ (St [sv (.str w)] (w++rest) k)=_
  simp only[ev,pW,OV,bC,nk,A9,pre_app,Cn]
 ·simp only[ev,pW,OV,bC,nk,bJ,uI,HB,jb]
theorem zX:cN (n+2) 109 [.own 0,.str w] (SC (w++rest) k)=.ok (.non,SC rest k):=by
 rw[Yv];refine OT rfl (zV (s':=St [sv (.str w)] rest k) ?_ rfl) rfl;show dR (D.tB (aw _ _ _)) (St [sv (.str w)] (w++rest) k)=_;have e:aw (ak [(27,108)] (cN (n+1))) (vF 0) (k1 (vF 1)) (St [sv (.str w)] (w++rest) k)=.ok (.bl true,St [sv (.str w)] rest k):=sm rfl (oY n);simp only[ev,e,bC,nk,Cn]
end
theorem ee{α:Type}{l:List α}{j:Nat}(h:j<l.length):atT l (j:Int)=l[j]?:=by
 unfold atT;rw[if_pos (by omega),if_pos (by omega)];rfl
section
variable{a b signs:B1}{m:FV}
theorem vE(ha:∀c∈a,c∈signs)(hb:∀c,b.head?=some c->c∉signs){j:Nat}(hj:j<=a.length) :
  gX (D.bw (bB (aH .Lt) (vF 2) (aR bJ (k1 (vF 0))))) (D.bw (bB (aH .In) (oI (vF 0) (vF 2)) (vF 1))) ⟨[sv (.str (a++b)),sv (.str signs),sv (.int (j:Nat))],m⟩=.ok (decide (j<a.length),⟨[sv (.str (a++b)),sv (.str signs),sv (.int (j:Nat))],m⟩):=by
 unfold gX;have lt:∀i j:Int,aH .Lt (.int i) (.int j)=some (.bl (decide (i<j))):=λ_ _=>rfl;have inn:∀(c:Nat)(l:B1),aH .In (.str [c]) (.str l)=some (.bl (decide (c∈l))):=λ_ _=>rfl;simp only[ev,pW,bC,nk,bJ,uI,lt];by_cases h:j<(a++b).length
 ·rw[decide_eq_true (by omega),if_pos rfl]
  have e:gq (.str (a++b)) (.int (j:Nat))=some (.str [(a++b)[j]]):=by
   show(atT (a++b) (j:Int)).map _=_;rw[ee h,cj h];rfl
  simp only[ev,pW,bC,nk,e,inn];by_cases hja:j<a.length
  ·rw[List.getElem_append_left hja,decide_eq_true (ha _ (tY hja)),decide_eq_true hja]
  ·have:j=a.length:=by omega
   subst this;rw[decide_eq_false hja]
   have:(a++b)[a.length]∉signs:=by
    apply hb;rw[List.head?_eq_getElem?,List.getElem_append_right (by omega)]
    simp only[lr];rw[cj]
   rw[decide_eq_false this]
 ·rw[decide_eq_false (by omega),decide_eq_false (by rw[cC]at h;omega)]
  rw[if_neg dC]
theorem vG(ha:∀c∈a,c∈signs)(hb:∀c,b.head?=some c->c∉signs):∀(d j fuel:Nat),j+d=a.length->d<fuel ->
  bF (gX (D.bw (bB (aH .Lt) (vF 2) (aR bJ (k1 (vF 0))))) (D.bw (bB (aH .In) (oI (vF 0) (vF 2)) (vF 1)))) (Dt iF 2 (cI 1)) fuel ⟨[sv (.str (a++b)),sv (.str signs),sv (.int (j:Nat))],m⟩=.ok (.nx,⟨[sv (.str (a++b)),sv (.str signs),sv (.int (a.length:Nat))],m⟩)
 |_,_,0,_,h=>absurd h (Kr _)
 |0,j,f+1,h,_=>by
  have:j=a.length:=h
  subst this;unfold bF;rw[vE ha hb (dj _),decide_eq_false (rF _)];rfl
 |d+1,j,f+1,h,hf=>by
  unfold bF;rw[vE ha hb (by omega),decide_eq_true (by omega)]
  show bF _ _ f ⟨[sv (.str (a++b)),sv (.str signs),sv (.int ((j:Int)+1))],m⟩=_
  have:=vG ha hb d (j+1) f (by omega) (by omega)
  rw[Int.natCast_add]at this;exact this
theorem OX(ha:∀c∈a,c∈signs)(hb:∀c,b.head?=some c->c∉signs)(hl:a.length<1000):cN (n+1) 3 [.str (a++b),.str signs] m=.ok (.str a,m):=by
 rw[w3];refine kT (m':=[]) rfl (dH rfl (seq1 (s':=⟨[sv (.str (a++b)),sv (.str signs),sv (.int 0)],[]⟩) rfl (seq1 (vG ha hb a.length 0 many (by omega) (by show a.length<1000000;omega)) (gu (t:=.str a) (s':=⟨[sv (.str (a++b)),sv (.str signs),sv (.int (a.length:Nat))],[]⟩) ?_))) rfl) rfl
 simp only[ev,pW,bC,nk,HB,Fb]
theorem Ja{k:Int}(ha:∀c∈a,c∈signs)(hb:∀c,b.head?=some c->c∉signs)(hl:a.length<1000):cN (n+2) 110 [.own 0,.str signs] (SC (a++b) k)=.ok (.str a,SC b k):=by
 rw[Yx];refine dH (s':=St [sv (.str signs),sv (.str a)] b k) rfl (seq1 (s':=St [sv (.str signs),sv (.str a)] (a++b) k) ?_ (seq1 (OW (l:=b) ?_) rfl)) rfl
 ·show aG 2 (ao _ _ _) (St [sv (.str signs),none] (a++b) k)=_
  have e:ao (cN (n+1) 3) [] (k2 (aE M.P.tab 31 (vF 0)) (vF 1)) (St [sv (.str signs),none] (a++b) k)=.ok (.str a,St [sv (.str signs),none] (a++b) k):=gB (ts:=[.str (a++b),.str signs]) (s':=St [sv (.str signs),none] (a++b) k) rfl (OX n ha hb hl);simp only[ev,pW,e,bC]
 ·simp only[ev,pW,OV,bC,nk,bJ,uI,HB,jb]
end
theorem oZ{c:Nat}{l b:B1}{k:Int}(h:c∉l):cN (n+3) 111 [.own 0,.str [c]] (SC (c::(l++c::b)) k)=.ok (.str l,SC b k):=by
 rw[Yz];refine dH (s':=St [sv (.str [c]),sv (.int (l.length:Nat)),sv (.str l)] b k) rfl ?_ rfl;refine seq1 (s':=St [sv (.str [c]),none,none] (l++c::b) k) ?_ (seq1 (s':=St [sv (.str [c]),sv (.int (l.length:Nat)),none] (l++c::b) k) ?_ (seq1 (s':=St [sv (.str [c]),sv (.int (l.length:Nat)),none] (l++c::b) k) (zV (s':=St [sv (.str [c]),sv (.int (l.length:Nat)),none] (l++c::b) k) ?_ rfl) (seq1 (s':=St [sv (.str [c]),sv (.int (l.length:Nat)),sv (.str l)] (l++c::b) k) ?_ (seq1 (OW (l:=b) ?_) rfl))))
 ·have e:aw (ak [(27,109)] (cN (n+2))) (vF 0) (k1 (vF 1)) (St [sv (.str [c]),none,none] ([c]++(l++c::b)) k)=.ok (.non,St [sv (.str [c]),none,none] (l++c::b) k):=sm rfl (zX n)
  show aN _ (St [sv (.str [c]),none,none] ([c]++(l++c::b)) k)=_;simp only[ev,e,bC]
 ·simp only[ev,pW,OV,bC,nk,Bo c l b h]
 ·have e:aH .Eq (.int (l.length:Nat)) (.int (-1))=some (.bl (decide ((l.length:Int)=-1))):=rfl
  simp only[ev,pW,bC,nk,gT,e];rw[decide_eq_false (by omega)]
 ·simp only[ev,pW,OV,bC,nk,HB,Fb]
 ·have e:fY .Add (.int (l.length:Nat)) (.int 1)=some (.int ((l++[c]).length:Nat)):=by
   rw[cC];rfl
  have e2:bg (l++c::b) (some ((l++[c]).length:Int)) none=b:=by
   have:=jb (l++[c]) b
   rw[dN]at this;exact this
  simp only[ev,pW,OV,bC,nk,e,HB,e2]
section
variable{r:Fs}{rest vD l w:B1}{k:Int}{ai:Nat->Fn}{fl:FL}{ts:FK}{t:T}{i:Nat}{A B:FS}{R:Res (Out×S)}{s s' s1 s2:S}{a:FE}
theorem pT:D.tB (aw (ak [(27,108)] (cN (n+1))) (vF 0) (k1 (cS w))) (St r (w++rest) k)=.ok (true,St r rest k):=by
 have e:aw (ak [(27,108)] (cN (n+1))) (vF 0) (k1 (cS w)) (St r (w++rest) k)=.ok (.bl true,St r rest k):=sm rfl (oY n);simp only[ev,e,bC,nk]
theorem pN(h:pre w rest=false):D.tB (aw (ak [(27,108)] (cN (n+1))) (vF 0) (k1 (cS w))) (St r rest k)=.ok (false,St r rest k):=by
 have e:aw (ak [(27,108)] (cN (n+1))) (vF 0) (k1 (cS w)) (St r rest k)=.ok (.bl false,St r rest k):=sm rfl (Bq n h);simp only[ev,e,bC,nk]
theorem mP:aN (aw (ak [(27,109)] (cN (n+2))) (vF 0) (k1 (cS w))) (St r (w++rest) k)=.ok (.nx,St r rest k):=by
 have e:aw (ak [(27,109)] (cN (n+2))) (vF 0) (k1 (cS w)) (St r (w++rest) k)=.ok (.non,St r rest k):=sm rfl (zX n);simp only[ev,e,bC]
theorem skip(h:pre w rest=false)(q:B (St r rest k)=R):af (aU (D.tB (aw (ak [(27,108)] (cN (n+1))) (vF 0) (k1 (cS w)))) A aC) B (St r rest k)=R:=seq1 (zV (pN n h) rfl) q
theorem hit(q:A (St r rest k)=.ok (.rt t,s')):af (aU (D.tB (aw (ak [(27,108)] (cN (n+1))) (vF 0) (k1 (cS w)))) A aC) B (St r (w++rest) k)=.ok (.rt t,s'):=E7 (OS (pT n) q)
theorem cR(ha:fl (St r rest k)=.ok (ts,St r rest k))(hc:ai i (.own 0::ts) (SC rest k)=.ok (t,SC vD k)):ao (ai i) [] (bK (vF 0) fl) (St r rest k)=.ok (t,St r vD k):=by
 refine gB (ts:=.own 0::ts) (s':=St r rest k) ?_ (by rw[cY];exact hc)
 show Res.bind (fl (St r rest k)) _=_;rw[ha];rfl
theorem mT{c m:Nat}(h:fl s=.ok (ts,s'))(hl:ts.length=m):cT c m fl s=.ok (.obj c ts,s'):=by
 unfold cT;rw[h];exact if_pos hl
theorem av(h:a s=.ok (t,s1))(h2:fl s1=.ok (ts,s2)):bK a fl s=.ok (t::ts,s2):=by
 unfold bK;rw[h];show Res.bind (fl s1) _=_;rw[h2];rfl
theorem iS{i:Nat}(h:a s=.ok (t,s')):aG i a s=.ok (.nx,jr s' i (.val t)):=by unfold aG;rw[h];rfl
end
theorem mU(a b:B1):aH .Eq (.str a) (.str b)=some (.bl (decide (a=b))):=rfl
theorem Br(a b:Int):aH .Gt (.int a) (.int b)=some (.bl (decide (b<a))):=rfl
theorem Jb(a b:Int):aH .Lt (.int a) (.int b)=some (.bl (decide (a<b))):=rfl
def Bs:B1:=[48,49,50,51,52,53,54,55,56,57]
theorem rl{d b:B1}{v lo hi k:Int}(hd:∀c∈d,c∈Bs)(h0:d≠[])(hz:pre [48] d=false)(hl:d.length<=3)(WM:sH [.str d]=some (.int v))(h1:lo<=v)(h2:v<=hi)(hb:∀c,b.head?=some c->c∉Bs) :
  cN (n+3) 43 [.own 0,.int lo,.int hi] (SC (d++b) k)=.ok (.int v,SC b k):=by
 rw[w43];refine dH (s':=St [sv (.int lo),sv (.int hi),sv (.str d),sv (.int v)] b k) rfl ?_ rfl;have e:aw (ak [(27,110)] (cN (n+2))) (vF 0) (k1 (cS Bs)) (St [sv (.int lo),sv (.int hi),none,none] (d++b) k)=.ok (.str d,St [sv (.int lo),sv (.int hi),none,none] b k):=sm rfl (Ja n hd hb (by omega))
 refine seq1 (iS e) (seq1 (zV (s':=St [sv (.int lo),sv (.int hi),sv (.str d),none] b k) ?_ rfl) (seq1 (s':=St [sv (.int lo),sv (.int hi),sv (.str d),sv (.int v)] b k) ?_ (seq1 (zV (s':=St [sv (.int lo),sv (.int hi),sv (.str d),sv (.int v)] b k) ?_ rfl) rfl)))
 ·show qo _ _ (St [sv (.int lo),sv (.int hi),sv (.str d),none] b k)=_
  have g1:decide (d=[])=false:=decide_eq_false h0;have g2:decide ((3:Int)<(d.length:Nat))=false:=decide_eq_false (by omega)
  simp only[qo,ev,pW,bC,nk,mU,g1,A9,hz,bJ,uI,Br,g2,yH,if_false]
 ·simp only[ev,pW,bC,nk,WM]
 ·have g1:decide (v<lo)=false:=decide_eq_false (by omega)
  have g2:decide (hi<v)=false:=decide_eq_false (by omega)
  simp only[qo,ev,pW,bC,nk,Jb,Br,g1,g2,yH,if_false]
theorem f6{g:FG}{e:FE}{b:Fs}{m:FV}{f:T->T}:∀{ts:FK},(∀t∈ts,∃b1 b2,g t b=some b1/\e ⟨b1,m⟩=.ok (f t,⟨b2,m⟩))->aW g dG e b ts m=.ok (ts.map f,m)
 |[],_=>rfl
 |t::ts,h=>by
  obtain⟨b1,b2,h1,h2⟩:=h t (er ..);unfold aW;rw[h1];show Res.bind (e ⟨b1,m⟩) _=_;rw[h2];show Res.bind (aW g dG e b ts m) _=_;rw[f6 λt ht=>h t (eF _ ht)];rfl
theorem o8{src:FL}{n:Nat}{js:B1}{g:FG}{c:FT}{e:FE}{s s1:S}{ts us:FK}{m':FV}(h:src s=.ok (ts,s1))(z:ts.length<=1000000)(q:aW g c e (i9 n js (jJ js s1.r)) ts s1.m=.ok (us,m')):cW src n js g c e s=.ok (us,⟨jJ js s1.r,m'⟩):=by
 unfold cW;rw[h];show(if ts.length<=1000000 then _ else _)=_
 rw[if_pos z,q];rfl
theorem mj{fl:FL}{s s':S}{ts:FK}(h:fl s=.ok (ts,s')):eX fl s=.ok (.lst ts,s'):=by unfold eX;rw[h];rfl
theorem cP{g:FK->FR}{fl:FL}{s s':S}{ts:FK}{t:T}(h:fl s=.ok (ts,s'))(q:g ts=some t):aR g fl s=.ok (t,s'):=by unfold aR;rw[h];show Res.bind (aY (g ts)) _=_;rw[q];rfl
theorem Fg(c:Nat)(l:B1):aH .In (.str [c]) (.str l)=some (.bl (decide (c∈l))):=rfl
def zY:T->T:=λ_=>.bl true
theorem all_true:∀(l:FK),boolsOf (l.map zY)=some (l.map λ_=>true)
 |[]=>rfl
 |_::l=>by
  show(boolsOf (l.map zY)).map _=_;rw[all_true l];rfl
theorem o9{l signs:B1}(h:∀c∈l,c∈signs)(hl:l.length<=1000):cN (n+1) 2 [.str l,.str signs] m=.ok (.bl true,m):=by
 rw[w2];refine kT (m':=[]) rfl (dH (s':=⟨[sv (.str l),sv (.str signs)],[]⟩) rfl (gu (cP (ts:=[.lst ((l.map λc=>T.str [c]).map zY)]) (av (mj (o8 (ts:=l.map λc=>T.str [c]) (s1:=⟨[sv (.str l),sv (.str signs)],[]⟩) rfl (by rw[cD];omega) (f6 λt ht=>?_))) rfl) ?_)) rfl) rfl
 ·obtain⟨c,hc,rfl⟩:=fG.mp ht
  refine⟨[none,sv (.str [c]),sv (.str signs)],[none,sv (.str [c]),sv (.str signs)],rfl,?_⟩;simp only[ev,pW,bC,nk,Fg,decide_eq_true (h c hc),zY]
 ·simp only[HV,M3,all_true]
  simp
noncomputable def jc:B1:=Ff
theorem Fi{l b:B1}{k:Int}(h:∀c∈l,c∈jc/\c≠34)(hl:l.length<=40):cN (n+4) 45 [.own 0] (SC (34::(l++34::b)) k)=.ok (.str l,SC b k):=by
 rw[w45];have hq:34∉l:=λz=>(h 34 z).2 rfl;refine dH (s':=St [sv (.str l)] b k) rfl ?_ rfl;have e:aw (ak [(27,111)] (cN (n+3))) (vF 0) (k1 (cS [34])) (St [none] (34::(l++34::b)) k)=.ok (.str l,St [none] b k):=sm rfl (oZ n hq);refine seq1 (iS e) (seq1 (zV (s':=St [sv (.str l)] b k) ?_ rfl) rfl);show qo _ _ (St [sv (.str l)] b k)=_;have e2:ao (cN (n+3) 2) [] (k2 (vF 1) (cS jc)) (St [sv (.str l)] b k)=.ok (.bl true,St [sv (.str l)] b k):=gB (ts:=[.str l,.str jc]) (s':=St [sv (.str l)] b k) rfl (o9 (n+2) (λc hc=>(h c hc).1) (by omega))
 unfold jc at e2;have g2:decide ((40:Int)<(l.length:Nat))=false:=decide_eq_false (by omega)
 unfold qo dR;rw[show D.bw (bB (aH .Gt) (aR bJ (k1 (vF 1))) (cI 40)) (St [sv (.str l)] b k)=.ok (false,St [sv (.str l)] b k) by simp only[ev,pW,bC,nk,bJ,uI,Br,g2]]
 show Res.bind (D.tB (ao _ _ _) (St [sv (.str l)] b k)) _=_;unfold D.tB;rw[e2];rfl
theorem aI{g:T->T->FR}{a b:FE}{s s1 s2:S}{t u v:T}(h:a s=.ok (t,s1))(h2:b s1=.ok (u,s2))(k:g t u=some v):bB g a b s=.ok (v,s2):=by
 unfold bB;rw[h];refine Eq.trans (bC _ _) ?_;dsimp only;rw[h2];refine Eq.trans (bC _ _) ?_;dsimp only;rw[k];rfl
theorem zZ{g:FG}{b:FS}{t:T}{ts:FK}{s s1:S}{r:Fs}{q:Res (Out×S)}(h:g t s.r=some r)(hb:b ⟨r,s.m⟩=.ok (.nx,s1))(k:bP g b ts s1=q):bP g b (t::ts) s=q:=by
 unfold bP;rw[h];refine Eq.trans (bC _ _) ?_;rw[hb];exact k
theorem YA{src:FL}{g:FG}{b:FS}{s s1:S}{ts:FK}{q:Res (Out×S)}(h:src s=.ok (ts,s1))(k:bP g b ts s1=q):fW src g b s=q:=by unfold fW;rw[h];exact k
theorem vH{i:Nat}{a:FE}{s s1:S}{GR ts:FK}{t:T}(h0:s.r[i]?=some (some (.ol GR)))(h:a s=.ok (t,s1))(h2:s1.r[i]?=some (some (.ol ts)))(z:ts.length<1000000):dU i a s=.ok (.nx,jr s1 i (.ol (ts++[t]))):=by
 unfold dU;rw[h0];refine Eq.trans (bC GR _) ?_;rw[h];refine Eq.trans (bC _ _) ?_;dsimp only;rw[h2];refine Eq.trans (bC ts _) ?_;rw[jT z];rfl
theorem W.eq{α:Type}{x:Res α}{v:α}(h:W x λa=>a=v):x=.ok v:=by
 obtain⟨a,e,rfl⟩:=h;exact e
theorem fB{src:FL}{g:FG}{b:FS}{s:S}{QS:Out×S->Prop}(h:W (src s) λp=>W (bP g b p.1 p.2) QS):W (fW src g b s) QS:=W.bind h
theorem f9{np n:Nat}{B:FS}{ts:FK}{G:T×FV->Prop}(h:ts.length=np)(k:W (B ⟨ts.map (λt=>sv t)++bX (n-ts.length) none,m⟩) λp=>p.1=.nx/\G (.non,p.2.m)):W (aK np n B ts m) G:=by
 unfold aK;rw[if_pos h];exact W.bind (k.mono λp ⟨e,k⟩=>⟨_,by rw[e],k⟩)
theorem iw{g:T->FR}{a:FE}{s:S}{t:T}{b:Bool}(h:a s=.ok (t,s))(k:g t=some (.bl b)):D.tB (cu g a) s=.ok (b,s):=by
 unfold D.tB cu;rw[h];refine Eq.trans (congrArg (λz=>Res.bind z _) (bC _ _)) ?_;dsimp only;rw[k];rfl
theorem YB{c:FT}{s s':S}(h:c s=.ok (false,s')):dR c s=.ok (true,s'):=by unfold dR;rw[h];rfl
theorem vI{c:FT}{s s':S}(h:c s=.ok (true,s')):dR c s=.ok (false,s'):=by unfold dR;rw[h];rfl
theorem OY{c d:FT}{s s1:S}{q:Res (Bool×S)}(h:c s=.ok (false,s1))(h2:d s1=q):qo c d s=q:=by unfold qo;rw[h];exact h2
theorem Uw{c:Nat}{g:Fn}{fl:FL}{s s':S}{ts:FK}{m':FV}(h:fl s=.ok (ts,s'))(k:g (.own s'.m.length::ts) (s'.m++[⟨c,[]⟩])=.ok (.non,m')):kq c g fl s=.ok (.own s'.m.length,⟨s'.r,m'⟩):=by
 unfold kq;rw[h];refine Eq.trans (bC _ _) ?_;dsimp only;rw[k]
section
variable{s:S}{a:FE}{t:T}{i:Nat}{A B E:FS}{c:FT}{G:T×FV->Prop}{QS:Out×S->Prop}
theorem bS(e:a s=.ok (t,s))(h:WB B (jr s i (.val t)) G):WB (af (aG i a) B) s G:=Uo e h
theorem bN(e:c s=.ok (false,s))(h:WB B s G):WB (af (aU c A aC) B) s G:=P1 e h
theorem bY(e:c s=.ok (true,s))(h:WB A s G):WB (af (aU c A B) E) s G:=Yp e h
theorem bI(e:c s=.ok (true,s))(e2:a s=.ok (t,s))(h:WB B (jr s i (.val t)) G):WB (af (aU c (aG i a) aC) B) s G:=dI (vC e (W.of (iS e2) ⟨rfl,h⟩))
theorem bR(e:a s=.ok (t,s))(h:G (t,s.m)):WB (aB a) s G:=Bp e h
theorem sEq{np n:Nat}{b:FS}{ts:FK}(h:az ts=true)(hl:ts.length=np)(ht:noOwn t=true)(k:WB b ⟨ts.map (λt=>sv t)++bX (n-ts.length) none,[]⟩ λp=>p.1=t):aQ (aK np n b) ts m=.ok (t,m):=W.eq (kU h ((ju hl k).mono λp hp=>⟨by rw[hp];exact ht,by rw[hp]⟩))
theorem cE{g:Fn}{fl:FL}{ts:FK}(h:fl s=.ok (ts,s))(k:g ts s.m=.ok (t,s.m)):ao g [] fl s=.ok (t,s):=gB h (by rw[cY];exact k)
theorem mE{g:Nat->Option Fn}{o:FE}{fl:FL}{k:Nat}{ob:Ob}{f:Fn}{ts:FK}{m':FV}(h:o s=.ok (.own k,s))(hm:s.m[k]?=some ob)(hg:g ob.c=some f)(ha:fl s=.ok (ts,s))(hc:f (.own k::ts) s.m=.ok (t,m')):aw g o fl s=.ok (t,⟨s.r,m'⟩):=vz h hm hg ha hc
theorem dE{m':FV}(h:a s=.ok (t,⟨s.r,m'⟩))(k:QS (.nx,⟨s.r,m'⟩)):W (aN a s) QS:=⟨_,by unfold aN;rw[h];rfl,k⟩
theorem wS(e:a s=.ok (t,s))(h:W (B (jr s i (.val t))) QS):W (af (aG i a) B s) QS:=gY (W.of (iS e) ⟨rfl,h⟩)
theorem wA{ts:FK}(h0:s.r[i]?=some (some (.ol ts)))(h:a s=.ok (t,s))(z:ts.length<1000000)(k:W (B (jr s i (.ol (ts++[t])))) QS):W (af (dU i a) B s) QS:=gY (W.of (vH h0 h h0 z) ⟨rfl,k⟩)
theorem wOw{fl:FL}{s1:S}{ts:FK}(h:fl s=.ok (ts,s1))(k:W (B (jr s1 i (.ol ts))) QS):W (af (gj i fl) B s) QS:=gY ⟨_,by unfold gj;rw[h];rfl,rfl,k⟩
theorem o_{gg:FG}{ts:FK}{r:Fs}(h:gg t s.r=some r)(k:W (B ⟨r,s.m⟩) λp=>p.1=.nx/\W (bP gg B ts p.2) QS):W (bP gg B (t::ts) s) QS:=by
 obtain⟨⟨o,s1⟩,e,rfl,p,e2,q⟩:=k;exact⟨p,zZ h e e2,q⟩
theorem YC{g:FG}{e:FE}{b b1 b2:Fs}{u:T}{ts us:FK}(h:g t b=some b1)(h2:e ⟨b1,m⟩=.ok (u,⟨b2,m⟩))(k:aW g dG e b ts m=.ok (us,m)):aW g dG e b (t::ts) m=.ok (u::us,m):=by
 rw[aW,h];refine Eq.trans (bC _ _) ?_;refine Eq.trans (bC _ _) ?_;show Res.bind (e ⟨b1,m⟩) _=_;rw[h2];refine Eq.trans (bC _ _) ?_;dsimp only;rw[k];rfl
theorem LB{b:FE}{x:Bool}(h:a s=.ok (.bl x,s))(h2:x=true->b s=.ok (.bl false,s)):ko a b s=.ok (.bl false,s):=by
 unfold ko;rw[h];refine Eq.trans (bC _ _) ?_;cases x with
 |true=>exact h2 rfl
 |false=>rfl
theorem GS{b:Bool}(h:a s=.ok (.bl b,s)):D.tB a s=.ok (b,s):=by unfold D.tB;rw[h];rfl
theorem nq{b:Bool}(h:a s=.ok (.bl b,s)):D.bw a s=.ok (b,s):=by unfold D.bw;rw[h];rfl
theorem o1E{g:T->FR}{u:T}(h:a s=.ok (t,s))(k:g t=some u):cu g a s=.ok (u,s):=by
 unfold cu;rw[h];refine Eq.trans (bC _ _) ?_;dsimp only;rw[k];rfl
theorem Ux{d:FT}{x y:Bool}(h:c s=.ok (x,s))(h2:d s=.ok (y,s)):gX c d s=.ok (x&&y,s):=by
 unfold gX;rw[h];cases x with
 |true=>exact h2
 |false=>rfl
theorem x8{g:FK->FC}{fl:FL}{s s1:S}{ts us:FK}(h:fl s=.ok (ts,s1))(k:g ts=some us):tR g fl s=.ok (us,s1):=by
 unfold tR;rw[h];refine Eq.trans (bC _ _) ?_;dsimp only;rw[k];rfl
theorem YD{b:Bool}{s1:S}(h:a s=.ok (.bl b,s1)):uJ a s=.ok (.bl (!b),s1):=by unfold uJ;rw[h];rfl
theorem VN{lo hi:FO}{u:T}{x y:D2}(ha:a s=.ok (t,s))(hl:lo s=.ok (x,s))(hh:hi s=.ok (y,s))(h:HB x y t=some u):mZ a lo hi s=.ok (u,s):=by
 unfold mZ;rw[ha];refine Eq.trans (bC _ _) ?_;dsimp only;rw[hl];refine Eq.trans (bC _ _) ?_;dsimp only;rw[hh];refine Eq.trans (bC _ _) ?_;dsimp only;rw[h];rfl
theorem YE{ts:FK}(h:a s=.ok (t,s))(k:Vz t=some ts):sy a s=.ok (ts,s):=by
 unfold sy;rw[h];refine Eq.trans (bC _ _) ?_;dsimp only;rw[k];rfl
theorem VO{src:FL}{n:Nat}{js:B1}{g:FG}{e:FE}{ts us:FK}(h:src s=.ok (ts,s))(z:ts.length<=1000000)(hf:jJ js s.r=s.r)(q:aW g c e (i9 n js s.r) ts s.m=.ok (us,s.m)):eX (cW src n js g c e) s=.ok (.lst us,s):=by
 have:=mj (o8 (n:=n) (js:=js) (g:=g) (c:=c) (e:=e) (us:=us) (m':=s.m) h z (by rw[hf];exact q))
 rw[hf]at this;exact this
theorem pE(h:a s=.ok (t,s)){b:FE}{u v:T}{g:T->T->FR}(h2:b s=.ok (u,s))(k:g t u=some v):bB g a b s=.ok (v,s):=aI h h2 k
theorem LC{f:B1->FK->FR}{o:FE}{fl:FL}{s s1 s2:S}{l:B1}{ts:FK}{t:T}(h:o s=.ok (.str l,s1))(h2:fl s1=.ok (ts,s2))(h3:f l ts=some t):pU f o fl s=.ok (t,s2):=by
 unfold pU;rw[h];refine Eq.trans (bC _ _) ?_;refine Eq.trans (bC _ _) ?_;dsimp only;rw[h2];refine Eq.trans (bC _ _) ?_;dsimp only;rw[h3];rfl
end
structure Nm(d:B1)(v:Int):Prop where
 hd:∀c∈d,c∈Bs
 h0:d≠[]
 hz:pre [48] d=false
 hl:d.length<=3
 hi:sH [.str d]=some (.int v)
structure Pt(w:B1)(t:T):Prop where
 no:47∉w
 eq:∀n m,cN (n+7) 5 [.str w] m=.ok (t,m)
theorem iI{w b:B1}{t:T}{k:Int}(P:Pt w t):cN (n+8) 46 [.own 0] (SC (47::(w++47::b)) k)=.ok (t,SC b k):=by
 rw[w46];have e:aw (ak [(27,111)] (cN (n+7))) (vF 0) (k1 (cS [47])) (St [none] (47::(w++47::b)) k)=.ok (.str w,St [none] b k):=sm rfl (oZ (n+4) P.no);exact dH (s':=St [sv (.str w)] b k) rfl (seq1 (iS e) (gu (gB (ts:=[.str w]) (s':=St [sv (.str w)] b k) rfl (P.eq n _)))) rfl
def Uy(b:B1):Prop:=∀c,b.head?=some c->c∉Bs
inductive RP where
 |row (d:B1) (v:Int)|like (w:B1) (t:T)
def RP.ok:RP->Prop
 |.row d v=>Nm d v/\1<=v/\v<=999
 |.like w t=>Pt w t
noncomputable def RP.txt:RP->B1->B1
 |.row d _,b=>114::111::119::32::(d++b)
 |.like w _,b=>47::(w++47::b)
noncomputable def RP.val:RP->T
 |.row _ v=>.obj 4 [.int v]
 |.like _ t=>.obj 6 [t]
theorem Uz{x:RP}{b:B1}{k:Int}(h:x.ok)(hb:Uy b):cN (n+9) 38 [.own 0] (SC (x.txt b) k)=.ok (x.val,SC b k):=by
 rw[w38];cases x with
 |row d v=>
  obtain⟨N,h1,h2⟩:=h;exact dH (s':=St [] b k) rfl (hit (w:=[114,111,119,32]) (rest:=d++b) (n+7) (gu (mT (ts:=[.int v]) (av (cR (ts:=[.int 1,.int 999]) rfl (rl (n+5) N.hd N.h0 N.hz N.hl N.hi h1 h2 hb)) rfl) rfl))) rfl
 |like w t=>
  exact dH (s':=St [] b k) rfl (skip (n+7) (cy (by decide)) (gu (mT (ts:=[t]) (av (cR (ts:=[]) rfl (iI n h)) rfl) rfl))) rfl
inductive PC where
 |last|soon (d:B1) (v:Int) (w:B1) (t:T)|rp (x:RP)
def PC.ok:PC->Prop
 |.last=>True
 |.soon d v w t=>Nm d v/\1<=v/\v<=3/\Pt w t
 |.rp x=>x.ok
noncomputable def PC.txt:PC->B1->B1
 |.last,b=>108::97::115::116::b
 |.soon d _ w _,b=>115::111::111::110::32::(d++32::47::(w++47::b))
 |.rp x,b=>x.txt b
noncomputable def PC.val:PC->T
 |.last=>.obj 5 []
 |.soon _ v _ t=>.obj 7 [.int v,t]
 |.rp x=>x.val
theorem UA(b:B1):Uy (32::b):=λc h=>by cases h;decide
theorem s_{x:RP}{b w:B1}{c:Nat}(h1:c≠114)(h2:c≠47):pre (c::w) (x.txt b)=false:=by
 cases x with
 |row d v=>exact cy h1
 |like w t=>exact cy h2
theorem vJ{x:PC}{b:B1}{k:Int}(h:x.ok)(hb:Uy b):cN (n+10) 37 [.own 0] (SC (x.txt b) k)=.ok (x.val,SC b k):=by
 rw[w37];cases x with
 |last=>exact dH (s':=St [none,none] b k) rfl (hit (w:=[108,97,115,116]) (rest:=b) (n+8) (gu (mT (ts:=[]) rfl rfl))) rfl
 |soon d v w t=>
  obtain⟨N,h1,h2,P⟩:=h;refine dH (s':=St [sv (.int v),none] b k) rfl (skip (n+8) (cy (by decide)) (hit (w:=[115,111,111,110,32]) (rest:=d++32::47::(w++47::b)) (n+8) ?_)) rfl
  refine seq1 (s':=St [sv (.int v),none] (32::47::(w++47::b)) k) (iS (cR (ts:=[.int 1,.int 3]) rfl (rl (n+6) N.hd N.h0 N.hz N.hl N.hi h1 h2 (UA _)))) (seq1 (mP (w:=[32]) (rest:=47::(w++47::b)) (n+7)) (gu (mT (ts:=[.int v,t]) (av (t:=.int v) rfl (av (cR (ts:=[]) rfl (iI (n+1) P)) rfl)) rfl)))
 |rp x=>
  exact dH (s':=St [none,none] b k) rfl (skip (n+8) (s_ (by decide) (by decide)) (skip (n+8) (s_ (by decide) (by decide)) (skip (n+8) (s_ (by decide) (by decide)) (gu (cR (ts:=[]) rfl (Uz n h hb)))))) rfl
inductive CD where
 |no (x:PC)|pc (x:PC)
def CD.ok:CD->Prop
 |.no x=>x.ok
 |.pc x=>x.ok
noncomputable def CD.txt:CD->B1->B1
 |.no x,b=>110::111::116::32::x.txt b
 |.pc x,b=>x.txt b
noncomputable def CD.val:CD->T
 |.no x=>.obj 9 [x.val]
 |.pc x=>x.val
theorem x9{x:PC}{b w:B1}{c:Nat}(h:c≠114/\c≠47/\c≠108/\c≠115):pre (c::w) (x.txt b)=false:=by
 obtain⟨h1,h2,h3,h4⟩:=h;cases x with
 |last=>exact cy h3
 |soon d v w t=>exact cy h4
 |rp x=>exact s_ h1 h2
theorem Jc{x:CD}{b:B1}{k:Int}(h:x.ok)(hb:Uy b):cN (n+11) 36 [.own 0] (SC (x.txt b) k)=.ok (x.val,SC b k):=by
 rw[w36];cases x with
 |no x=>exact dH (s':=St [] b k) rfl (skip (n+9) (cy (by decide)) (hit (w:=[110,111,116,32]) (rest:=x.txt b) (n+9) (gu (mT (ts:=[x.val]) (av (cR (ts:=[]) rfl (vJ n h hb)) rfl) rfl)))) rfl
 |pc x=>exact dH (s':=St [] b k) rfl (skip (n+9) (x9 (by decide)) (skip (n+9) (x9 (by decide)) (gu (cR (ts:=[]) rfl (vJ n h hb))))) rfl
structure YF(l:B1):Prop where
 h:∀c∈l,c∈jc/\c≠34
 hl:l.length<=40
inductive DD where
 |say (l:B1)
def DD.ok:DD->Prop
 |.say l=>YF l
noncomputable def DD.txt:DD->B1->B1
 |.say l,b=>115::97::121::32::34::(l++34::b)
noncomputable def DD.val:DD->T
 |.say l=>.obj 16 [.str l]
section
variable{k:Int}
theorem OZ{l b:B1}(W:YF l):cN (n+4) 45 [.own 0] (SC (34::(l++34::b)) k)=.ok (.str l,SC b k):=Fi n W.h W.hl
theorem p2{a c d:Nat}{w r:B1}(h:c≠d):pre (a::c::w) (a::d::r)=false:=by rw[Fc];exact cy h
theorem sk{c d:Nat}{w' q':B1}(n:Nat){r:Fs}{A B:FS}{R:Res (Out×S)}(q:B (St r (d::q') k)=R)(h:c≠d:=by decide):af (aU (D.tB (aw (ak [(27,108)] (cN (n+8+1))) (vF 0) (k1 (cS (c::w'))))) A aC) B (St r (d::q') k)=R:=skip (n+8) (cy h) q
theorem z4{x:DD}{b:B1}(h:x.ok):cN (n+10) 39 [.own 0] (SC (x.txt b) k)=.ok (x.val,SC b k):=by
 rw[w39];refine dH (s':=St [] b k) rfl ?_ rfl;show af _ _ (St [] (x.txt b) k)=_;cases x with
 |say l=>exact sk n (sk n (sk n (sk n (hit (w:=[115,97,121,32]) (rest:=34::(l++34::b)) (n+8) (gu (mT (ts:=[.str l]) (av (cR (ts:=[]) rfl (OZ (n+5) h)) rfl) rfl))))))
end
def x_:Ap:=[[114,111,119,32],[108,97,115,116],[47],[115,111,111,110,32],[102,114,111,109,32],[110,111,116,32],[101,110,100]]
def qr(rest:B1):Bool:=x_.any λw=>pre w rest
theorem UB{d:Nat}{r:B1}(h:d≠111):qr (115::d::r)=false:=by
 unfold qr x_;simp only[nB,List.any_nil,p2 (Ne.symm h),cy (show 114≠115 by decide),cy (show 108≠115 by decide),cy (show 47≠115 by decide),cy (show 102≠115 by decide),cy (show 110≠115 by decide),cy (show 101≠115 by decide),Kh]
theorem kW{w r:B1}(h:w∈x_):qr (w++r)=true:=B9.mpr ⟨w,h,pre_app w r⟩
theorem Fj(x:DD)(b:B1):qr (x.txt b)=false:=by
 cases x with
 |say l=>exact UB (by decide)
theorem Fl(x:CD)(b:B1):qr (x.txt b)=true:=by
 have rp:∀(x:RP)(b:B1),qr (x.txt b)=true:=λx b=>by
  cases x with
  |row d v=>exact kW (w:=[114,111,119,32]) (by decide)
  |like w t=>exact kW (w:=[47]) (by decide)
 have pc:∀(x:PC)(b:B1),qr (x.txt b)=true:=λx b=>by
  cases x with
  |last=>exact kW (w:=[108,97,115,116]) (by decide)
  |soon d v w t=>exact kW (w:=[115,111,111,110,32]) (by decide)
  |rp x=>exact rp x b
 cases x with
 |no x=>exact kW (w:=[110,111,116,32]) (by decide)
 |pc x=>exact pc x b
def prT(rest:B1):T->T
 |.str w=>.bl (pre w rest)
 |_=>.non
theorem lQ(f:B1->Bool):∀l:Ap,boolsOf (l.map λw=>T.bl (f w))=some (l.map f)
 |[]=>rfl
 |w::l=>by
  show(boolsOf (l.map λw=>T.bl (f w))).map _=_;rw[lQ f l];rfl
theorem any_eq{rest:B1}{k:Int}:D.tB (aR mQ (k1 (eX (cW (sy (cF (.tup [(.str [114,111,119,32]),(.str [108,97,115,116]),(.str [47]),(.str [115,111,111,110,32]),(.str [102,114,111,109,32]),(.str [110,111,116,32]),(.str [101,110,100])]))) 2 [0] (setG 1) dG (pU A9 (aE M.P.tab 31 (vF 2)) (k1 (vF 1))))))) (St [none] rest k)=.ok (qr rest,St [none] rest k):=by
 have e:aR mQ (k1 (eX (cW (sy (cF (.tup [(.str [114,111,119,32]),(.str [108,97,115,116]),(.str [47]),(.str [115,111,111,110,32]),(.str [102,114,111,109,32]),(.str [110,111,116,32]),(.str [101,110,100])]))) 2 [0] (setG 1) dG (pU A9 (aE M.P.tab 31 (vF 2)) (k1 (vF 1)))))) (St [none] rest k)=.ok (.bl (qr rest),St [none] rest k):=by
  refine cP (ts:=[.lst ((x_.map T.str).map (prT rest))]) (av (mj (o8 (ts:=x_.map T.str) (s1:=St [none] rest k) rfl (by decide) (f6 λt ht=>?_))) rfl) ?_
  ·obtain⟨w,_,rfl⟩:=fG.mp ht
   exact⟨[none,sv (.str w),sv (.own 0)],[none,sv (.str w),sv (.own 0)],rfl,rfl⟩
  ·have:(x_.map T.str).map (prT rest)=x_.map λw=>T.bl (pre w rest):=by rw[iL];rfl
   rw[this];simp only[mQ,A6,lQ];unfold qr;rw[Cv,Ax];rfl
 unfold D.tB;rw[e];rfl
inductive LN where
 |bare (x:DD)|full (c:CD) (x:DD)
def LN.ok:LN->Prop
 |.bare x=>x.ok
 |.full c x=>c.ok/\x.ok
noncomputable def LN.txt:LN->B1->B1
 |.bare x,b=>x.txt b
 |.full c x,b=>c.txt (58::32::x.txt b)
def LN.cond:LN->T
 |.full c _=>c.val
 |_=>.obj 3 []
def LN.mV:LN->T
 |.bare x=>x.val
 |.full _ x=>x.val
noncomputable def LN.val(x:LN):T:=.obj 1 [x.cond,x.mV]
theorem YG(x:DD)(b w:B1):pre (109::w) (x.txt b)=false:=by
 cases x with
 |say l=>exact cy (by decide)
theorem YH(x:CD)(b w:B1):pre (109::w) (x.txt b)=false:=by
 cases x with
 |no x=>exact cy (by decide)
 |pc x=>exact x9 (by decide)
theorem UC(b:B1):Uy (58::b):=λc h=>by cases h;decide
theorem tm{x:LN}{b:B1}{k:Int}(h:x.ok):cN (n+12) 35 [.own 0] (SC (x.txt b) k)=.ok (x.val,SC b k):=by
 rw[w35];cases x with
 |bare x=>
  refine dH (s':=St [none] b k) rfl (skip (n+10) (YG x b _) (E7 (OS (s':=St [none] (x.txt b) k) ?_ (gu (mT (ts:=[.obj 3 [],x.val]) (av (t:=.obj 3 []) rfl (av (cR (ts:=[]) rfl (z4 (n+1) h)) rfl)) rfl))))) rfl;exact YB ((any_eq (rest:=x.txt b)).trans (by rw[Fj]))
 |full c x=>
  refine dH (s':=St [sv c.val] b k) rfl (skip (n+10) (YH c _ _) (seq1 (s':=St [none] (c.txt (58::32::x.txt b)) k) (zV (s':=St [none] (c.txt (58::32::x.txt b)) k) ?_ rfl) (seq1 (s':=St [sv c.val] (58::32::x.txt b) k) (iS (cR (ts:=[]) rfl (Jc n h.1 (UC _)))) (seq1 (s':=St [sv c.val] (x.txt b) k) (mP (w:=[58,32]) (rest:=x.txt b) (n+9)) (gu (mT (ts:=[c.val,x.val]) (av (t:=c.val) rfl (av (cR (ts:=[]) rfl (z4 (n+1) h.2)) rfl)) rfl)))))) rfl;exact vI ((any_eq (rest:=c.txt (58::32::x.txt b))).trans (by rw[Fl]))
theorem Jd{row:B1}{k:Int}:cN (n+1) 106 [.own 0,.str row,.int k] [⟨27,[]⟩]=.ok (.non,SC row k):=by
 rw[Ys];rfl
def pe(x:LN):Prop:=∀n m,cN (n+7) 47 [x.cond,x.mV] m=.ok (.bl true,m)
theorem ya{x:LN}{k:Int}(h:x.ok)(hs:pe x)(hw:noOwn x.val=true):cN (n+13) 34 [.str (x.txt []),.int k] m=.ok (x.val,m):=by
 rw[w34];refine kT (m':=SC [] k) rfl ?_ hw;refine dH (s':=⟨[sv (.str (x.txt [])),sv (.int k),sv (.own 0),sv x.val],SC [] k⟩) rfl ?_ rfl;refine seq1 (s':=⟨[sv (.str (x.txt [])),sv (.int k),sv (.own 0),none],SC (x.txt []) k⟩) ?_ (seq1 (s':=⟨[sv (.str (x.txt [])),sv (.int k),sv (.own 0),sv x.val],SC [] k⟩) ?_ (seq1 (s':=⟨[sv (.str (x.txt [])),sv (.int k),sv (.own 0),sv x.val],SC [] k⟩) (zV (s':=⟨[sv (.str (x.txt [])),sv (.int k),sv (.own 0),sv x.val],SC [] k⟩) ?_ rfl) rfl))
 ·refine iS (t:=.own 0) (s':=⟨[sv (.str (x.txt [])),sv (.int k),none,none],SC (x.txt []) k⟩) ?_
  exact Uw (ts:=[.str (x.txt []),.int k]) (s':=⟨[sv (.str (x.txt [])),sv (.int k),none,none],[]⟩) rfl (Jd (n+11))
 ·exact iS (gB (ts:=[.own 0]) (s':=⟨[sv (.str (x.txt [])),sv (.int k),sv (.own 0),none],SC (x.txt []) k⟩) rfl (tm n h))
 ·have e:ao (cN (n+12) 47) [] (k2 (aE M.P.tab 1 (vF 3)) (aE M.P.tab 2 (vF 3))) ⟨[sv (.str (x.txt [])),sv (.int k),sv (.own 0),sv x.val],SC [] k⟩=.ok (.bl true,⟨[sv (.str (x.txt [])),sv (.int k),sv (.own 0),sv x.val],SC [] k⟩):=gB (ts:=[x.cond,x.mV]) (s':=⟨[sv (.str (x.txt [])),sv (.int k),sv (.own 0),sv x.val],SC [] k⟩) rfl (hs (n+5) _)
  refine OY (s1:=⟨[sv (.str (x.txt [])),sv (.int k),sv (.own 0),sv x.val],SC [] k⟩) rfl (vI ?_);unfold D.tB;rw[e];rfl
structure Lk(x:LN):Prop where
 ok:x.ok
 ms:pe x
 no:noOwn x.val=true
abbrev gZ(xs:List LN):FK:=xs.map λx=>.str (x.txt [])
abbrev cz(xs:List LN):FK:=xs.map LN.val
theorem vK(n:Nat){R:Option C}:∀(xs:List LN)(j:Nat)(done:FK)(u v:Option C),(∀x∈xs,Lk x)->j+xs.length<=25->done.length<=j->∃u' v',bP (dh [2,3]) (af (aU (D.bw (bB (aH .Gt) (vF 2) (cI 24))) cM aC) (dU 1 (ao (cN (n+13) 34) [] (k2 (vF 3) (vF 2))))) (dg (j:Nat) (gZ xs)) ⟨[R,some (.ol done),u,v],[]⟩=.ok (.nx,⟨[R,some (.ol (done++cz xs)),u',v'],[]⟩)
 |[],j,done,u,v,_,_,_=>⟨u,v,by rw[show done++cz []=done from cY _];rfl⟩
 |x::xs,j,done,u,v,h,hj,hd=>by
  have hx:=h x (er ..);rw[dP]at hj;obtain⟨u',v',e⟩:=vK n xs (j+1) (done++[x.val]) (sv (.int (j:Nat))) (sv (.str (x.txt []))) (λy hy=>h y (eF _ hy)) (by omega) (by rw[cC];show done.length+1<=_;omega)
  refine⟨u',v',zZ (r:=[R,some (.ol done),sv (.int (j:Nat)),sv (.str (x.txt []))]) rfl (seq1 (s':=⟨[R,some (.ol done),sv (.int (j:Nat)),sv (.str (x.txt []))],[]⟩) (zV (s':=⟨[R,some (.ol done),sv (.int (j:Nat)),sv (.str (x.txt []))],[]⟩) ?_ rfl) (vH (GR:=done) (ts:=done) rfl (gB (ts:=[.str (x.txt []),.int (j:Nat)]) (s':=⟨[R,some (.ol done),sv (.int (j:Nat)),sv (.str (x.txt []))],[]⟩) rfl (ya n hx.ok hx.ms hx.no)) rfl (by omega))) ?_⟩
  ·have g:decide ((24:Int)<(j:Nat))=false:=decide_eq_false (by omega)
   simp only[ev,pW,bC,nk,Br,g]
  ·have e2:done++cz (x::xs)=done++[x.val]++cz xs:=by simp
   rw[e2];exact e
theorem f_:∀(a:List LN),(∀x∈a,Lk x)->az (cz a)=true
 |[],_=>rfl
 |x::a,h=>by
  show(noOwn x.val&&az (cz a))=true;rw[(h x (er ..)).no,f_ a λy hy=>h y (eF _ hy)];rfl
theorem mq:∀(a:List LN),az (gZ a)=true
 |[]=>rfl
 |x::a=>by
  show(true&&az (gZ a))=true;rw[mq a];rfl
theorem vL{xs:List LN}(h:∀x∈xs,Lk x)(hl:xs.length<=24):cN (n+14) 50 [.lst (gZ xs)] m=.ok (.lst (cz xs),m):=by
 rw[w50];obtain⟨u,v,e⟩:=vK n (R:=sv (.lst (gZ xs))) xs 1 [] none none h (by omega) (iN _)
 refine kT (m':=[]) ?_ (dH (s':=⟨[sv (.lst (gZ xs)),sv (.lst (cz xs)),u,v],[]⟩) rfl (seq1 (s':=⟨[sv (.lst (gZ xs)),some (.ol []),none,none],[]⟩) rfl (seq1 (YA (ts:=dg 1 (gZ xs)) (s1:=⟨[sv (.lst (gZ xs)),some (.ol []),none,none],[]⟩) rfl e) rfl)) rfl) ?_
 ·show(az (gZ xs)&&true)=true
  rw[mq];rfl
 ·exact f_ xs h
theorem O0(x:LN):gH M.P.sub [12] x.mV=some (.bl false):=by
 cases x with
 |bare d=>cases d;rfl
 |full c d=>cases d;rfl
theorem YI(x:LN):gH M.P.sub [21] x.mV=some (.bl false):=by
 cases x with
 |bare d=>cases d;rfl
 |full c d=>cases d;rfl
theorem ph:∀{l:FK}{i:Int}{t:T},t∈dg i l->∃j x,x∈l/\t=.tup [.int j,x]
 |[],_,_,h=>by cases h
 |x::l,i,t,h=>by
  rcases bA.mp (show t∈T.tup [.int i,x]::dg (i+1) l from h)with z|z
  ·exact⟨i,x,er ..,z⟩
  ·obtain⟨j,y,h1,h2⟩:=ph z
   exact⟨j,y,eF _ h1,h2⟩
theorem LD{B:FS}{R D u v:Option C}{xs:List LN}(hB:∀(x:LN)(u:Option C),W (B ⟨[R,D,u,sv x.val],[]⟩) λp=>p.1=.nx/\p.2=⟨[R,D,u,sv x.val],[]⟩):W (bP (dh [2,3]) B (dg 1 (cz xs)) ⟨[R,D,u,v],[]⟩) λp=>p.1=.nx/\∃u v,p.2=⟨[R,D,u,v],[]⟩:=Fd (I:=λs=>∃u v,s=⟨[R,D,u,v],[]⟩) (λt ht s hI=>by
 obtain⟨u,v,rfl⟩:=hI;obtain⟨j,x,hx,rfl⟩:=ph ht;obtain⟨q,_,rfl⟩:=fG.mp hx;exact⟨_,rfl,(hB q _).mono λp hp=>⟨hp.1,_,_,hp.2⟩⟩) ⟨u,v,rfl⟩
theorem vM{xs:List LN}(hv:∀x∈xs,Lk x):cN (n+1) 51 [.lst (cz xs)] m=.ok (.du [] [],m):=by
 rw[w51];refine W.eq (kU ?_ (ju rfl (dI (W.of (a:=(Out.nx,(⟨[sv (.lst (cz xs)),some (.od [] []),none,none],[]⟩:S))) rfl ⟨rfl,dI (fB (W.of (a:=(dg 1 (cz xs),(⟨[sv (.lst (cz xs)),some (.od [] []),none,none],[]⟩:S))) rfl ((LD λx u=>fL (iw (t:=x.mV) rfl (O0 x)) ⟨_,rfl,rfl,rfl⟩).mono λp hp=>⟨hp.1,?_⟩)))⟩))))
 ·show(az (cz xs)&&true)=true
  rw[f_ xs hv];rfl
 ·obtain⟨_,u,v,e⟩:=hp
  rw[e];exact Bp (t:=.du [] []) (s':=⟨[sv (.lst (cz xs)),sv (.du [] []),u,v],[]⟩) rfl ⟨rfl,rfl⟩
theorem refuse_eq{xs:List LN}(hv:∀x∈xs,Lk x):cN (n+1) 52 [.lst (cz xs),.du [] []] m=.ok (.non,m):=by
 rw[w52];refine W.eq (kU ?_ (f9 rfl (fB (W.of (a:=(dg 1 (cz xs),(⟨[sv (.lst (cz xs)),sv (.du [] []),none,none],[]⟩:S))) rfl ((LD λx u=>fL (s':=⟨[sv (.lst (cz xs)),sv (.du [] []),u,sv x.val],[]⟩) ?_ ⟨_,rfl,rfl,rfl⟩).mono λp hp=>⟨hp.1,rfl,rfl⟩)))))
 ·show(az (cz xs)&&(true&&true))=true
  rw[f_ xs hv];rfl
 ·unfold gX
  rw[iw (s:=⟨[sv (.lst (cz xs)),sv (.du [] []),u,sv x.val],[]⟩) (t:=x.mV) rfl (YI x)];rfl
theorem iy{c:Nat}:∀{p q:B1},c∉p->aX c (p++c::q)=p::aX c q
 |[],q,_=>by show aX c (c::q)=_;rw[aX,if_pos rfl]
 |d::p,q,h=>by
  have hd:d≠c:=λe=>h (by rw[e];exact er ..)
  show aX c (d::(p++c::q))=_;rw[aX,if_neg hd,iy (λz=>h (eF _ z))]
theorem pj{c:Nat}:∀{ls:Ap},ls≠[]->(∀l∈ls,c∉l)->aX c (bq [c] ls)=ls
 |[],h,_=>absurd rfl h
 |[a],_,h=>jN (h a (er ..))
 |a::b::r,_,h=>by
  show aX c (a++[c]++bq [c] (b::r))=_;rw[dN];show aX c (a++c::bq [c] (b::r))=_;rw[iy (h a (er ..)),pj (by simp) λl hl=>h l (eF _ hl)]
theorem mw{c:Nat}:∀{ls:Ap},ls≠[]->(∀l∈ls,c∉l)->aX c (bq [c] ls++[c])=ls++[[]]
 |[],h,_=>absurd rfl h
 |[a],_,h=>by
  show aX c (a++c::[])=_;rw[iy (h a (er ..))];rfl
 |a::b::r,_,h=>by
  show aX c (a++[c]++bq [c] (b::r)++[c])=_;rw[dN,dN];show aX c (a++c::(bq [c] (b::r)++[c]))=_;rw[iy (h a (er ..)),mw (by simp) λl hl=>h l (eF _ hl)]
  rfl
theorem nu{α:Type}(xs:List α)(x:α):atT (xs++[x]) (-1)=some x:=by
 unfold atT;rw[if_neg (by decide),if_pos (by rw[cC,BY];omega)]
 have:(-1+((xs++[x]).length:Int)).toNat=xs.length:=by rw[cC,BY];omega
 rw[this];simp
theorem vN{α:Type}(xs:List α)(x:α):bg (xs++[x]) none (some (-1))=xs:=by
 unfold bg gf;dsimp only;rw[if_pos (by decide)]
 have:(-1+((xs++[x]).length:Int)).toNat=xs.length:=by rw[cC,BY];omega
 rw[this];simp
theorem aaf:gT (.int 1)=some (.int (-1)):=rfl
theorem e_:∀(l:Ap),az (l.map T.str)=true
 |[]=>rfl
 |x::a=>by
  show(true&&az (a.map T.str))=true;rw[e_ a];rfl
theorem Je{ls:Ap}{last:B1}(h:∀l∈ls++[last],10∉l)(h0:last≠[])(hz:(bq [10] (ls++[last])).length<=100000):cN (n+1) 1 [.str (bq [10] (ls++[last]))] m=.ok (.tup [.lst ((ls++[last]).map T.str),.bl false],m):=by
 rw[w1];have e:splitM (bq [10] (ls++[last])) [.str [10]]=some (.lst ((ls++[last]).map T.str)):=by
  show gd _ _=_;rw[jT hz,pj (by simp) h]
 have e2:gq (.lst ((ls++[last]).map T.str)) (.int (-1))=some (.str last):=by
  show atT _ (-1)=_;rw[lj];exact nu _ _
 refine sEq rfl rfl ?_ (bS (LC rfl rfl e) (bN (nq (aI (aI (t:=.lst ((ls++[last]).map T.str)) rfl (u:=.int (-1)) rfl e2) rfl (by rw[mU,decide_eq_false h0]))) (bR rfl rfl)))
 show(az ((ls++[last]).map T.str)&&(true&&true))=true;rw[e_];rfl
theorem z5{ls:Ap}(h:∀l∈ls,10∉l)(h0:ls≠[])(hz:(bq [10] ls++[10]).length<=100000):cN (n+1) 1 [.str (bq [10] ls++[10])] m=.ok (.tup [.lst (ls.map T.str),.bl true],m):=by
 rw[w1];have e:splitM (bq [10] ls++[10]) [.str [10]]=some (.lst ((ls++[[]]).map T.str)):=by
  show gd _ _=_;rw[jT hz,mw h0 h]
 have e2:gq (.lst ((ls++[[]]).map T.str)) (.int (-1))=some (.str []):=by
  show atT _ (-1)=_;rw[lj];exact nu _ _
 have e3:bg ((ls++[[]]).map T.str) none (some (-1))=ls.map T.str:=by
  rw[lj];exact vN _ _
 refine sEq rfl rfl ?_ (bS (LC rfl rfl e) (bY (nq (aI (aI (t:=.lst ((ls++[[]]).map T.str)) rfl (u:=.int (-1)) rfl e2) rfl (by rw[mU,decide_eq_true rfl]))) (bR (cP (ts:=[.lst (ls.map T.str),.bl true]) (av (by show Res.ok (T.lst (bg ((ls++[[]]).map T.str) none (some (-1))),_)=_;rw[e3];rfl) rfl) rfl) rfl)))
 show(az (ls.map T.str)&&(true&&true))=true;rw[e_];rfl
theorem Jf{xs:List LN}{text:B1}{b:Bool}(hv:∀x∈xs,Lk x)(hl:xs.length<=24)(hc:∀m,cN (n+14) 1 [.str text] m=.ok (.tup [.lst (gZ xs),.bl b],m)):cN (n+15) 49 [.str text] m=.ok (.obj 0 [.lst (cz xs)],m):=by
 rw[w49];refine sEq rfl rfl ?_ (bS (cE (ts:=[.lst (gZ xs)]) (av (pE (cE (ts:=[.str text]) rfl (hc _)) rfl rfl) rfl) (vL n hv hl)) (bS (cE (ts:=[.lst (cz xs)]) rfl (vM (n+13) hv)) (dI (dE (cE (ts:=[.lst (cz xs),.du [] []]) rfl (refuse_eq (n+13) hv)) ⟨rfl,bR rfl rfl⟩))));show(az (cz xs)&&true)=true;rw[f_ xs hv];rfl
def VP:B1:=[94,36,46,91,93,42,43,63,47]
def Jg(c:Nat):Bool:=decide (c∈jc)&&!decide (c∈VP)
theorem UD(c:Nat)(l:B1):aH .NotIn (.str [c]) (.str l)=some (.bl (!decide (c∈l))):=rfl
theorem pA{a b:FE}{s s1:S}{x y:Bool}(h:a s=.ok (.bl x,s1))(h2:x=true->b s1=.ok (.bl y,s1)):ko a b s=.ok (.bl (x&&y),s1):=by
 unfold ko;rw[h];refine Eq.trans (bC _ _) ?_;cases x with
 |true=>exact h2 rfl
 |false=>rfl
theorem yb{c:Nat}:cN (n+1) 4 [.str [c]] m=.ok (.bl (Jg c),m):=by
 rw[w4];exact sEq rfl rfl rfl (bR (pA (aI rfl rfl (Fg c jc)) λ_=>aI rfl rfl (UD c VP)) rfl)
theorem Bt(a b:Int):aH .Eq (.int a) (.int b)=some (.bl (decide (a=b))):=rfl
theorem YJ(a b:Int):aH .NotEq (.int a) (.int b)=some (.bl (!decide (a=b))):=rfl
def z6(sg:B1)(ot:Bool):Prop:=ot=true\/∀c,sg=[c]->Jg c=false
theorem Fo{sg:B1}{ot:Bool}(h:z6 sg ot):cN (n+2) 11 [.str sg,.bl ot] m=.ok (.bl false,m):=by
 rw[w11];refine sEq rfl rfl rfl (bR (LB (x:=!ot) rfl λho=>LB (x:=decide ((sg.length:Int)=1)) rfl λhx=>?_) rfl);have hl:sg.length=1:=by have:=of_decide_eq_true hx;omega
 obtain⟨c,rfl⟩:=J7.mp hl;have hp:Jg c=false:=by
  rcases h with h|h
  ·rw[h]at ho;cases ho
  ·exact h c rfl
 rw[<- hp];exact cE (ts:=[.str [c]]) rfl (yb n)
theorem vO:∀(l c8:B1),(∀c∈l,c∉c8)->l.Nodup->(Pf.iC c8 l).length=c8.length+l.length
 |[],c8,_,_=>rfl
 |c::l,c8,h,hn=>by
  rw[Pf.iC,if_neg (h c (er ..)),vO l (c::c8) (λd hd z=>?_) (j4.mp hn).2]
  ·rw[dP,dP];omega
  ·rcases bA.mp z with rfl|z
   ·exact(j4.mp hn).1 hd
   ·exact h d (eF _ hd) z
structure Sg(sg:B1):Prop where
 ne:sg≠[]
 jX:sg.length<=12
 nd:sg.Nodup
 mem:∀c∈sg,c∈jc/\c≠93/\c≠94/\c≠47/\c<128
def O1:T->T:=λ_=>.bl false
theorem vP:∀(l:FK),boolsOf (l.map O1)=some (l.map λ_=>false)
 |[]=>rfl
 |_::l=>by
  show(boolsOf (l.map O1)).map _=_;rw[vP l];rfl
theorem vQ{sg ins:B1}{ot:Bool}{mn:Nat}(g:Sg sg)(hs:z6 sg ot)(hi:ins=if ot then 94::sg else sg):cN (n+3) 10 [.str ins,.str [mn]] m=.ok (.tup [.str sg,.bl ot,.str [mn]],m):=by
 have hp:pre [94] ins=ot:=by
  subst hi;cases ot with
  |true=>exact pre_app [94] sg
  |false=>
   cases sg with
   |nil=>exact absurd rfl g.ne
   |cons c l=>exact cy (Ne.symm (g.mem c (er ..)).2.2.1)
 have jX:=g.jX;have e1:sQ (.str sg)=some (.int (sg.length:Nat)):=by
  show gd _ _=_;rw[jT ⟨gh.mpr λc PB=>decide_eq_true (g.mem c PB).2.2.2.2,by omega⟩]
  show some (T.int ((Pf.iC [] sg).length:Nat))=_;rw[vO sg [] (λ_ _ z=>by cases z) g.nd]
  simp
 rw[WH];refine sEq rfl rfl rfl (bS (t:=.bl ot) (by show Res.ok (T.bl (pre [94] ins),_)=_;rw[hp]) (bS (t:=.str sg) ?_ (bN ?_ (bN (GS (cP (ts:=[.lst ((sg.map λc=>T.str [c]).map O1)]) (av (VO (ts:=sg.map λc=>T.str [c]) rfl (by rw[cD];omega) rfl (f6 λt ht=>?_)) rfl) ?_)) (bN ?_ (bN (GS (cE (ts:=[.str sg,.bl ot]) rfl (Fo n hs))) (bR rfl rfl)))))))
 ·cases ot with
  |true=>
   show Res.ok (T.str (bg ins (some 1) none),_)=_;rw[hi,show bg (if true then 94::sg else sg) (some 1) none=sg from jb [94] sg]
  |false=>rw[hi];rfl
 ·have g1:decide (sg=[])=false:=decide_eq_false g.ne
  have g2:decide ((12:Int)<(sg.length:Nat))=false:=decide_eq_false (by omega)
  exact OY (nq (aI (t:=.str sg) (u:=.str []) rfl rfl (by rw[mU,g1]))) (nq (aI (t:=.int (sg.length:Nat)) (u:=.int 12) rfl rfl (by rw[Br,g2])))
 ·obtain⟨c,PB,rfl⟩:=fG.mp ht
  obtain⟨_,h1,h2,h3,_⟩:=g.mem c PB;refine⟨[none,sv (.str [c])],[none,sv (.str [c])],rfl,?_⟩
  have:decide (c∈[93,94,47])=false:=decide_eq_false (by simp[h1,h2,h3])
  exact aI rfl rfl ((Fg c [93,94,47]).trans (by rw[this];rfl))
 ·simp only[mQ,A6,vP]
  rw[Cv,Ax]
  congr 2
  simp
 ·exact nq (aI (t:=.int (sg.length:Nat)) (u:=.int (sg.length:Nat)) (o1E rfl e1) rfl (by rw[YJ,decide_eq_true rfl];rfl))
inductive IT where
 |any|neg (sg:B1)|set (sg:B1)|pl (c:Nat)
structure Itm where
 k:IT
 mn:Nat
def IT.core:IT->B1
 |.any=>[46]
 |.neg sg=>91::(94::sg++[93])
 |.set sg=>91::(sg++[93])
 |.pl c=>[c]
def IT.sg:IT->B1
 |.any=>[]
 |.neg sg=>sg
 |.set sg=>sg
 |.pl c=>[c]
def IT.ot:IT->Bool
 |.any=>true
 |.neg _=>true
 |_=>false
def IT.ok:IT->Prop
 |.any=>True
 |.neg sg=>Sg sg
 |.set sg=>Sg sg/\z6 sg false
 |.pl c=>Jg c=true
def j0(mn:Nat):B1:=if mn=49 then[]else[mn]
noncomputable def Itm.txt(i:Itm):B1:=i.k.core++j0 i.mn
noncomputable def Itm.val(i:Itm):T:=.tup [.str i.k.sg,.bl i.k.ot,.str [i.mn]]
structure Itm.ok(i:Itm):Prop where
 k:i.k.ok
 m:i.mn=49\/i.mn=42\/i.mn=43\/i.mn=63
theorem O2(a b:Nat)(l:B1):bg (a::(l++[b])) (some 1) (some (-1))=l:=by
 have h1:gf (a::(l++[b])).length 0 (some 1)=1:=by
  unfold gf;dsimp only;rw[if_neg (by decide)]
  simp
 have h2:gf (a::(l++[b])).length (a::(l++[b])).length (some (-1))=l.length+1:=by
  unfold gf;dsimp only;rw[if_pos (by decide)]
  simp;omega
 unfold bg;rw[h1,h2];simp
theorem lR{c:Nat}(h:Jg c=true):c∈jc/\c∉VP:=by
 unfold Jg at h;rw[dc]at h;refine⟨of_decide_eq_true h.1,λz=>?_⟩;rw[decide_eq_true z]at h;cases h.2
theorem vR{sg ins:B1}{ot:Bool}{mn:Nat}(g:Sg sg)(hs:z6 sg ot)(hi:ins=if ot then 94::sg else sg):cN (n+4) 9 [.str (91::(ins++[93])),.str [mn]] m=.ok (.tup [.str sg,.bl ot,.str [mn]],m):=by
 rw[w9];exact sEq rfl rfl rfl (bN (nq (aI (t:=.str (91::(ins++[93]))) (u:=.str [46]) rfl rfl (by rw[mU,decide_eq_false λz=>by injection z with z _;cases z]))) (bY (GS (by show Res.ok (T.bl (pre [91] (91::(ins++[93]))),_)=_;rw[show pre [91] (91::(ins++[93]))=true from pre_app [91] _])) (bR (cE (ts:=[.str ins,.str [mn]]) (av (by show Res.ok (T.str (bg (91::(ins++[93])) (some 1) (some (-1))),_)=_;rw[O2]) rfl) (vQ n g hs hi)) rfl)))
theorem yc{i:Itm}(h:i.ok):cN (n+4) 9 [.str i.k.core,.str [i.mn]] m=.ok (i.val,m):=by
 obtain⟨k,mn⟩:=i;obtain⟨hk,hm⟩:=h;cases k with
 |any=>
  rw[w9];exact sEq rfl rfl rfl (bY rfl (bR rfl rfl))
 |neg sg=>exact vR n hk (.inl rfl) rfl
 |set sg=>exact vR n hk.1 hk.2 rfl
 |pl c=>
  obtain⟨h1,h2⟩:=lR hk;rw[w9];exact sEq rfl rfl rfl (bN (nq (aI (t:=.str [c]) (u:=.str [46]) rfl rfl (by rw[mU,decide_eq_false λz=>h2 (by injection z with z _;rw[z];decide)]))) (bN (GS (by show Res.ok (T.bl (pre [91] [c]),_)=_;rw[cy λz=>h2 (by rw[<- z];decide)])) (bN (vI (GS (by have e:=yb (n+2) (c:=c) (m:=[]);rw[hk]at e;exact cE (ts:=[.str [c]]) rfl e))) (bR rfl rfl))))
theorem vS{D R:B1}{c:Nat}:gq (.str (D++c::R)) (.int (D.length:Nat))=some (.str [c]):=by
 show(atT (D++c::R) (D.length:Int)).map _=_;rw[ee (by simp)]
 simp
theorem UE(a b:B1):aH .NotEq (.str a) (.str b)=some (.bl (!decide (a=b))):=rfl
theorem pC{D R:B1}{c:Nat}(h:c≠91):cN (n+1) 7 [.str (D++c::R),.int (D.length:Nat)] m=.ok (.int ((D.length+1:Nat):Int),m):=by
 rw[w7];exact sEq rfl rfl rfl (bY (nq (aI (aI (t:=.str (D++c::R)) (u:=.int (D.length:Nat)) rfl rfl vS) rfl (by rw[UE,decide_eq_false λz=>h (by injection z)];rfl))) (bR rfl rfl))
theorem pD{D R ins:B1}(h:93∉ins):cN (n+1) 7 [.str (D++91::(ins++93::R)),.int (D.length:Nat)] m=.ok (.int ((D.length+(ins.length+2):Nat):Int),m):=by
 rw[w7];have hf:=E9 93 D (91::ins) R (by intro z;rcases bA.mp z with z|z;(cases z);exact h z)
 have hf:oH (D++91::(ins++93::R)) [.str [93],.int (D.length:Nat)]=some (.int ((D.length+(ins.length+1):Nat):Int)):=hf;exact sEq rfl rfl rfl (bN (nq (aI (aI (t:=.str (D++91::(ins++93::R))) (u:=.int (D.length:Nat)) rfl rfl vS) rfl (by rw[UE,decide_eq_true rfl];rfl))) (bS (t:=.int ((D.length+(ins.length+1):Nat):Int)) (LC (l:=D++91::(ins++93::R)) (ts:=[.str [93],.int (D.length:Nat)]) rfl rfl hf) (bN (nq (aI (t:=.int ((D.length+(ins.length+1):Nat):Int)) (u:=.int (-1)) rfl rfl (by rw[Bt,decide_eq_false (by omega)]))) (bR rfl rfl))))
theorem Bu{i:Itm}{D R:B1}(h:i.ok):cN (n+1) 7 [.str (D++(i.k.core++R)),.int (D.length:Nat)] m=.ok (.int ((D.length+i.k.core.length:Nat):Int),m):=by
 obtain⟨k,mn⟩:=i;obtain⟨hk,hm⟩:=h;cases k with
 |any=>exact pC n (by decide)
 |pl c=>exact pC n (λz=>(lR hk).2 (by rw[z];decide))
 |neg sg=>
  have:=pD n (D:=D) (R:=R) (ins:=94::sg) (m:=m) (λz=>by
   rcases bA.mp z with z|z
   ·cases z
   ·exact((show Sg sg from hk).mem 93 z).2.1 rfl)
  simp only[IT.core,t_,dN,rE,dP,cC,qa]at this ⊢;exact this
 |set sg=>
  have:=pD n (D:=D) (R:=R) (ins:=sg) (m:=m) (λz=>(hk.1.mem 93 z).2.1 rfl)
  simp only[IT.core,t_,dN,rE,dP,cC,qa]at this ⊢;exact this
theorem O3{c:FT}{b:FS}{f:Nat}{s s1 s2:S}{q:Res (Out×S)}(h:c s=.ok (true,s1))(hb:b s1=.ok (.nx,s2))(k:bF c b f s2=q):bF c b (f+1) s=q:=by
 rw[bF,h];refine Eq.trans (bC _ _) ?_;dsimp only;rw[if_pos rfl,hb];exact k
theorem UG{c:FT}{b:FS}{f:Nat}{s s1:S}(h:c s=.ok (false,s1)):bF c b (f+1) s=.ok (.nx,s1):=by
 rw[bF,h];rfl
def bz:List Itm->B1
 |[]=>[]
 |i::r=>i.k.core++(j0 i.mn++bz r)
theorem tu{P R:B1}{s:S}{b:FE}{j:Nat}(h:vF j s=.ok (.int (P.length:Nat),s))(h2:b s=.ok (.int ((P++R).length:Nat),s)):D.bw (bB (aH .Lt) (vF j) b) s=.ok (decide (R≠[]),s):=nq (aI h h2 (by rw[Jb];congr 2;apply decide_eq_decide.mpr;cases R<;>simp;omega))
theorem Jh{P R:B1}(h:∀c,R.head?=some c->c∉[42,43,63]):cN (n+1) 8 [.str (P++R),.int (P.length:Nat)] m=.ok (.str [49],m):=by
 rw[w8];refine sEq rfl rfl rfl (bN ?_ (bR rfl rfl));unfold gX;rw[tu (R:=R) rfl rfl];refine Eq.trans (bC _ _) ?_;cases R with
 |nil=>rfl
 |cons c R=>exact nq (aI (aI (t:=.str (P++c::R)) (u:=.int (P.length:Nat)) rfl rfl vS) rfl (by rw[Fg,decide_eq_false (h c rfl)]))
theorem pF{P R:B1}{c:Nat}(h:c∈[42,43,63]):cN (n+1) 8 [.str (P++c::R),.int (P.length:Nat)] m=.ok (.str [c],m):=by
 rw[w8];refine sEq rfl rfl rfl (bY ?_ (bR (aI (t:=.str (P++c::R)) (u:=.int (P.length:Nat)) rfl rfl vS) rfl));unfold gX;rw[tu (R:=c::R) rfl rfl];exact nq (aI (aI (t:=.str (P++c::R)) (u:=.int (P.length:Nat)) rfl rfl vS) rfl (by rw[Fg,decide_eq_true h]))
theorem rm{i:Itm}(h:i.ok):∃c l,i.k.core=c::l/\c∉[42,43,63]/\c≠94/\c≠36:=by
 obtain⟨k,mn⟩:=i;obtain⟨hk,hm⟩:=h;cases k with
 |any=>exact⟨46,[],rfl,by decide,by decide,by decide⟩
 |neg sg=>exact⟨91,_,rfl,by decide,by decide,by decide⟩
 |set sg=>exact⟨91,_,rfl,by decide,by decide,by decide⟩
 |pl c=>
  have:=(lR hk).2
  refine⟨c,[],rfl,λz=>this ?_,λz=>this ?_,λz=>this ?_⟩
  ·unfold VP;simp at z ⊢;omega
  ·rw[z];decide
  ·rw[z];decide
theorem rn{its:List Itm}(h:∀i∈its,i.ok):∀c,(bz its).head?=some c->c∉[42,43,63]/\c≠94:=by
 cases its with
 |nil=>intro c z;cases z
 |cons i r=>
  obtain⟨d,l,e,h1,h2,_⟩:=rm (h i (er ..));intro c z;rw[bz,e]at z;cases z;exact⟨h1,h2⟩
theorem Ji{i:Itm}{r:List Itm}{P:B1}(h:i.ok)(hr:∀j∈r,j.ok):cN (n+1) 8 [.str (P++(i.k.core++(j0 i.mn++bz r))),.int ((P.length+i.k.core.length:Nat):Int)] m=.ok (.str [i.mn],m):=by
 rw[<- dN,<- cC];unfold j0;rcases h.m with e|e|e|e<;>rw[e]
 ·exact Jh n λc z=>(rn hr c z).1
 ·exact pF n (by decide)
 ·exact pF n (by decide)
 ·exact pF n (by decide)
theorem vU(n:Nat){b:B1}:∀(its:List Itm)(P:B1)(c8:FK)(f:Nat)(u v:Option C),b=P++bz its->(∀i∈its,i.ok)->its.length<f->c8.length+its.length<=1000 ->
  W (bF (_root_.D.bw (bB (aH .Lt) (vF 2) (aR bJ (k1 (vF 0))))) (af (aG 3 (ao (cN (n+4) 7) [] (k2 (vF 0) (vF 2)))) (af (aG 4 (ao (cN (n+4) 8) [] (k2 (vF 0) (vF 3)))) (af (dU 1 (ao (cN (n+4) 9) [] (k2 (mZ (vF 0) (jY (vF 2)) (jY (vF 3))) (vF 4)))) (aG 2 (uK (_root_.D.bw (oE (vF 4) (cS [49]))) (vF 3) (oA (vF 3) (cI 1))))))) f ⟨[sv (.str b),some (.ol c8),sv (.int (P.length:Nat)),u,v],[]⟩) λq=>q.1=.nx/\∃p u' v',q.2=⟨[sv (.str b),some (.ol (c8++its.map Itm.val)),p,u',v'],[]⟩
 |its,P,c8,0,u,v,_,_,hf,_=>absurd hf (Kr _)
 |[],P,c8,f+1,u,v,e,_,_,_=>by
  subst e;exact⟨_,UG (tu (P:=P) (R:=[]) (s:=⟨[sv (.str (P++bz [])),some (.ol c8),sv (.int (P.length:Nat)),u,v],[]⟩) rfl rfl),rfl,_,u,v,by rw[BZ,cY c8]⟩
 |i::r,P,c8,f+1,u,v,e,h,hf,hl=>by
  have hi:=h i (er ..);have hr:∀j∈r,j.ok:=λj hj=>h j (eF _ hj);rw[dP]at hf hl;obtain⟨c,l,ec,_⟩:=rm hi;have eP:b=P++(i.k.core++(j0 i.mn++bz r)):=e;have eQ:b=(P++i.k.core++j0 i.mn)++bz r:=by rw[eP];simp
  obtain⟨q,eq,h1,p,u',v',h2⟩:=vU n r (P++i.k.core++j0 i.mn) (c8++[i.val]) f (sv (.int ((P.length+i.k.core.length:Nat):Int))) (sv (.str [i.mn])) eQ hr (by omega) (by rw[cC,BY];omega)
  have ck:(P++i.k.core++j0 i.mn).length=if i.mn=49 then P.length+i.k.core.length else P.length+i.k.core.length+1:=by
   unfold j0;split
   ·simp
   ·rw[cC,cC];rfl
  have ek:bg b (some ((P.length:Nat):Int)) (some ((P.length+i.k.core.length:Nat):Int))=i.k.core:=by rw[eP];exact I_ P i.k.core _
  refine⟨q,O3 (s1:=⟨[sv (.str b),some (.ol c8),sv (.int (P.length:Nat)),u,v],[]⟩) (s2:=⟨[sv (.str b),some (.ol (c8++[i.val])),sv (.int ((P++i.k.core++j0 i.mn).length:Nat)),sv (.int ((P.length+i.k.core.length:Nat):Int)),sv (.str [i.mn])],[]⟩) ?_ (seq1 (iS (cE (ts:=[.str b,.int (P.length:Nat)]) rfl (by rw[eP];exact Bu (n+3) hi))) (seq1 (iS (cE (ts:=[.str b,.int ((P.length+i.k.core.length:Nat):Int)]) rfl (by rw[eP];exact Ji (n+3) hi hr))) (seq1 (vH (GR:=c8) (ts:=c8) rfl (cE (ts:=[.str i.k.core,.str [i.mn]]) (av (by show Res.ok (T.str (bg b (some ((P.length:Nat):Int)) (some ((P.length+i.k.core.length:Nat):Int))),_)=_;rw[ek]) rfl) (yc n hi)) rfl (by omega)) ?_))) eq,h1,p,u',v',by rw[h2];simp⟩
  ·subst e
   have:=tu (P:=P) (R:=bz (i::r)) (s:=⟨[sv (.str (P++bz (i::r))),some (.ol c8),sv (.int (P.length:Nat)),u,v],[]⟩) (j:=2) (b:=aR bJ (k1 (vF 0))) rfl rfl
   rw[decide_eq_true (by rw[bz,ec];simp)]at this
   exact this
  ·have YK:decide ([i.mn]=[49])=decide (i.mn=49):=by apply decide_eq_decide.mpr;simp
   refine Eq.trans (iS (t:=.int ((P++i.k.core++j0 i.mn).length:Nat)) (s':=⟨[sv (.str b),some (.ol (c8++[i.val])),sv (.int (P.length:Nat)),sv (.int ((P.length+i.k.core.length:Nat):Int)),sv (.str [i.mn])],[]⟩) ?_) rfl;unfold uK;rw[show _root_.D.bw (oE (vF 4) (cS [49])) _=Res.ok (decide (i.mn=49),_)from nq (aI (t:=.str [i.mn]) (u:=.str [49]) rfl rfl (by rw[mU,YK])),ck]
   refine Eq.trans (bC _ _) ?_;by_cases z:i.mn=49
   ·rw[if_pos z,decide_eq_true z];rfl
   ·rw[if_neg z,decide_eq_false z];rfl
theorem vV{its:List Itm}(h:∀i∈its,i.ok)(hl:its.length<=8):cN (n+5) 6 [.str (bz its)] m=.ok (.lst (its.map Itm.val),m):=by
 rw[w6]
 have:∀l:List Itm,az (l.map Itm.val)=true:=λl=>by
  induction l with
  |nil=>rfl
  |cons a l ih=>show((true&&(true&&(true&&true)))&&az (l.map Itm.val))=true;rw[ih];rfl
 refine sEq rfl rfl (this its) (dI (W.of rfl ⟨rfl,bS rfl (dI ((vU n its [] [] many none none rfl h (by show its.length<1000000;omega) (by show 0+_<=_;omega)).mono λq hq=>⟨hq.1,?_⟩))⟩))
 obtain⟨_,p,u,v,e⟩:=hq;rw[e];exact Bp rfl rfl
def fT(b:Bool):B1:=if b then[94]else[]
def bT(b:Bool):B1:=if b then[36]else[]
def cA(f:Bool)(its:List Itm)(b:Bool):B1:=fT f++(bz its++bT b)
def bL(f:Bool)(its:List Itm)(b:Bool):T:=.tup [.bl f,.lst (its.map Itm.val),.bl b]
theorem vW(a:B1)(c:Nat):M1 [36] (a++[c])=decide (c=36):=by
 unfold M1;have h1:decide ([36].length<=(a++[c]).length)=true:=decide_eq_true (by simp)
 have h2:(a++[c]).drop ((a++[c]).length - [36].length)=[c]:=by
  rw[show(a++[c]).length - [36].length=a.length by simp,Cg]
 rw[h1,h2,Cm,yE];simp
theorem Fp{i:Itm}(h:i.ok):∃a c,i.k.core++j0 i.mn=a++[c]/\c≠36:=by
 have hc:∃a c,i.k.core=a++[c]/\c≠36:=by
  obtain⟨k,mn⟩:=i;obtain⟨hk,hm⟩:=h;cases k with
  |any=>exact⟨[],46,rfl,by decide⟩
  |neg sg=>exact⟨91::94::sg,93,rfl,by decide⟩
  |set sg=>exact⟨91::sg,93,rfl,by decide⟩
  |pl c=>exact⟨[],c,rfl,λz=>(lR hk).2 (by rw[z];decide)⟩
 obtain⟨a,c,e,iQ⟩:=hc;unfold j0;split
 ·exact⟨a,c,by rw[cY,e],iQ⟩
 ·rename_i z
  refine⟨i.k.core,i.mn,rfl,?_⟩;rcases h.m with q|q|q|q<;>rw[q]<;>decide
theorem rq:∀{its:List Itm},(∀i∈its,i.ok)->bz its=[]\/∃a c,bz its=a++[c]/\c≠36
 |[],_=>.inl rfl
 |i::r,h=>by
  right;rcases rq (its:=r) λj hj=>h j (eF _ hj)with e|⟨a,c,e,hc⟩
  ·obtain⟨a,c,e1,hc⟩:=Fp (h i (er ..))
   exact⟨a,c,by rw[bz,e,cY,e1],hc⟩
  ·exact⟨i.k.core++(j0 i.mn++a),c,by rw[bz,e];simp,hc⟩
theorem Fq{its:List Itm}(h:∀i∈its,i.ok):M1 [36] (bz its)=false:=by
 rcases rq h with e|⟨a,c,e,hc⟩
 ·rw[e];rfl
 ·rw[e,vW,decide_eq_false hc]
theorem Fv{its:List Itm}(h:∀i∈its,i.ok)(b:Bool):pre [94] (bz its++bT b)=false:=by
 cases e:bz its with
 |nil=>cases b<;>rfl
 |cons c l=>exact cy (Ne.symm (rn h c (by rw[e];rfl)).2)
theorem Jj{i:Itm}(h:i.ok):∀c∈i.k.core++j0 i.mn,c∈jc/\c≠47:=by
 intro c hc;rcases fk.mp hc with z|z
 ·obtain⟨k,mn⟩:=i
  obtain⟨hk,hm⟩:=h;have set:∀sg,Sg sg->c∈sg->c∈jc/\c≠47:=λsg g q=>⟨(g.mem c q).1,(g.mem c q).2.2.2.1⟩;cases k with
  |any=>cases dB.mp z;decide
  |neg sg=>
   rcases bA.mp z with z|z
   ·rw[z];decide
   ·rcases fk.mp z with z|z
    ·rcases bA.mp z with z|z
     ·rw[z];decide
     ·exact set sg hk z
    ·rw[dB.mp z];decide
  |set sg=>
   rcases bA.mp z with z|z
   ·rw[z];decide
   ·rcases fk.mp z with z|z
    ·exact set sg hk.1 z
    ·rw[dB.mp z];decide
  |pl d=>
   rw[dB.mp z];exact⟨(lR hk).1,λq=>(lR hk).2 (by rw[q];decide)⟩
 ·unfold j0 at z
  split at z
  ·cases z
  ·rw[dB.mp z]
   rcases h.m with q|q|q|q<;>rw[q]<;>decide
theorem vX:∀{its:List Itm},(∀i∈its,i.ok)->∀c∈bz its,c∈jc/\c≠47
 |[],_,c,h=>by cases h
 |i::r,h,c,hc=>by
  rw[bz,<- dN]at hc;rcases fk.mp hc with z|z
  ·exact Jj (h i (er ..)) c z
  ·exact vX (λj hj=>h j (eF _ hj)) c z
theorem pG{f b:Bool}{its:List Itm}(h:∀i∈its,i.ok):∀c∈cA f its b,c∈jc/\c≠47:=by
 intro c hc;unfold cA at hc;rcases fk.mp hc with z|z
 ·cases f with
  |true=>rw[dB.mp z];decide
  |false=>cases z
 ·rcases fk.mp z with z|z
  ·exact vX h c z
  ·cases b with
   |true=>rw[dB.mp z];decide
   |false=>cases z
theorem vY{i:Itm}(h:i.ok):i.k.core.length<=15:=by
 obtain⟨k,mn⟩:=i;obtain⟨hk,hm⟩:=h;cases k with
 |any=>show 1<=15;decide
 |neg sg=>have:=(show Sg sg from hk).jX;simp[IT.core];omega
 |set sg=>have:=hk.1.jX;simp[IT.core];omega
 |pl c=>show 1<=15;decide
theorem kX:∀{its:List Itm},(∀i∈its,i.ok)->(bz its).length<=16*its.length
 |[],_=>dj _
 |i::r,h=>by
  have h1:=vY (h i (er ..));have h2:=kX (its:=r) λj hj=>h j (eF _ hj);have h3:(j0 i.mn).length<=1:=by unfold j0;split<;>simp
  rw[bz,cC,cC,dP];omega
theorem jd{f b:Bool}{its:List Itm}(h:∀i∈its,i.ok)(hl:its.length<=8):(cA f its b).length<=130:=by
 have h1:=kX h;have h2:(fT f).length<=1:=by cases f<;>decide
 have h3:(bT b).length<=1:=by cases b<;>decide
 unfold cA;rw[cC,cC];omega
theorem dJ{f b:Bool}{its:List Itm}(h:∀i∈its,i.ok)(hl:its.length<=8):cN (n+7) 5 [.str (cA f its b)] m=.ok (bL f its b,m):=by
 rw[w5];have hpl:=jd (f:=f) (b:=b) h hl;have vB:∀l:List Itm,az (l.map Itm.val)=true:=λl=>by
  induction l with
  |nil=>rfl
  |cons a l ih=>show((true&&(true&&(true&&true)))&&az (l.map Itm.val))=true;rw[ih];rfl
 have e1:pre [94] (cA f its b)=f:=by
  cases f with
  |true=>exact pre_app [94] (bz its++bT b)
  |false=>exact Fv h b
 have e2:M1 [36] (bz its++bT b)=b:=by
  cases b with
  |true=>rw[show bz its++bT true=bz its++[36]from rfl,vW];rfl
  |false=>rw[show bz its++bT false=bz its from cY _];exact Fq h
 refine sEq rfl rfl (by show(true&&(az (its.map Itm.val)&&(true&&true)))=true;rw[vB];rfl) (bN rfl (bN (vI (GS (cE (ts:=[.str (cA f its b),.str jc]) rfl (o9 (n+5) (λc hc=>(pG h c hc).1) (by omega))))) (bS (t:=.bl f) (LC (l:=cA f its b) rfl rfl (congrArg (λz=>some (T.bl z)) e1)) (bS (t:=.str (bz its++bT b)) ?_ (bS (t:=.bl b) (LC (l:=bz its++bT b) rfl rfl (congrArg (λz=>some (T.bl z)) e2)) (bS (cE (ts:=[.str (bz its)]) (av ?_ rfl) (vV (n+1) h hl)) (bN (nq (aI (t:=.int ((its.map Itm.val).length:Nat)) (u:=.int 8) rfl rfl (by rw[Br,decide_eq_false (by rw[cD];omega)]))) (bR rfl rfl))))))))
 ·cases f with
  |true=>
   show Res.ok (T.str (bg (cA true its b) (some 1) none),_)=_;rw[show bg (cA true its b) (some 1) none=bz its++bT b from jb [94] (bz its++bT b)]
  |false=>rfl
 ·cases b with
  |true=>
   show Res.ok (T.str (bg (bz its++[36]) none (some (-1))),_)=_;rw[vN]
  |false=>
   show Res.ok (T.str (bz its++[]),_)=_;rw[cY]
theorem LG{f b:Bool}{its:List Itm}(h:∀i∈its,i.ok)(hl:its.length<=8):Pt (cA f its b) (bL f its b):=⟨λz=>(pG h 47 z).2 rfl,λn m=>dJ n h hl⟩
def P5(i:Itm):Bool:=eqT (.str [42]) (.str [i.mn]) ||(eqT (.str [63]) (.str [i.mn]) ||false)
theorem Jk{i:Itm}:cN (n+1) 16 [i.val] m=.ok (.bl (P5 i),m):=by
 rw[w16];exact kT (m':=[]) rfl (dH (s':=⟨[sv i.val],[]⟩) rfl (gu (aI (t:=.str [i.mn]) (u:=.tup [.str [42],.str [63]]) rfl rfl rfl)) rfl) rfl
theorem yd(l:List Itm):az (l.map Itm.val)=true:=by
 induction l with
 |nil=>rfl
 |cons a l ih=>show((true&&(true&&(true&&true)))&&az (l.map Itm.val))=true;rw[ih];rfl
theorem fP(f b:Bool)(its:List Itm):noOwn (bL f its b)=true:=by
 show(true&&(az (its.map Itm.val)&&(true&&true)))=true;rw[yd];rfl
abbrev s2(a b:T):S:=⟨[sv a,sv b],[]⟩
theorem ye{cv dv:T}(h1:gH M.P.sub [10] cv=some (.bl false))(h2:gH M.P.sub [17] dv=some (.bl false))(h3:gH M.P.sub [23] dv=some (.bl false))(hc:noOwn cv=true)(hd:noOwn dv=true):cN (n+7) 47 [cv,dv] m=.ok (.bl true,m):=by
 rw[w47];refine kT (m':=[]) ?_ (dH (s':=s2 cv dv) rfl (seq1 (s':=s2 cv dv) (zV (s':=s2 cv dv) (iw (t:=cv) rfl h1) rfl) (seq1 (s':=s2 cv dv) (zV (s':=s2 cv dv) (iw (t:=dv) rfl h2) rfl) (gu ?_))) rfl) rfl
 ·show(noOwn cv&&(noOwn dv&&true))=true
  rw[hc,hd];rfl
 ·have e:cu (gH M.P.sub [23]) (vF 1) (s2 cv dv)=.ok (.bl false,s2 cv dv):=by
   simp only[ev,pW,bC,nk,h3]
  unfold uJ;exact Eq.trans (congrArg (λz=>Res.bind z _) e) rfl
theorem Fw(x:RP):gH M.P.sub [10] x.val=some (.bl false):=by cases x<;>rfl
theorem Fx(x:PC):gH M.P.sub [10] x.val=some (.bl false):=by
 cases x with
 |rp x=>exact Fw x
 |_=>rfl
theorem tD{x:LN}(hc:noOwn x.cond=true)(hd:noOwn x.mV=true):pe x:=λn m=>by
 cases x with
 |bare x=>cases x;exact ye n rfl rfl rfl hc hd
 |full c x=>
  cases x;cases c with
  |no y=>exact ye n rfl rfl rfl hc hd
  |pc y=>exact ye n (Fx y) rfl rfl hc hd
theorem UH{x:LN}(h:x.ok)(hc:noOwn x.cond=true)(hd:noOwn x.mV=true):Lk x:=⟨h,tD hc hd,by
 show(noOwn x.cond&&(noOwn x.mV&&true))=true;rw[hc,hd];rfl⟩
theorem Fy{c:Nat}(h:Jg c=true):cN (n+2) 11 [.str [c],.bl false] m=.ok (.bl true,m):=by
 rw[w11];have e:=yb n (c:=c) (m:=[]);rw[h]at e;exact sEq rfl rfl rfl (bR (pA (x:=true) (y:=true) rfl λ_=>pA (x:=true) (y:=true) rfl λ_=>cE (ts:=[.str [c]]) rfl e) rfl)
theorem Fz{i:Itm}(h:i.ok):cN (n+3) 13 [.str i.k.sg,.bl i.k.ot] m=.ok (.str i.k.core,m):=by
 obtain⟨k,mn⟩:=i;obtain⟨hk,hm⟩:=h;rw[w13];have ne:∀{sg:B1}{s:S}{a:FE},sg≠[]->a s=.ok (.str sg,s)->_root_.D.bw (oE a (cS [])) s=.ok (false,s):=λiQ e=>nq (aI e rfl (by rw[mU,decide_eq_false iQ]))
 have wr:∀{u v sg:B1}{s:S}{a:FE},sg.length<=12->a s=.ok (.str sg,s)->cu (u2 u v) a s=.ok (.str (u++sg++v),s):=λhl e=>o1E e (jT (by omega))
 cases k with
 |any=>exact sEq rfl rfl rfl (bY rfl (bR rfl rfl))
 |neg sg=>
  have g:Sg sg:=hk;exact sEq rfl rfl rfl (bN (ne g.ne rfl) (bY rfl (bR (wr g.jX rfl) rfl)))
 |set sg=>
  obtain⟨g,hs⟩:=hk;exact sEq rfl rfl rfl (bN (ne g.ne rfl) (bN rfl (bN (GS (cE (ts:=[.str sg,.bl false]) rfl (Fo n hs))) (bR (wr g.jX rfl) rfl))))
 |pl c=>exact sEq rfl rfl rfl (bN (ne (List.cons_ne_nil c []) rfl) (bN rfl (bY (GS (cE (ts:=[.str [c],.bl false]) rfl (Fy n hk))) (bR rfl rfl))))
def wI:List Itm->Ap
 |[]=>[]
 |i::r=>i.k.core::j0 i.mn::wI r
theorem vZ:∀its:List Itm,(wI its).flatten=bz its
 |[]=>rfl
 |i::r=>by
  show i.k.core++(j0 i.mn++(wI r).flatten)=_;rw[vZ r];rfl
theorem z7:∀its:List Itm,(wI its).length=2*its.length
 |[]=>rfl
 |i::r=>by
  show(wI r).length+1+1=2*(r.length+1);rw[z7 r];omega
theorem pH(n:Nat){o:T}:∀(its:List Itm)(c8:Ap)(u v w:Option C),(∀i∈its,i.ok)->c8.length+2*its.length<=1000->W (bP (dh [2,3,4]) (af (dU 1 (ao (cN (n+3) 13) [] (k2 (vF 2) (vF 3)))) (dU 1 (uK (_root_.D.bw (oE (vF 4) (cS [49]))) (cS []) (vF 4)))) (its.map Itm.val) ⟨[sv o,some (.ol (c8.map T.str)),u,v,w],[]⟩) λp=>p.1=.nx/\∃u v w,p.2=⟨[sv o,some (.ol ((c8++wI its).map T.str)),u,v,w],[]⟩
 |[],c8,u,v,w,_,_=>⟨_,rfl,rfl,u,v,w,by rw[show c8++wI []=c8 from cY _]⟩
 |i::r,c8,u,v,w,h,hl=>by
  rw[dP]at hl;have ih:=pH n (o:=o) r (c8++[i.k.core,j0 i.mn]) (sv (.str i.k.sg)) (sv (.bl i.k.ot)) (sv (.str [i.mn])) (λj hj=>h j (eF _ hj)) (by rw[cC];show c8.length+2+_<=_;omega)
  rw[show c8++wI (i::r)=c8++[i.k.core,j0 i.mn]++wI r by simp[wI]]
  rw[lj]at ih;refine o_ rfl (wA (ts:=c8.map T.str) rfl (cE (ts:=[.str i.k.sg,.bl i.k.ot]) rfl (Fz n (h i (er ..)))) (by rw[cD];omega) (W.of (vH (GR:=c8.map T.str++[.str i.k.core]) (ts:=c8.map T.str++[.str i.k.core]) (t:=.str (j0 i.mn)) (s1:=⟨[sv o,some (.ol (c8.map T.str++[.str i.k.core])),sv (.str i.k.sg),sv (.bl i.k.ot),sv (.str [i.mn])],[]⟩) rfl ?_ rfl (by rw[cC,cD];show _+1<_;omega)) ⟨rfl,?_⟩))
  ·have YK:decide ([i.mn]=[49])=decide (i.mn=49):=by apply decide_eq_decide.mpr;simp
   show uK _ _ _ ⟨[sv o,some (.ol (c8.map T.str++[.str i.k.core])),sv (.str i.k.sg),sv (.bl i.k.ot),sv (.str [i.mn])],[]⟩=_;unfold uK j0;simp only[ev,pW,bC,nk,mU,YK];by_cases z:i.mn=49
   ·rw[decide_eq_true z,if_pos rfl,if_pos z]
   ·rw[decide_eq_false z,if_neg dC,if_neg z]
  ·show W (bP _ _ _ ⟨[sv o,some (.ol (c8.map T.str++[.str i.k.core]++[.str (j0 i.mn)])),_,_,_],[]⟩) _
   rw[dN];exact ih
theorem strs_map:∀l:Ap,strsOf (l.map T.str)=some l
 |[]=>rfl
 |a::l=>by
  show(strsOf (l.map T.str)).map (a::·)=_
  rw[strs_map l];rfl
theorem join_nil:∀l:Ap,bq [] l=l.flatten
 |[]=>rfl
 |[a]=>by simp[bq]
 |a::b::r=>by
  show a++[]++bq [] (b::r)=_;rw[join_nil (b::r)];simp
theorem join_eq{l:Ap}(h:l.flatten.length<=100000):joinM [] [.lst (l.map T.str)]=some (.str l.flatten):=by
 show qN (.str []) (.lst (l.map T.str))=_;unfold qN;dsimp only;rw[strs_map];show gd _ _=_;rw[List.length_flatten]at h;have h:(l.map (·.length)).sum<=100000:=h
 rw[jT (by rw[qa,Nat.mul_zero];omega),join_nil]
theorem yf{f b:Bool}{its:List Itm}(h:∀i∈its,i.ok)(hl:its.length<=8):cN (n+4) 12 [bL f its b] m=.ok (.str (cA f its b),m):=by
 rw[w12];have ef:([fT f]++wI its++[bT b]).flatten=cA f its b:=by
  rw[J8,J8,vZ];simp[cA]
 have ej:=join_eq (l:=[fT f]++wI its++[bT b]) (by rw[ef];have:=jd (f:=f) (b:=b) h hl;omega)
 rw[ef]at ej;refine sEq (by show(noOwn (bL f its b)&&true)=true;rw[fP];rfl) rfl rfl (dI (W.of (a:=(.nx,⟨[sv (bL f its b),some (.ol ([fT f].map T.str)),none,none,none],[]⟩)) (by cases f<;>rfl) ⟨rfl,dI (fB (W.of (a:=(its.map Itm.val,⟨[sv (bL f its b),some (.ol ([fT f].map T.str)),none,none,none],[]⟩)) rfl ((pH n (o:=bL f its b) its [fT f] none none none h (by show 1+_<=_;omega)).mono λp hp=>⟨hp.1,?_⟩)))⟩))
 obtain⟨_,u,v,w,e⟩:=hp;rw[e];refine dI (W.of (vH (GR:=([fT f]++wI its).map T.str) (ts:=([fT f]++wI its).map T.str) (t:=.str (bT b)) (s1:=⟨[sv (bL f its b),some (.ol (([fT f]++wI its).map T.str)),u,v,w],[]⟩) rfl (by cases b<;>rfl) rfl (by rw[cD,cC,z7];show 1+_<_;omega)) ⟨rfl,?_⟩)
 show WB _ ⟨[sv (bL f its b),some (.ol (([fT f]++wI its).map T.str++[bT b].map T.str)),u,v,w],[]⟩ _;rw[<- lj];exact Bp (LC (l:=[]) rfl (av rfl rfl) ej) rfl
theorem LH{gg:FG}{B:FS}{α:Type}{J:α->S->Prop}{f:α->T->α}:∀{ts:FK}{a:α}{s:S},(∀t∈ts,∀a s,J a s->∃r,gg t s.r=some r/\W (B ⟨r,s.m⟩) λp=>p.1=.nx/\J (f a t) p.2)->J a s->W (bP gg B ts s) λp=>p.1=.nx/\J (ts.foldl f a) p.2
 |[],a,s,_,h=>⟨_,rfl,rfl,h⟩
 |t::ts,a,s,k,h=>by
  obtain⟨r,e1,⟨o,s1⟩,e2,e3,h1⟩:=k t (er ..) a s h;cases e3;obtain⟨p,e4,h2⟩:=LH (ts:=ts) (λt ht=>k t (eF _ ht)) h1;refine⟨p,?_,h2⟩;rw[bP,e1];refine Eq.trans (bC _ _) ?_;show Res.bind (B ⟨r,s.m⟩) _=_;rw[e2];exact e4
def Bv(i:Itm):Bool:=eqT (.str [42]) (.str [i.mn]) ||(eqT (.str [43]) (.str [i.mn]) ||false)
theorem FA{i:Itm}:cN (n+1) 17 [i.val] m=.ok (.bl (Bv i),m):=by
 rw[w17];exact sEq rfl rfl rfl (bR rfl rfl)
def UI(ag:Bool)(bh es:Dx)(p:Nat):Int:=if(ag&&decide (bh.getD (p+1) 0<es.getD (p+1) 0))=true then es.getD (p+1) 0 else bh.getD (p+1) 0
def iE(ag:Bool)(sg:B1)(ot:Bool)(row:B1)(bh es:Dx)(p:Nat):Dx:=
 if(decide (row.getD p 0∈sg) != ot)=true then(if es.getD p 0<UI ag bh es p then es.set p (UI ag bh es p)else es)else es
theorem z8{ag:Bool}{sg:B1}{ot:Bool}{row:B1}{bh es:Dx}{p:Nat}:(iE ag sg ot row bh es p).length=es.length:=by
 unfold iE;split
 ·split
  ·exact eW
  ·rfl
 ·rfl
def YL:T->Nat
 |.int i=>i.toNat
 |_=>0
def P6(i:Itm)(row:B1)(bh:Dx):Dx:=((b9 row.length).map λk=>T.int (((row.length:Int)-1)-(k:Nat))).foldl (λes t=>iE (Bv i) i.k.sg i.k.ot row bh es (YL t)) (if P5 i then bh else bX bh.length (-1))
theorem z9{i:Itm}{row:B1}{bh:Dx}:(P6 i row bh).length=bh.length:=by
 unfold P6
 have:∀(l:FK)(es:Dx),(l.foldl (λes t=>iE (Bv i) i.k.sg i.k.ot row bh es (YL t)) es).length=es.length:=λl=>by
  induction l with
  |nil=>intro es;rfl
  |cons t l ih=>intro es;rw[B7,ih,z8]
 rw[this];split
 ·rfl
 ·exact rC
theorem YM{l:Dx}{p:Nat}(h:p<l.length):xC (.lst (l.map T.int)) (.int (p:Nat))=some (.int (l.getD p 0)):=by
 show atT (l.map T.int) (p:Int)=_;rw[ee (by rw[cD];exact h),eG,cj h,j6,cj h];rfl
theorem YN{l:Dx}{p:Nat}(h:p+1<l.length):xC (.lst (l.map T.int)) (.int ((p:Nat)+1))=some (.int (l.getD (p+1) 0)):=YM (p:=p+1) h
theorem ixC{l:B1}{p:Nat}(h:p<l.length):gq (.str l) (.int (p:Nat))=some (.str [l.getD p 0]):=by
 show(atT l (p:Int)).map _=_;rw[ee h,cj h,j6,cj h];rfl
def EW(i:Itm)(row:B1)(bh es:Dx)(v7 v8:Option C):S:=⟨[sv i.val,sv (.str row),sv (.lst (bh.map T.int)),sv (.str i.k.sg),sv (.bl i.k.ot),sv (.bl (Bv i)),some (.ol (es.map T.int)),v7,v8],[]⟩
section
variable{i:Itm}{row:B1}{bh es:Dx}{v7 v8:Option C}{p:Nat}{x:Int}
theorem YO{b:FE}{q:Nat}(hq:q<es.length)(h:b (EW i row bh es v7 v8)=.ok (.int (q:Nat),EW i row bh es v7 v8)):lF 6 b (EW i row bh es v7 v8)=.ok (.int (es.getD q 0),EW i row bh es v7 v8):=by
 unfold lF;show Res.bind (b (EW i row bh es v7 v8)) _=_;rw[h];show Res.bind (aY (xC (.lst (es.map T.int)) (.int (q:Nat)))) _=_;rw[YM hq];rfl
theorem gtI(a b:Int):aH .Gt (.int a) (.int b)=some (.bl (decide (b<a))):=rfl
theorem YQ{e:Int}(hp:p<es.length):Lo 6 (vF 7) (vF 8) (EW i row bh es (sv (.int (p:Nat))) (sv (.int e)))=.ok (.nx,EW i row bh (es.set p e) (sv (.int (p:Nat))) (sv (.int e))):=by
 show dF 6 (vF 7) (vF 8) _=_;unfold dF;show Res.bind (aY (gd (0<=((p:Nat):Int)/\((p:Nat):Int)<((es.map T.int).length:Nat)) ((es.map T.int).set ((p:Nat):Int).toNat (.int e)))) _=_;rw[jT ⟨by omega,by rw[cD];omega⟩]
 show Res.ok (Out.nx,jr _ 6 (.ol ((es.map T.int).set ((p:Nat):Int).toNat (.int e))))=_;rw[wU,<- List.map_set];rfl
theorem z_(hp:p<es.length)(hx:x=UI (Bv i) bh es p):W (aU (bw (bB (aH .Gt) (vF 8) (lF 6 (vF 7)))) (Lo 6 (vF 7) (vF 8)) aC (EW i row bh es (sv (.int (p:Nat))) (sv (.int x)))) λq=>q.1=.nx/\∃v8,q.2=EW i row bh (if es.getD p 0<UI (Bv i) bh es p then es.set p (UI (Bv i) bh es p)else es) (sv (.int (p:Nat))) v8:=by
 subst hx;refine Up (W.of (nq (aI rfl (YO (q:=p) hp rfl) (gtI _ _))) ⟨λh=>?_,λh=>?_⟩)
 ·rw[if_pos (of_decide_eq_true h)]
  exact W.of (YQ hp) ⟨rfl,_,rfl⟩
 ·rw[if_neg (of_decide_eq_false h)]
  exact⟨_,rfl,rfl,_,rfl⟩
end
theorem gC(l:Dx):az (l.map T.int)=true:=by
 induction l with
 |nil=>rfl
 |cons a l ih=>exact ih
theorem rep1(t:T):∀n:Nat,(bX n [t]).flatten=bX n t
 |0=>rfl
 |n+1=>by rw[rD,rD,wM,rep1 t n];rfl
section
variable{i:Itm}{row:B1}{bh es:Dx}{p:Nat}
theorem Jl(hr:row.length<=1000):Bk [.int ((row.length:Int)-1),.int (-1),.int (-1)]=some ((b9 row.length).map λk=>T.int (((row.length:Int)-1)-(k:Nat))):=by
 have e:((row.length:Int)-1+1).toNat=row.length:=by omega
 show gd _ _=_;rw[jT ⟨rfl,rfl,by omega,by omega⟩,e]
theorem YR{g:T->T->FC}{a b:FE}{s s1 s2:S}{t u:T}{v:FK}(h:a s=.ok (t,s1))(h2:b s1=.ok (u,s2))(k:g t u=some v):o2 g a b s=.ok (v,s2):=by
 unfold o2;rw[h];refine Eq.trans (bC _ _) ?_;show Res.bind (b s1) _=_;rw[h2];refine Eq.trans (bC _ _) ?_;show Res.bind (aY (g t u)) _=_;rw[k];rfl
theorem Jm{k:Nat}(h:k<=1001):Et (.lst [.int (-1)]) (.int (k:Nat))=some (bX k (T.int (-1))):=by
 have e:Et (.lst [.int (-1)]) (.int (k:Nat))=some (bX ((k:Nat):Int).toNat [T.int (-1)]).flatten:=jT ⟨by omega,by omega,by show 1*_<=_;omega⟩
 rw[e,wU,rep1]
theorem tF(hb:bh.length=row.length+1)(hr:row.length<=1000):cN (n+2) 22 [i.val,.str row,.lst (bh.map T.int)] m=.ok (.lst ((P6 i row bh).map T.int),m):=by
 rw[w22];refine sEq ?_ rfl (gC _) (bS rfl (bS rfl (bS (cE rfl (FA n)) (dI (W.of (a:=(Out.nx,EW i row bh (if P5 i then bh else bX bh.length (-1)) none none)) ?_ ⟨rfl,dI (fB (W.of (a:=((b9 row.length).map λk=>T.int (((row.length:Int)-1)-(k:Nat)),EW i row bh (if P5 i then bh else bX bh.length (-1)) none none)) ?_ ?_))⟩)))))
 ·show(true&&(true&&(az (bh.map T.int)&&true)))=true
  rw[gC];rfl
 ·unfold gj VF
  rw[GS (cE (ts:=[i.val]) rfl (Jk n))];show Res.bind (if P5 i then _ else _) _=_
  cases P5 i with
  |true=>rfl
  |false=>
   rw[if_neg dC,if_neg dC,YR (t:=.lst [.int (-1)]) (u:=.int (((bh.map T.int).length:Nat):Int)) (v:=(bX bh.length (-1)).map T.int) rfl rfl (by rw[cD,Jm (by omega),J9])]
   rfl
 ·unfold tR
  show Res.bind (aY (Bk [.int ((row.length:Int)-1),.int (-1),.int (-1)])) _=_;rw[Jl hr];rfl
 refine(LH (J:=λes s=>es.length=row.length+1/\∃v7 v8,s=EW i row bh es v7 v8) (f:=λes t=>iE (Bv i) i.k.sg i.k.ot row bh es (YL t)) (λt ht es s hJ=>?_) ⟨?_,_,_,rfl⟩).mono λq hq=>⟨hq.1,?_⟩
 ·obtain⟨he,v7,v8,rfl⟩:=hJ
  obtain⟨k,hk,rfl⟩:=fG.mp ht;have hk:=pZ.mp hk;obtain⟨p,hp⟩:∃p,p=row.length-1-k:=⟨_,rfl⟩;rw[show((row.length:Int)-1)-(k:Nat)=((p:Nat):Int) by omega]
  refine⟨_,rfl,?_⟩;show W (aU _ _ _ (EW i row bh es (sv (.int (p:Nat))) v8)) λq=>q.1=.nx/\(iE (Bv i) i.k.sg i.k.ot row bh es p).length=row.length+1/\∃v7 v8,q.2=EW i row bh (iE (Bv i) i.k.sg i.k.ot row bh es p) v7 v8;rw[z8];unfold iE;refine Up (W.of (nq (b:=decide (row.getD p 0∈i.k.sg) != i.k.ot) (aI (t:=.bl (decide (row.getD p 0∈i.k.sg))) (aI (t:=.str [row.getD p 0]) (aI rfl rfl (ixC (by omega))) rfl rfl) rfl rfl)) ⟨λ(hc:(decide (row.getD p 0∈i.k.sg) != i.k.ot)=true)=>?_,λ(hc:(decide (row.getD p 0∈i.k.sg) != i.k.ot)=false)=>?_⟩)
  ·rw[if_pos hc]
   refine wS (aI (t:=.lst (bh.map T.int)) (u:=.int ((p:Nat)+1)) rfl rfl (YN (by omega))) (gY (Up (W.of (Ux (GS (b:=Bv i) rfl) (nq (aI (YO (q:=p+1) (v8:=sv (.int (bh.getD (p+1) 0))) (by omega) rfl) rfl (gtI _ _)))) ⟨λ(ha:(Bv i&&decide (bh.getD (p+1) 0<es.getD (p+1) 0))=true)=>W.of (iS (YO (q:=p+1) (by omega) rfl)) ⟨rfl,(z_ (by omega) (if_pos ha).symm).mono λq hq=>⟨hq.1,he,_,hq.2⟩⟩,λ(ha:(Bv i&&decide (bh.getD (p+1) 0<es.getD (p+1) 0))=false)=>⟨_,rfl,rfl,(z_ (by omega) (if_neg (by rw[ha];exact dC)).symm).mono λq hq=>⟨hq.1,he,_,hq.2⟩⟩⟩)))
  ·rw[if_neg (by rw[hc];exact dC)]
   exact⟨_,rfl,rfl,he,_,_,rfl⟩
 ·split
  ·exact hb
  ·rw[rC];exact hb
 ·obtain⟨_,v7,v8,e⟩:=hq.2
  rw[e];exact Bp rfl rfl
end
def UJ(row:B1)(b:Bool):Dx:=if b then bX row.length (-1)++[(row.length:Int)]else(b9 (row.length+1)).map λk=>(0+((k:Nat):Int))
theorem Aa{row:B1}{b:Bool}:(UJ row b).length=row.length+1:=by
 unfold UJ;split
 ·simp
 ·simp
def VQ(row:B1)(its:List Itm)(b:Bool):Dx:=its.reverse.foldl (λes i=>P6 i row es) (UJ row b)
theorem Ab{row:B1}{its:List Itm}{b:Bool}:(VQ row its b).length=row.length+1:=by
 unfold VQ
 have:∀(l:List Itm)(es:Dx),(l.foldl (λes i=>P6 i row es) es).length=es.length:=λl=>by
  induction l with
  |nil=>intro es;rfl
  |cons t l ih=>intro es;rw[B7,ih,z9]
 rw[this,Aa]
def GU(row:B1)(f:Bool)(its:List Itm)(b:Bool):Dx:=if f then bg (VQ row its b) none (some 1)else VQ row its b
theorem sG{α β:Type}(f:α->β)(l:List α)(lo hi:D2):bg (l.map f) lo hi=(bg l lo hi).map f:=by
 unfold bg;rw[cD,B3,tZ]
theorem o1r{g:T->FC}{a:FE}{s s1:S}{t:T}{v:FK}(h:a s=.ok (t,s1))(k:g t=some v):o1 g a s=.ok (v,s1):=by
 unfold o1;rw[h];refine Eq.trans (bC _ _) ?_;show Res.bind (aY (g t)) _=_;rw[k];rfl
theorem UK(a:FK)(k:Int):fY .Mult (.lst a) (.int k)=gd (k<1000000/\-1000000<k/\a.length*k.toNat<=1000000) (.lst (bX k.toNat a).flatten):=rfl
theorem add_l(a b:FK):fY .Add (.lst a) (.lst b)=gd (a.length+b.length<=1000000) (.lst (a++b)):=rfl
theorem UL(j:Int):Bj (.int j)=gd (0<=j/\j<1000000) (jv 0 j.toNat):=rfl
section
variable{row:B1}{m:FV}{f b:Bool}{its:List Itm}
theorem FF{gg:FG}{B:FS}{α:Type}{I:α->S->Prop}{f:α->Itm->α}:∀{l:List Itm}{a:α}{s:S},(∀i∈l,∀a s,I a s->∃r,gg i.val s.r=some r/\W (B ⟨r,s.m⟩) λp=>p.1=.nx/\I (f a i) p.2)->I a s->W (bP gg B (l.map Itm.val) s) λp=>p.1=.nx/\I (l.foldl f a) p.2
 |[],_,_,_,h=>⟨_,rfl,rfl,h⟩
 |i::l,a,s,k,h=>by
  obtain⟨r,e,k1⟩:=k i (er ..) a s h;exact o_ e (k1.mono λp hp=>⟨hp.1,FF (λi hi=>k i (eF _ hi)) hp.2⟩)
theorem FH(hr:row.length<=1000):cN (n+1) 21 [.str row,.bl b] m=.ok (.lst ((UJ row b).map T.int),m):=by
 rw[w21];refine sEq rfl rfl (gC _) ?_;unfold UJ;cases b with
 |true=>
  refine bY rfl (bR (aI (t:=.lst ((bX row.length (-1:Int)).map T.int)) (u:=.lst [.int row.length]) (aI (t:=.lst [.int (-1)]) (u:=.int row.length) rfl rfl ?_) rfl ?_) rfl)
  ·rw[UK,jT ⟨by omega,by omega,by show 1*_<=_;omega⟩,wU,rep1,J9]
  ·rw[add_l,jT (by rw[cD,rC];show _+1<=_;omega),if_pos rfl,lj];rfl
 |false=>
  refine bN rfl (bR (mj (o1r (t:=.int ((row.length:Int)+1)) rfl ?_)) rfl);rw[UL,jT ⟨by omega,by omega⟩,show((row.length:Int)+1).toNat=row.length+1 by omega,if_neg dC]
  unfold jv;rw[iL];rfl
theorem v_(hr:row.length<=1000)(hl:its.length<=8):cN (n+3) 20 [bL f its b,.str row] m=.ok (.lst ((GU row f its b).map T.int),m):=by
 rw[w20];refine sEq (by show(noOwn (bL f its b)&&true)=true;rw[fP];rfl) rfl (gC _) (bS (cE (ts:=[.str row,.bl b]) rfl (FH (n+1) hr)) (dI (fB (W.of (o1r (v:=its.reverse.map Itm.val) (t:=.lst (its.map Itm.val)) rfl (by rw[List.map_reverse];rfl)) ((FF (I:=λes s=>es.length=row.length+1/\∃v,s=⟨[sv (bL f its b),sv (.str row),sv (.lst (es.map T.int)),v],[]⟩) (f:=λes i=>P6 i row es) (λi _ es s hI=>?_) ⟨Aa,none,rfl⟩).mono λq hq=>⟨hq.1,?_⟩)))))
 ·obtain⟨he,v,rfl⟩:=hI
  exact⟨_,rfl,W.of (iS (cE (ts:=[i.val,.str row,.lst (es.map T.int)]) rfl (tF n he hr))) ⟨rfl,by rw[z9];exact he,_,rfl⟩⟩
 obtain⟨_,_,v,e⟩:=hq;rw[e];unfold GU;cases f with
 |false=>exact bR rfl rfl
 |true=>
  refine bR rfl ?_;rw[if_pos rfl,<- sG];rfl
end
theorem YS{A B:FS}{s:S}{G:T×FV->Prop}(h:W (A s) λp=>(∃t,p.1=.rt t/\G (t,p.2.m))\/(p.1=.nx/\WB B p.2 G)):WB (af A B) s G:=by
 obtain⟨⟨o,s'⟩,e,h⟩:=h;rcases h with⟨t,h1,h2⟩|⟨h1,h2⟩
 ·cases h1;exact Ly ⟨_,e,t,rfl,h2⟩
 ·cases h1;exact dI ⟨_,e,rfl,h2⟩
def qt(l:Dx):B1->T
 |[]=>.non
 |q::qs=>if l.getD q 0≠-1 then .tup [.int (q:Nat),.int (l.getD q 0)]else qt l qs
def UM(l:Dx):T:=qt l (b9 l.length)
def isN:T->Bool
 |.non=>true
 |_=>false
theorem wa(l:Dx):∀qs,noOwn (qt l qs)=true
 |[]=>rfl
 |q::qs=>by
  unfold qt;split
  ·rfl
  ·exact wa l qs
theorem Ac(l:Dx):∀qs,aH .IsNot (qt l qs) .non=some (.bl (!isN (qt l qs)))
 |[]=>rfl
 |q::qs=>by
  unfold qt;split
  ·rfl
  ·exact Ac l qs
theorem Jo(k:Nat)(h:k<=1001):jt [.int 0,.int (k:Nat)]=some ((b9 k).map λq=>T.int ((q:Nat):Int)):=by
 have e2:(((k:Nat):Int)-0).toNat=k:=by omega
 show gd _ _=_;rw[jT ⟨by omega,by omega,by omega,by omega⟩,e2]
 unfold jv;exact congrArg some (AA λq _=>by rw[Cw])
section
variable{row:B1}{m:FV}{f b:Bool}{its:List Itm}{t u:T}
theorem neI(a c:Int):aH .NotEq (.int a) (.int c)=some (.bl (!decide (a=c))):=rfl
theorem FI{l:Dx}:∀(qs:B1)(v:Option C),(∀q∈qs,q<l.length)->W (bP (setG 4) (aU (bw (bB (aH .NotEq) (oI (vF 3) (vF 4)) (cI (-1)))) (aB (aR bQ (k2 (vF 4) (oI (vF 3) (vF 4))))) aC) (qs.map λq=>T.int ((q:Nat):Int)) ⟨[sv t,sv u,sv (.int 0),sv (.lst (l.map T.int)),v],m⟩) λp=>p.2.m=m/\((p.1=.rt (qt l qs))\/(p.1=.nx/\qt l qs=.non))
 |[],v,_=>⟨_,rfl,rfl,.inr ⟨rfl,rfl⟩⟩
 |q::qs,v,h=>by
  have e0:gq (.lst (l.map T.int)) (.int (q:Nat))=some (.int (l.getD q 0)):=YM (h q (er ..));unfold qt;by_cases hd:l.getD q 0=-1
  ·rw[if_neg (λz=>z hd)]
   exact o_ rfl (fL (nq (aI (aI (t:=.lst (l.map T.int)) (u:=.int (q:Nat)) rfl rfl e0) rfl (by rw[neI,decide_eq_true hd];rfl))) ⟨_,rfl,rfl,FI qs _ λq hq=>h q (eF _ hq)⟩)
  ·rw[if_pos hd,dz,bP]
   refine⟨_,Eq.trans (bC _ _) (Eq.trans (congrArg (λx=>Res.bind x _) (OS (nq (aI (aI (t:=.lst (l.map T.int)) (u:=.int (q:Nat)) rfl rfl e0) rfl (by rw[neI,decide_eq_false hd];rfl))) (gu (cP (ts:=[.int (q:Nat),.int (l.getD q 0)]) (av rfl (av (aI (t:=.lst (l.map T.int)) (u:=.int (q:Nat)) rfl rfl e0) rfl)) rfl)))) rfl),rfl,.inl rfl⟩
theorem Jp:(GU row f its b).length<=row.length+1:=by
 unfold GU;split
 ·unfold bg
  rw[p_,mC,Ab];omega
 ·rw[Ab];exact dj _
theorem yh(hr:row.length<=1000)(hl:its.length<=8):cN (n+4) 18 [bL f its b,.str row,.int 0] m=.ok (UM (GU row f its b),m):=by
 rw[w18];have hg:=Jp (row:=row) (f:=f) (its:=its) (b:=b);refine sEq (by show(noOwn (bL f its b)&&(true&&(true&&true)))=true;rw[fP];rfl) rfl (wa _ _) (bS (cE (ts:=[bL f its b,.str row]) rfl (v_ n hr hl)) (YS (fB (W.of (x8 (ts:=[.int 0,.int ((GU row f its b).length:Nat)]) (av rfl (av (cP (ts:=[.lst ((GU row f its b).map T.int)]) rfl (by show some (T.int (((GU row f its b).map T.int).length:Nat))=_;rw[cD])) rfl)) (Jo _ (by omega))) ((FI (b9 (GU row f its b).length) none λq hq=>pZ.mp hq).mono λp hp=>?_)))))
 obtain⟨hm,h|⟨h1,h2⟩⟩:=hp
 ·exact .inl ⟨_,h,rfl⟩
 ·exact .inr ⟨h1,bR (t:=.non) rfl h2.symm⟩
def pI(row:B1)(f:Bool)(its:List Itm)(b:Bool):Bool:=!isN (UM (GU row f its b))
theorem je(hr:row.length<=1000)(hl:its.length<=8):cN (n+5) 19 [bL f its b,.str row] m=.ok (.bl (pI row f its b),m):=by
 rw[w19];exact sEq (by show(noOwn (bL f its b)&&(true&&true))=true;rw[fP];rfl) rfl rfl (bR (aI (gB (ts:=[bL f its b,.str row]) (s':=⟨[sv (bL f its b),sv (.str row)],[]⟩) rfl (yh n hr hl)) rfl (Ac _ _)) rfl)
end
section
variable{a:FE}{s s1:S}{k kb nb f j:Nat}{ob:Ob}{t:T}{m:FV}{ks:List Ky}{ts:FK}
theorem pJ(h:a s=.ok (.own k,s1))(hm:s1.m[k]?=some ob)(hj:ic M.P.tab ob.c f=some j)(hf:ob.fs[j]?=sv t):aE M.P.tab f a s=.ok (t,s1):=by
 unfold aE;rw[h];refine Eq.trans (bC _ _) ?_;show Res.bind (aY ((s1.m[k]?).bind _)) _=_;rw[hm];show Res.bind (aY ((ic M.P.tab ob.c f).bind _)) _=_;rw[hj];show Res.bind (aY (ob.fs[j]?)) _=_;rw[hf];rfl
theorem FJ(h:m[kb]?=some ⟨nb,[.od ks ts]⟩):oS nb m (.own kb)=some (kb,ks,ts):=by
 have e:sV nb m (.own kb)=some (kb,.od ks ts):=by
  show(m[kb]?).bind _=_;rw[h];exact if_pos rfl
 unfold oS;rw[e];rfl
theorem LI(h:m[kb]?=some ⟨nb,[.ol ts]⟩):xR nb m (.own kb)=some (kb,ts):=by
 have e:sV nb m (.own kb)=some (kb,.ol ts):=by
  show(m[kb]?).bind _=_;rw[h];exact if_pos rfl
 unfold xR;rw[e];rfl
theorem get_mem:∀{ks:List Ky}{ts:FK}{x:Ky},ks.length=ts.length->x∈ks->∃t,gW ks ts x=some t
 |[],_,_,_,h=>by cases h
 |q::ks,[],_,h,_=>by cases h
 |q::ks,t::ts,x,h,hx=>by
  rw[gW];by_cases e:q=x
  ·rw[if_pos e];exact⟨t,rfl⟩
  ·rw[if_neg e]
   rcases bA.mp hx with z|z
   ·exact absurd z.symm e
   ·exact get_mem (rG.inj h) z
theorem tG:∀{ks:List Ky}{ts:FK}{x y:Ky}{u:T},ks.length=ts.length->x∉ks->gW (ks++[x]) (ts++[u]) y=if x=y then some u else gW ks ts y
 |[],[],x,y,u,_,_=>by
  rw[rE,rE,gW]
 |[],_::_,_,_,_,h,_=>by cases h
 |q::ks,[],_,_,_,h,_=>by cases h
 |q::ks,t::ts,x,y,u,h,hx=>by
  rw[t_,t_,gW,gW];by_cases e:q=y
  ·rw[if_pos e,if_pos e,if_neg λz=>hx (by rw[z,e];exact er ..)]
  ·rw[if_neg e,if_neg e,tG (rG.inj h) λz=>hx (eF _ z)]
end
section
variable{a o b:FE}{t u:T}{s:S}{nb kb:Nat}{ks:List Ky}{ts:FK}{ky:Ky}
theorem UN(hv:a s=.ok (u,s))(ho:o s=.ok (.own kb,s))(hb:b s=.ok (t,s))(hk:jI t=some ky)(hm:s.m[kb]?=some ⟨nb,[.od ks ts]⟩)(hn:ky∉ks)(hs:ks.length<1000000):Bf nb o b a s=.ok (.nx,⟨s.r,s.m.set kb ⟨nb,[.od (ks++[ky]) (ts++[u])]⟩⟩):=by
 unfold Bf;rw[hv];refine Eq.trans (bC _ _) ?_;show Res.bind (o s) _=_;rw[ho];refine Eq.trans (bC _ _) ?_;show Res.bind (b s) _=_;rw[hb];refine Eq.trans (bC _ _) ?_;show Res.bind (aY (oS nb s.m (.own kb))) _=_;rw[FJ hm];refine Eq.trans (bC _ _) ?_;show Res.bind (aY (jI t)) _=_;rw[hk];refine Eq.trans (bC _ _) ?_;show Res.bind (aY (gd (ks.length<1000000) ())) _=_;rw[jT hs];show Res.ok (Out.nx,setB nb _ kb (let y:=jx ks ts ky u;.od y.1 y.2))=_;unfold jx;rw[if_neg hn];rfl
theorem O4{neg:Bool}(hv:a s=.ok (t,s))(ho:o s=.ok (.own kb,s))(hk:jI t=some ky)(hm:s.m[kb]?=some ⟨nb,[.od ks ts]⟩):bw (sW nb neg a o) s=.ok (if neg then !decide (ky∈ks)else decide (ky∈ks),s):=by
 have e:sW nb neg a o s=.ok (.bl (if neg then !decide (ky∈ks)else decide (ky∈ks)),s):=by
  unfold sW;rw[hv];refine Eq.trans (bC _ _) ?_;show Res.bind (o s) _=_;rw[ho];refine Eq.trans (bC _ _) ?_;show Res.bind (aY (oS nb s.m (.own kb))) _=_;rw[FJ hm];refine Eq.trans (bC _ _) ?_;show Res.bind (aY (jI t)) _=_;rw[hk];rfl
 unfold bw;rw[e];rfl
theorem UO(ho:o s=.ok (.own kb,s))(hb:b s=.ok (t,s))(hk:jI t=some ky)(hm:s.m[kb]?=some ⟨nb,[.od ks ts]⟩)(hg:gW ks ts ky=some u):Er nb o b s=.ok (u,s):=by
 unfold Er;rw[ho];refine Eq.trans (bC _ _) ?_;show Res.bind (b s) _=_;rw[hb];refine Eq.trans (bC _ _) ?_;show Res.bind (aY (oS nb s.m (.own kb))) _=_;rw[FJ hm];refine Eq.trans (bC _ _) ?_;show Res.bind (aY (jI t)) _=_;rw[hk];show Res.bind (aY (gW ks ts ky)) _=_;rw[hg];rfl
end
structure P7(row:B1)(ks:List Ky)(ts:FK):Prop where
 len:ks.length=ts.length
 at_:∀f its b t,(∀i∈its,Itm.ok i)->its.length<=8->gW ks ts (.s (cA f its b))=some t->t=.bl (pI row f its b)
theorem P7.nil{row:B1}:P7 row [] []:=⟨rfl,λ_ _ _ _ _ _ h=>by cases h⟩
theorem Jq{row:B1}(hr:row.length<=1000){f f' b b':Bool}{its its':List Itm}(h:∀i∈its,Itm.ok i)(hl:its.length<=8)(h':∀i∈its',Itm.ok i)(yN:its'.length<=8)(e:cA f its b=cA f' its' b'):pI row f its b=pI row f' its' b':=by
 have p1:=dJ 0 (f:=f) (b:=b) (m:=[]) h hl;have p2:=dJ 0 (f:=f') (b:=b') (m:=[]) h' yN;rw[e,p2]at p1;have ev:bL f' its' b'=bL f its b:=by injection p1 with p1;exact(Prod.mk.inj p1).1
 have q1:=je 0 (f:=f) (b:=b) (m:=[]) hr hl;have q2:=je 0 (f:=f') (b:=b') (m:=[]) hr yN;rw[ev,q1]at q2;injection q2 with q2
 have:=(Prod.mk.inj q2).1
 injection this
theorem O5{k kb:Nat}{row:B1}{num:Int}{ks:List Ky}{ts:FK}{f b:Bool}{its:List Itm}(hm:m[k]?=some ⟨24,[.val (.str row),.val (.int num),.val (.own kb)]⟩)(hb:m[kb]?=some ⟨M.bc,[.od ks ts]⟩)(iQ:kb≠k)(K:P7 row ks ts)(hs:ks.length<1000000)
  (hr:row.length<=1000) (h:∀i∈its,i.ok) (hl:its.length<=8):∃BI A7,cN (n+6) 80 [.own k,bL f its b] m=.ok (.bl (pI row f its b),m.set kb ⟨M.bc,[.od BI A7]⟩)/\P7 row BI A7/\BI.length<=ks.length+1:=by
 rw[w80];have hkb:kb<m.length:=(eA.mp hb).1;have ew:=yf (n+1) (f:=f) (b:=b) (m:=m) h hl;have ef:=je n (f:=f) (b:=b) (m:=m) hr hl;obtain⟨X,hX⟩:∃X,X=cA f its b:=⟨_,rfl⟩;rw[<- hX]at ew;by_cases hin:Ky.s X∈ks
 ·obtain⟨t,ht⟩:=get_mem K.len hin
  have et:=K.at_ f its b t h hl (by rw[<- hX];exact ht)
  subst et;refine⟨ks,ts,?_,K,by omega⟩
  rw[show m.set kb ⟨M.bc,[.od ks ts]⟩=m from Az λj=>by
   by_cases hj:kb=j
   ·subst hj;rw[eV hkb,hb]
   ·rw[c5 hj]]
  exact dH rfl (seq1 (iS (cE (ts:=[bL f its b]) rfl ew)) (seq1 (zV ((O4 (neg:=true) (ky:=.s X) rfl (pJ (j:=2) rfl hm rfl rfl) rfl hb).trans (by rw[if_pos rfl,decide_eq_true hin];rfl)) rfl) (gu (UO (ky:=.s X) (pJ (j:=2) rfl hm rfl rfl) rfl rfl hb ht)))) rfl
 ·refine⟨ks++[.s X],ts++[.bl (pI row f its b)],?_,⟨by simp[K.len],λf' its' b' t h' yN hg=>?_⟩,by simp⟩
  ·exact dH rfl (seq1 (iS (cE (ts:=[bL f its b]) rfl ew)) (seq1 (OS ((O4 (neg:=true) (ky:=.s X) rfl (pJ (j:=2) rfl hm rfl rfl) rfl hb).trans (by rw[if_pos rfl,decide_eq_false hin];rfl)) (UN (ky:=.s X) (cE (ts:=[bL f its b,.str row]) (av rfl (av (pJ (j:=0) rfl hm rfl rfl) rfl)) ef) (pJ (j:=2) rfl hm rfl rfl) rfl rfl hb hin hs)) (gu (UO (ky:=.s X) (pJ (j:=2) rfl (ob:=⟨24,[.val (.str row),.val (.int num),.val (.own kb)]⟩) (by rw[c5 iQ];exact hm) rfl rfl) rfl rfl (eV hkb) (by rw[tG K.len hin,if_pos rfl]))))) rfl
  ·rw[tG K.len hin]at hg
   split at hg
   ·rename_i e
    cases hg;injection e with e
    rw[Jq hr h hl h' yN (hX.symm.trans e)]
   ·exact K.at_ f' its' b' t h' yN hg
structure WV where
 lines:FK
 bm:T
 tl:Nat
 tr:T
 ps:Int
 mt:Nat
 tk:Int
 hand:T
 hr:Int
 sh:Nat
 su:Nat
 no:Nat
 lg:Nat
 wt:Bool
def WV.ob(v:WV):Ob:=⟨26,[.val (.lst v.lines),.val v.bm,.val (.own v.tl),.val v.tr,.val (.int v.ps),.val (.own v.mt),.val (.int v.tk),.val v.hand,.val (.int v.hr),.val (.own v.sh),.val (.own v.su),.val (.own v.no),.val (.own v.lg),.val (.bl v.wt)]⟩
structure WS(m:FV)(w:Nat)(v:WV)(log:FK):Prop where
 o:m[w]?=some v.ob
 l:m[v.lg]?=some ⟨M.bc,[.ol log]⟩
 ne:v.lg≠w
 jX:log.length<900000
structure Fr(X:Nat->Prop)(m m':FV):Prop where
 le:m.length<=m'.length
 at_:∀k,k<m.length->¬ X k->m'[k]?=m[k]?
theorem Fr.refl{X:Nat->Prop}:Fr X m m:=⟨dj _,λ_ _ _=>rfl⟩
theorem Fr.trans{X:Nat->Prop}{m m1 m2:FV}(a:Fr X m m1)(b:Fr X m1 m2):Fr X m m2:=⟨gP a.le b.le,λk h x=>(b.at_ k (iM h a.le) x).trans (a.at_ k h x)⟩
theorem Fr.set{X:Nat->Prop}{k:Nat}{ob:Ob}(h:X k):Fr X m (m.set k ob):=⟨by rw[eW];exact dj _,λj _ x=>c5 λ(z:k=j)=>x (z▸h)⟩
def WX(w:Nat)(v:WV)(k:Nat):Prop:=k=w\/k=v.lg
section
variable{m:FV}{w f j:Nat}{v v':WV}{log:FK}{r:Fs}{a:FE}{t:T}{s:S}
theorem WS.app(S':WS m w v log)(h:(log++[t]).length<900000):WS (m.set v.lg ⟨M.bc,[.ol (log++[t])]⟩) w v (log++[t]):=
 ⟨by rw[c5 S'.ne];exact S'.o,eV (eA.mp S'.l).1,S'.ne,h⟩
theorem WS.fld(S':WS m w v log)(h:v'.lg=v.lg):WS (m.set w v'.ob) w v' log:=
 ⟨eV (eA.mp S'.o).1,by rw[h,c5 (Ne.symm S'.ne)];exact S'.l,by rw[h];exact S'.ne,S'.jX⟩
theorem w_fld(S':WS m w v log)(hj:ic M.P.tab 26 f=some j)(hf:v.ob.fs[j]?=sv t):aE M.P.tab f (vF 0) ⟨sv (.own w)::r,m⟩=.ok (t,⟨sv (.own w)::r,m⟩):=pJ (k:=w) rfl S'.o hj hf
theorem wb(S':WS m w v log)(ha:a ⟨sv (.own w)::r,m⟩=.ok (t,⟨sv (.own w)::r,m⟩)):iG M.bc (aE M.P.tab 29 (vF 0)) a ⟨sv (.own w)::r,m⟩=.ok (.nx,⟨sv (.own w)::r,m.set v.lg ⟨M.bc,[.ol (log++[t])]⟩⟩):=by
 unfold iG;rw[w_fld S' (j:=12) (t:=.own v.lg) rfl rfl];refine Eq.trans (bC _ _) ?_;show Res.bind (aY (xR M.bc m (.own v.lg))) _=_;rw[LI S'.l];refine Eq.trans (bC _ _) ?_;show Res.bind (a ⟨sv (.own w)::r,m⟩) _=_;rw[ha];refine Eq.trans (bC _ _) ?_;show Res.bind (aY (xR M.bc m (.own v.lg))) _=_;rw[LI S'.l];refine Eq.trans (bC _ _) ?_;show Res.bind (aY (gd (log.length<1000000) ())) _=_;rw[jT (by have:=S'.jX;omega)]
 rfl
theorem LJ(S':WS m w v log)(ha:a ⟨sv (.own w)::r,m⟩=.ok (t,⟨sv (.own w)::r,m⟩))(hp:dW M.P.tab f (.val t) v.ob=some v'.ob):aO M.P.tab f (vF 0) a ⟨sv (.own w)::r,m⟩=.ok (.nx,⟨sv (.own w)::r,m.set w v'.ob⟩):=by
 unfold aO;rw[ha];refine Eq.trans (bC _ _) ?_;show Res.bind (aY ((m[w]?).bind _)) _=_;rw[S'.o];show Res.bind (aY (dW M.P.tab f (.val t) v.ob)) _=_;rw[hp];rfl
theorem yi{ai:Nat->Fn}{i:Nat}{fl:FL}{ts:FK}{Q:T×FV->Prop}(S':WS m w v log)(ha:fl ⟨sv (.own w)::r,m⟩=.ok (ts,⟨sv (.own w)::r,m⟩))(hc:W (ai i (.own w::ts) m) Q):W (aN (aw (ak [(26,i)] ai) (vF 0) fl) ⟨sv (.own w)::r,m⟩) λp=>p.1=.nx/\p.2.r=sv (.own w)::r/\∃u,Q (u,p.2.m):=by
 obtain⟨⟨u,m'⟩,e,q⟩:=hc;have e1:aw (ak [(26,i)] ai) (vF 0) fl ⟨sv (.own w)::r,m⟩=.ok (u,⟨sv (.own w)::r,m'⟩):=vz (k:=w) (ob:=v.ob) (s1:=⟨sv (.own w)::r,m⟩) (s2:=⟨sv (.own w)::r,m⟩) rfl S'.o rfl ha e;refine⟨(.nx,⟨sv (.own w)::r,m'⟩),?_,rfl,rfl,u,q⟩;unfold aN;rw[e1];rfl
theorem UP(S':WS m w v log)(hj:ic M.P.tab 26 f=some j)(hf:v.ob.fs[j]?=sv (.int i))(hv:(⟨26,v.ob.fs.set j (.val (.int (i+1)))⟩:Ob)=v'.ob):ve M.P.tab f iF (vF 0) (cI 1) ⟨sv (.own w)::r,m⟩=.ok (.nx,⟨sv (.own w)::r,m.set w v'.ob⟩):=by
 have e:iH M.P.tab f m (.own w)=some (w,v.ob,j,.val (.int i)):=by
  show(m[w]?).bind _=_;rw[S'.o];show(ic M.P.tab 26 f).bind _=_;rw[hj];show(v.ob.fs[j]?).map _=_;rw[hf];rfl
 unfold ve;show Res.bind (aY (iH M.P.tab f m (.own w))) _=_;rw[e];refine Eq.trans (bC _ _) ?_;show Res.bind (aY (iH M.P.tab f m (.own w))) _=_;rw[e];refine Eq.trans (bC _ _) ?_;show Res.bind (aY (gd (v.ob.c=v.ob.c) ())) _=_;rw[jT rfl];show Res.ok (Out.nx,(⟨sv (.own w)::r,m.set w ⟨v.ob.c,v.ob.fs.set j (.val (.int (i+1)))⟩⟩:S))=_;rw[show v.ob.c=26 from rfl,hv]
theorem O6{B:FS}{Q:Out×S->Prop}(S':WS m w v log)(hl:log.length+1<900000)(ha:a ⟨sv (.own w)::r,m⟩=.ok (t,⟨sv (.own w)::r,m⟩))(k:∀m',WS m' w v (log++[t])->Fr (WX w v) m m'->W (B ⟨sv (.own w)::r,m'⟩) Q):W (af (iG M.bc (aE M.P.tab 29 (vF 0)) a) B ⟨sv (.own w)::r,m⟩) Q:=gY (W.of (wb S' ha) ⟨rfl,k _ (S'.app (by simpa using hl)) (Fr.set (.inr rfl))⟩)
theorem Bw{B:FS}{Q:Out×S->Prop}(S':WS m w v log)(v':WV)(hg:v'.lg=v.lg)(ha:a ⟨sv (.own w)::r,m⟩=.ok (t,⟨sv (.own w)::r,m⟩))(hp:dW M.P.tab f (.val t) v.ob=some v'.ob)(k:∀m',WS m' w v' log->Fr (WX w v) m m'->W (B ⟨sv (.own w)::r,m'⟩) Q):W (af (aO M.P.tab f (vF 0) a) B ⟨sv (.own w)::r,m⟩) Q:=gY (W.of (LJ S' ha hp) ⟨rfl,k _ (S'.fld hg) (Fr.set (.inl rfl))⟩)
theorem O7{i:Int}{B:FS}{Q:Out×S->Prop}(S':WS m w v log)(v':WV)(hg:v'.lg=v.lg)(hj:ic M.P.tab 26 f=some j)(hf:v.ob.fs[j]?=sv (.int i))(hv:(⟨26,v.ob.fs.set j (.val (.int (i+1)))⟩:Ob)=v'.ob)(k:∀m',WS m' w v' log->Fr (WX w v) m m'->W (B ⟨sv (.own w)::r,m'⟩) Q):W (af (ve M.P.tab f iF (vF 0) (cI 1)) B ⟨sv (.own w)::r,m⟩) Q:=gY (W.of (UP S' hj hf hv) ⟨rfl,k _ (S'.fld hg) (Fr.set (.inl rfl))⟩)
theorem qu{ai:Nat->Fn}{i:Nat}{fl:FL}{ts:FK}{R:T×FV->Prop}{Q:Out×S->Prop}(S':WS m w v log)(ha:fl ⟨sv (.own w)::r,m⟩=.ok (ts,⟨sv (.own w)::r,m⟩))(hc:W (ai i (.own w::ts) m) R)(k:∀u m',R (u,m')->Q (.nx,⟨sv (.own w)::r,m'⟩)):W (aN (aw (ak [(26,i)] ai) (vF 0) fl) ⟨sv (.own w)::r,m⟩) Q:=by
 refine(yi (r:=r) S' ha hc).mono λp hp=>?_;obtain⟨h1,h2,u,h4⟩:=hp;obtain⟨o,pr,pm⟩:=p;cases h1;cases h2;exact k u pm h4
def WR(w:Nat)(v0 v:WV)(log:FK)(m0:FV)(p:T×FV):Prop:=p.1=.non/\WS p.2 w v log/\Fr (WX w v0) m0 p.2
abbrev bG(i:Int):T:=.tup [.str [119,97,110,116],.int (i+1)]
theorem Ad(S':WS m w v log)(hl:log.length+1<900000):W (cN (n+1) 86 [.own w] m) (WR w v {v with wt:=true} (log++[bG v.tk]) m):=by
 rw[w86];have S1:=S'.app (t:=bG v.tk) (by simpa using hl)
 have S2:=S1.fld (v':={v with wt:=true}) rfl
 refine f9 rfl (gY (W.of (wb S' (t:=bG v.tk) (r:=[]) ?_) ⟨rfl,W.of (LJ S1 (t:=.bl true) (v':={v with wt:=true}) rfl rfl) ⟨rfl,rfl,S2,(Fr.set (.inr rfl)).trans (Fr.set (.inl rfl))⟩⟩))
 exact cP (av (t:=.str [119,97,110,116]) rfl (av (aI (w_fld S' (j:=6) (t:=.int v.tk) rfl rfl) rfl rfl) rfl)) rfl
theorem Ae(S':WS m w v log)(hl:log.length+1<900000):W (cN (n+1) 94 [.own w,t] m) (WR w v v (log++[.tup [.str [103,105,118,101],t]]) m):=by
 rw[w94];have S1:=S'.app (t:=.tup [.str [103,105,118,101],t]) (by simpa using hl)
 refine f9 rfl (W.of (wb S' (t:=.tup [.str [103,105,118,101],t]) (r:=[sv t]) ?_) ⟨rfl,rfl,S1,Fr.set (.inr rfl)⟩);exact cP (av (t:=.str [103,105,118,101]) rfl (av (t:=t) rfl rfl)) rfl
theorem Jr(S':WS m w v log)(hl:log.length+1<900000):W (cN (n+1) 93 [.own w] m) (WR w v v (log++[.tup [.str [110,111,110,101],.int (v.tk+1)]]) m):=by
 rw[w93];have S1:=S'.app (t:=.tup [.str [110,111,110,101],.int (v.tk+1)]) (by simpa using hl)
 refine f9 rfl (W.of (wb S' (t:=.tup [.str [110,111,110,101],.int (v.tk+1)]) (r:=[]) ?_) ⟨rfl,rfl,S1,Fr.set (.inr rfl)⟩);exact cP (av (t:=.str [110,111,110,101]) rfl (av (aI (w_fld S' (j:=6) (t:=.int v.tk) rfl rfl) rfl rfl) rfl)) rfl
end
section
variable{m:FV}{w f j:Nat}{v v':WV}{log:FK}{r:Fs}{a:FE}{t:T}{s:S}
abbrev fD:T:=.tup [.str [111,118,101,114]]
abbrev b8(t:T):T:=.tup [.str [103,105,118,101],t]
theorem Js(S':WS m w v log)(hl:log.length+2<900000):W (cN (n+2) 95 [.own w] m) (WR w v {v with hand:=.non,hr:=0,ps:=0,wt:=true} (log++[fD]++[bG v.tk]) m):=by
 rw[w95];refine f9 rfl (O6 (r:=[]) (t:=fD) S' (by omega) rfl λm1 S1 F1=>Bw S1 {v with hand:=.non} rfl rfl rfl λm2 S2 F2=>Bw S2 {v with hand:=.non,hr:=0} rfl rfl rfl λm3 S3 F3=>Bw S3 {v with hand:=.non,hr:=0,ps:=0} rfl rfl rfl λm4 S4 F4=>qu S4 rfl (Ad n S4 (by simp;omega)) λ_ m5 h=>⟨rfl,rfl,h.2.1,(((F1.trans F2).trans F3).trans F4).trans h.2.2⟩)
theorem Jt(S':WS m w v log)(hl:log.length+3<900000):W (cN (n+3) 96 [.own w] m) (WR w v {v with hand:=.non,hr:=0,ps:=0,wt:=true} (log++[b8 v.hand]++[fD]++[bG v.tk]) m):=by
 rw[w96];exact f9 rfl (gY (qu (r:=[]) (ts:=[v.hand]) S' (av (w_fld S' (j:=7) rfl rfl) rfl) (Ae (n+1) S' (by omega)) λ_ m1 h=>⟨rfl,qu h.2.1 rfl (Js n h.2.1 (by simp;omega)) λ_ m2 h2=>⟨rfl,rfl,h2.2.1,h.2.2.trans h2.2.2⟩⟩))
end
section
variable{m:FV}{w f j nb kb:Nat}{v v':WV}{log ts:FK}{r:Fs}{a o b:FE}{t u:T}{s:S}{ks:List Ky}{ky:Ky}
theorem yj(S':WS m w v log)(hl:log.length+1<900000):W (cN (n+2) 98 [.own w,.obj 16 [t]] m) (WR w v v (log++[b8 t]) m):=by
 rw[w98];exact f9 rfl (vC rfl (qu (r:=[sv (.obj 16 [t])]) (ts:=[t]) S' rfl (Ae n S' hl) λ_ m1 h=>⟨rfl,rfl,h.2⟩))
theorem O8(S':WS m w v log)(hl:log.length+1<900000):W (cN (n+3) 97 [.own w,.obj 16 [t],u] m) (WR w v v (log++[b8 t]) m):=by
 rw[w97];exact f9 rfl (fL rfl (fL rfl (fL rfl (fL rfl (fL rfl (fL rfl (fL rfl (fL rfl (vC rfl (qu (r:=[sv (.obj 16 [t]),sv u]) (ts:=[.obj 16 [t]]) S' rfl (yj n S' hl) λ_ m1 h=>⟨rfl,rfl,h.2⟩))))))))))
abbrev eg(i:Int)(b:Bool):T:=.tup [.str [109,101,101,116],.int i,.bl b]
def WY(w:Nat)(v:WV)(k:Nat):Prop:=k=w\/k=v.lg\/k=v.mt
theorem Fr.wx{m':FV}(h:Fr (WX w v) m m'):Fr (WY w v) m m':=⟨h.le,λk hk x=>h.at_ k hk λz=>x (z.elim .inl λz=>.inr (.inl z))⟩
theorem Ju{c x:T}{num:Int}{tr:FK}{b:Bool}(S':WS m w v log)(hm:m[v.mt]?=some ⟨M.bc,[.od ks ts]⟩)(n1:v.mt≠w)(n2:v.mt≠v.lg)(hc:gH M.P.sub [10] c=some (.bl false))(hk:Ky.i num∉ks)(hs:ks.length<1000000)(ht:v.tr=.lst tr)(hi:xC (.lst tr) (.int (num-1))=some (.bl b))(hl:log.length+2<900000) :
  W (cN (n+4) 90 [.own w,.obj 1 [c,.obj 16 [x]],.int num] m) λp=>p.1=.non/\WS p.2 w v (log++[eg num b]++(if b then[b8 x]else[]))/\p.2[v.mt]?=some ⟨M.bc,[.od (ks++[.i num]) (ts++[.bl true])]⟩/\Fr (WY w v) m p.2:=by
 rw[w90];have S1:WS (m.set v.mt ⟨M.bc,[.od (ks++[.i num]) (ts++[.bl true])]⟩) w v log:=⟨by rw[c5 n1];exact S'.o,by rw[c5 n2];exact S'.l,S'.ne,S'.jX⟩
 have PV:=eV (a:=(⟨M.bc,[.od (ks++[.i num]) (ts++[.bl true])]⟩:Ob)) (eA.mp hm).1;have F:Fr (WY w v) m (m.set v.mt ⟨M.bc,[.od (ks++[.i num]) (ts++[.bl true])]⟩):=Fr.set (.inr (.inr rfl));have fM:=PV;obtain⟨m0,h0⟩:∃m0,m0=m.set v.mt ⟨M.bc,[.od (ks++[.i num]) (ts++[.bl true])]⟩:=⟨_,rfl⟩;rw[<- h0]at S1 PV F;have keep:∀{m1},Fr (WX w v) m0 m1->m1[v.mt]?=some ⟨M.bc,[.od (ks++[.i num]) (ts++[.bl true])]⟩:=λG=>by
  rw[G.at_ v.mt (eA.mp PV).1 λz=>z.elim n1 n2];exact PV
 refine f9 rfl (gY (fL (iw (t:=c) rfl hc) ⟨_,rfl,rfl,gY (fL ((O4 (neg:=false) (ky:=.i num) rfl (w_fld S' (j:=5) rfl rfl) rfl hm).trans (by rw[if_neg dC,decide_eq_false hk])) ⟨_,rfl,rfl,gY (W.of (UN (ky:=.i num) rfl (w_fld S' (j:=5) rfl rfl) rfl rfl hm hk hs) ⟨rfl,?_⟩)⟩)⟩))
 show W (af _ _ ⟨sv (.own w)::[sv (.obj 1 [c,.obj 16 [x]]),sv (.int num),none],m.set v.mt ⟨M.bc,[.od (ks++[.i num]) (ts++[.bl true])]⟩⟩) _;rw[<- h0];refine wS (aI (t:=.lst tr) (u:=.int (num-1)) (by rw[<- ht];exact w_fld S1 (j:=3) rfl rfl) rfl hi) ?_
 show W (af _ _ ⟨sv (.own w)::[sv (.obj 1 [c,.obj 16 [x]]),sv (.int num),sv (.bl b)],m0⟩) _;refine O6 (t:=eg num b) S1 (by omega) rfl λm1 S2 F1=>?_
 cases b with
 |false=>exact fL rfl ⟨_,rfl,rfl,rfl,by rw[if_neg dC,cY];exact S2,keep F1,F.trans F1.wx⟩
 |true=>exact vC rfl (qu (ts:=[.obj 16 [x],.int num]) S2 rfl (O8 n S2 (by simp;omega)) λ_ m2 h=>⟨rfl,rfl,by rw[if_pos rfl];exact h.2.1,keep (F1.trans h.2.2),F.trans (F1.trans h.2.2).wx⟩)
end
section
variable{m:FV}{w f j kb:Nat}{v v':WV}{log ts:FK}{r:Fs}{a o b:FE}{t u:T}{s:S}{ks:List Ky}{ky:Ky}{i:Int}
def eB(q:T×T):T:=.obj 1 [q.1,.obj 16 [q.2]]
structure LK(l:List (T×T)):Prop where
 jX:l.length<=1000
 no:∀q∈l,gH M.P.sub [10] q.1=some (.bl false)
theorem atL{l:FK}{p:Nat}(h:p<l.length):xC (.lst l) (.int ((p:Nat):Int))=some l[p]:=by
 show atT l (p:Int)=_;rw[ee h,cj h]
theorem UQ{l:List (T×T)}{bs:Fh}{p:Nat}(S':WS m w v log)(hm:m[v.mt]?=some ⟨M.bc,[.od ks ts]⟩)(n1:v.mt≠w)(n2:v.mt≠v.lg)(L:LK l)(hv:v.lines=l.map eB)(ht:v.tr=.lst (bs.map T.bl))(hb:bs.length=l.length)(hp:p<l.length)(GV:v.ps=(p:Nat))(hk:Ky.i ((p:Nat)+1)∉ks)(hs:ks.length<1000000)(hl:log.length+2<900000) :
  W (cN (n+5) 89 [.own w] m) λq=>q.1=.non/\WS q.2 w {v with ps:=(p:Nat)+1} (log++[eg ((p:Nat)+1) (bs[p]'(by omega))]++(if bs[p]'(by omega)then[b8 l[p].2]else[]))/\q.2[v.mt]?=some ⟨M.bc,[.od (ks++[.i ((p:Nat)+1)]) (ts++[.bl true])]⟩/\Fr (WY w v) m q.2:=by
 rw[w89];have hpb:p<bs.length:=by omega
 have e0:bJ [.lst (l.map eB)]=some (.int (l.length:Nat)):=by
  show some (T.int ((l.map eB).length:Nat))=_;rw[cD]
 have hi:∀{α:Type}(g:α->T){y:List α}(h:p<y.length),xC (.lst (y.map g)) (.int (((p:Nat):Int)+1-1))=some (g y[p]):=λg y h=>by
  rw[show((p:Nat):Int)+1-1=((p:Nat):Int) by omega,atL (by rw[cD];exact h),List.getElem_map]
 refine f9 rfl (fL (nq (aI (t:=.int (p:Nat)) (by rw[<- GV];exact w_fld S' (j:=4) rfl rfl) (cP (ts:=[.lst (l.map eB)]) (av (by rw[<- hv];exact w_fld S' (j:=0) rfl rfl) rfl) e0) (by rw[Bt,decide_eq_false (by omega)]))) (O7 (r:=[]) S' {v with ps:=(p:Nat)+1} rfl (j:=4) (i:=(p:Nat)) rfl (by rw[<- GV];rfl) rfl λm1 S1 F1=>qu (ts:=[eB l[p],.int ((p:Nat)+1)]) S1 (av (aI (t:=.lst (l.map eB)) (by rw[<- hv];exact w_fld S1 (j:=0) rfl rfl) (aI (t:=.int ((p:Nat)+1)) (w_fld S1 (j:=4) rfl rfl) rfl rfl) (hi eB hp)) (av (w_fld S1 (j:=4) rfl rfl) rfl)) (Ju n (c:=l[p].1) (x:=l[p].2) (num:=(p:Nat)+1) (b:=bs[p]) S1 (by show m1[v.mt]?=_;rw[F1.at_ v.mt (eA.mp hm).1 λz=>z.elim n1 n2];exact hm) n1 n2 (L.no _ (tY hp)) hk hs ht (hi T.bl hpb) hl) λ_ m2 h=>⟨rfl,rfl,h.2.1,h.2.2.1,F1.wx.trans ⟨h.2.2.2.le,λk hk x=>h.2.2.2.at_ k hk x⟩⟩))
end
section
variable{m m1:FV}{w f j kb p:Nat}{v v':WV}{log ts:FK}{r:Fs}{a o b:FE}{t u:T}{s:S}{ks:List Ky}{ky:Ky}{i:Int}{l:List (T×T)}{bs:Fh}
abbrev WV.rest(v:WV):WV:={v with hand:=.non,hr:=0,ps:=0,wt:=true}
theorem O9(S':WS m w v log)(hv:v.lines=l.map eB)(GV:v.ps=(l.length:Nat))(hl:log.length+3<900000):W (cN (n+5) 89 [.own w] m) (WR w v v.rest (log++[b8 v.hand]++[fD]++[bG v.tk]) m):=by
 rw[w89];exact f9 rfl (vC (nq (aI (t:=.int (l.length:Nat)) (u:=.int (l.length:Nat)) (by rw[<- GV];exact w_fld S' (j:=4) rfl rfl) (cP (ts:=[.lst (l.map eB)]) (av (by rw[<- hv];exact w_fld S' (j:=0) rfl rfl) rfl) (by show some (T.int ((l.map eB).length:Nat))=_;rw[cD])) (by rw[Bt,decide_eq_true rfl]))) (qu (r:=[]) S' rfl (Jt (n+1) S' hl) λ_ m1 h=>⟨rfl,rfl,h.2⟩))
def iz:Nat->List ((T×T)×Bool)->FK
 |_,[]=>[]
 |k,(q,b)::r=>[eg ((k:Nat)+1) b]++(if b then[b8 q.2]else[])++iz (k+1) r
theorem pK:∀(k:Nat)(l:List ((T×T)×Bool)),(iz k l).length<=2*l.length
 |_,[]=>iN _
 |k,(q,b)::r=>by
  have:=pK (k+1) r
  unfold iz;rw[cC,cC,dP];cases b<;>simp<;>omega
theorem FN(S':WS m w v log):dR (D.tB (aE M.P.tab 30 (vF 0))) ⟨sv (.own w)::r,m⟩=.ok (!v.wt,⟨sv (.own w)::r,m⟩):=by
 unfold dR D.tB;rw[w_fld S' (j:=13) (t:=.bl v.wt) rfl rfl];rfl
theorem FP{c:FT}{B:FS}{k:Nat}{s s1:S}{QS:Out×S->Prop}(hc:c s=.ok (true,s1))(h:W (B s1) λq=>q.1=.nx/\W (bF c B k q.2) QS):W (bF c B (k+1) s) QS:=by
 obtain⟨⟨o,s2⟩,e,rfl,h⟩:=h;obtain⟨a,e2,h⟩:=h;refine⟨a,?_,h⟩;show Res.bind (c s) _=_;rw[hc];show Res.bind (B s1) _=_;rw[e];exact e2
theorem YT{c:FT}{B:FS}{k:Nat}{s s1:S}{QS:Out×S->Prop}(hc:c s=.ok (false,s1))(h:QS (.nx,s1)):W (bF c B (k+1) s) QS:=by
 refine⟨_,?_,h⟩;show Res.bind (c s) _=_;rw[hc];rfl
theorem Af(n:Nat)(L:LK l)(hb:bs.length=l.length):∀(d:Nat){m:FV}{v:WV}{log:FK}{ks:List Ky}{ts:FK}{p e:Nat},p+d=l.length->WS m w v log->m[v.mt]?=some ⟨M.bc,[.od ks ts]⟩->v.mt≠w->v.mt≠v.lg->v.lines=l.map eB->v.tr=.lst (bs.map T.bl)->v.wt=false->v.ps=(p:Nat)->(∀q:Nat,p<q->Ky.i (q:Nat)∉ks)->ks.length<=p->log.length+2*d+3<900000 ->
  W (bF (dR (D.tB (aE M.P.tab 30 (vF 0)))) (aN (aw (ak [(26,89)] (cN (n+5))) (vF 0) aZ)) (e+d+2) ⟨sv (.own w)::r,m⟩) λq=>q.1=.nx/\q.2.r=sv (.own w)::r/\WS q.2.m w v.rest (log++iz p ((l.zip bs).drop p)++[b8 v.hand]++[fD]++[bG v.tk])/\Fr (WY w v) m q.2.m
 |0,m,v,log,ks,ts,p,e,hd,S',hm,n1,n2,hv,ht,hw,GV,hk,qv,hl=>by
  have c:=FN (r:=r) S';rw[hw]at c;refine FP c (qu S' rfl (O9 n S' hv (by rw[GV];omega) (by omega)) λ_ m1 h=>⟨rfl,YT (FN h.2.1) ⟨rfl,rfl,?_,h.2.2.wx⟩⟩)
  rw[yC (by rw[tW];omega)]
  show WS m1 w v.rest (log++[]++_++_++_);rw[cY];exact h.2.1
 |d+1,m,v,log,ks,ts,p,e,hd,S',hm,n1,n2,hv,ht,hw,GV,hk,qv,hl=>by
  have hp:p<l.length:=by omega
  have hpb:p<bs.length:=by omega
  have c:=FN (r:=r) S';rw[hw]at c;have jX:=L.jX;refine FP (k:=e+d+2) c (qu S' rfl (UQ n S' hm n1 n2 L hv ht hb hp GV (hk (p+1) (wQ p)) (by omega) (by omega)) λ_ m1 h=>⟨rfl,(Af n L hb d (p:=p+1) (e:=e) (by omega) h.2.1 h.2.2.1 n1 n2 hv ht hw (by show((p:Nat):Int)+1=_;omega) (λq hq z=>?_) (by rw[cC];show _+1<=_;omega) ?_).mono λq hq=>?_⟩)
  ·rcases fk.mp z with z|z
   ·exact hk q (by omega) z
   ·have:=dB.mp z
    injection this with this
    omega
  ·cases bs[p]<;>simp<;>omega
  ·obtain⟨k1,k2,k3,k4⟩:=hq
   refine⟨k1,k2,?_,h.2.2.2.trans k4⟩;have ed:(l.zip bs).drop p=(l[p],bs[p])::(l.zip bs).drop (p+1):=by
    rw[nF (by rw[tW];omega),List.getElem_zip]
   rw[ed];show WS _ w v.rest (log++([eg ((p:Nat)+1) bs[p]]++(if bs[p]then[b8 l[p].2]else[])++iz (p+1) ((l.zip bs).drop (p+1)))++_++_++_)
   have k3:WS q.2.m w v.rest (log++[eg ((p:Nat)+1) bs[p]]++(if bs[p]then[b8 l[p].2]else[])++iz (p+1) ((l.zip bs).drop (p+1))++[b8 v.hand]++[fD]++[bG v.tk]):=k3
   rw[dN log,dN log]at k3;exact k3
end
section
variable{m m1:FV}{w f j kb p:Nat}{v v':WV}{log ts:FK}{r:Fs}{a o b:FE}{t u:T}{s:S}{ks:List Ky}{ky:Ky}{i:Int}{l:List (T×T)}{bs:Fh}{x:B1}
theorem O_(S':WS m1 w v log)(ha:a ⟨sv (.own w)::r,m⟩=.ok (t,⟨sv (.own w)::r,m1⟩))(hp:dW M.P.tab f (.val t) v.ob=some v'.ob):aO M.P.tab f (vF 0) a ⟨sv (.own w)::r,m⟩=.ok (.nx,⟨sv (.own w)::r,m1.set w v'.ob⟩):=by
 unfold aO;rw[ha];refine Eq.trans (bC _ _) ?_;show Res.bind (aY ((m1[w]?).bind _)) _=_;rw[S'.o];show Res.bind (aY (dW M.P.tab f (.val t) v.ob)) _=_;rw[hp];rfl
theorem kY{α:Type}{m:List α}{k:Nat}{ob x:α}(h:m[k]?=some ob):(m++[x])[k]?=some ob:=by
 rw[gO (eA.mp h).1];exact h
theorem WS.snoc{ob:Ob}(S':WS m w v log):WS (m++[ob]) w v log:=⟨kY S'.o,kY S'.l,S'.ne,S'.jX⟩
theorem YU{B:FS}{Q:Out×S->Prop}(S':WS m w v log)(v':WV)(hg:v'.lg=v.lg)(hp:dW M.P.tab f (.val (.own m.length)) v.ob=some v'.ob)(k:∀m',WS m' w v' log->Fr (WX w v) m m'->m'[m.length]?=some ⟨M.bc,[.od [] []]⟩->W (B ⟨sv (.own w)::r,m'⟩) Q):W (af (aO M.P.tab f (vF 0) (mS M.bc)) B ⟨sv (.own w)::r,m⟩) Q:=by
 have hw:w<m.length:=(eA.mp S'.o).1;have S1:WS (m++[⟨M.bc,[.od [] []]⟩]) w v log:=S'.snoc;refine gY (W.of (O_ S1 (t:=.own m.length) (v':=v') rfl hp) ⟨rfl,k _ (S1.fld hg) ⟨by simp,λj hj x=>?_⟩ ?_⟩)
 ·rw[c5 λ(z:w=j)=>x (.inl z.symm),gO hj]
 ·rw[c5 (by omega),fQ (dj _),lr];rfl
abbrev kZ(i:Int):T:=.tup [.str [116,97,107,101],.int i]
theorem Jv(S':WS m w v log)(L:LK l)(hb:bs.length=l.length)(hv:v.lines=l.map eB)(hh:v.hand=.non)(GV:v.ps=0)(hl:log.length+2*l.length+10<900000) :
  W (cN (n+6) 88 [.own w,.str x,.lst (bs.map T.bl)] m) λp=>p.1=.non/\∃mt,WS p.2 w {v.rest with tk:=v.tk+1,tr:=.lst (bs.map T.bl),mt:=mt} (log++[kZ (v.tk+1)]++iz 0 (l.zip bs)++[b8 (.str x)]++[fD]++[bG (v.tk+1)])/\Fr (WX w v) m p.2:=by
 rw[w88];have jX:=L.jX;have hlg:v.lg<m.length:=(eA.mp S'.l).1;have hw:w<m.length:=(eA.mp S'.o).1;refine f9 rfl (O7 (r:=[sv (.str x),sv (.lst (bs.map T.bl))]) S' {v with tk:=v.tk+1} rfl (j:=6) (i:=v.tk) rfl rfl rfl λm1 S1 F1=>O6 (t:=kZ (v.tk+1)) S1 (by omega) (cP (av rfl (av (w_fld S1 (j:=6) rfl rfl) rfl)) rfl) λm2 S2 F2=>Bw S2 {v with tk:=v.tk+1,hand:=.str x} rfl (t:=.str x) ?_ rfl λm3 S3 F3=>O7 S3 {v with tk:=v.tk+1,hand:=.str x,hr:=v.hr+1} rfl (j:=8) (i:=v.hr) rfl rfl rfl λm4 S4 F4=>Bw S4 {v with tk:=v.tk+1,hand:=.str x,hr:=v.hr+1,tr:=.lst (bs.map T.bl)} rfl rfl rfl λm5 S5 F5=>YU S5 {v with tk:=v.tk+1,hand:=.str x,hr:=v.hr+1,tr:=.lst (bs.map T.bl),mt:=m5.length} rfl rfl λm6 S6 F6 h6=>Bw S6 {v with tk:=v.tk+1,hand:=.str x,hr:=v.hr+1,tr:=.lst (bs.map T.bl),mt:=m5.length,wt:=false} rfl rfl rfl λm7 S7 F7=>?_)
 ·unfold uK
  rw[nq (b:=true) (aI (t:=.non) (u:=.non) (by rw[<- hh];exact w_fld S2 (j:=7) rfl rfl) rfl rfl)];rfl
 have G:Fr (WX w v) m m5:=(((F1.trans F2).trans F3).trans F4).trans F5;have le:=G.le;have F:Fr (WX w v) m m7:=(G.trans F6).trans F7;have h7:m7[m5.length]?=some ⟨M.bc,[.od [] []]⟩:=by
  rw[F7.at_ _ (eA.mp h6).1 λz=>by rcases z with z|z;(omega);(have z:m5.length=v.lg:=z;omega)];exact h6
 obtain⟨e,he⟩:∃e,many=e+l.length+2:=⟨many-(l.length+2),by unfold many;omega⟩
 unfold lG;rw[he];refine(Af n L hb l.length (p:=0) (e:=e) (by omega) S7 h7 (by show m5.length≠w;omega) (by show m5.length≠v.lg;omega) hv rfl rfl GV (λq _ z=>by cases z) (iN _) (by simp;omega)).mono λq hq=>?_
 obtain⟨k1,k2,k3,k4⟩:=hq;refine⟨k1,rfl,m5.length,k3,gP F.le k4.le,λk hk z=>(k4.at_ k (iM hk F.le) ?_).trans (F.at_ k hk z)⟩
 rintro(y|y|y)
 ·exact z (.inl y)
 ·exact z (.inr y)
 ·have y:k=m5.length:=y
  omega
end
theorem UR{gg:FG}{e:FE}{r:Fs}{I:Nat->FV->Prop}{V:T->T}{N:Nat}:∀{ts:FK}{i:Nat}{m:FV},(∀t∈ts,∀i m,i<N->I i m->∃b1,gg t r=some b1/\W (e ⟨b1,m⟩) λp=>p.1=V t/\I (i+1) p.2.m)->i+ts.length<=N->I i m->W (aW gg dG e r ts m) λp=>p.1=ts.map V/\I (i+ts.length) p.2
 |[],i,m,_,_,h=>⟨_,rfl,rfl,h⟩
 |t::ts,i,m,k,hN,h=>by
  rw[dP]at hN;obtain⟨b1,e1,p,e2,r1,h1⟩:=k t (er ..) i m (by omega) h
  obtain⟨q,e3,l,h2⟩:=UR (ts:=ts) (λt ht=>k t (eF _ ht)) (by omega) h1
  refine⟨(p.1::q.1,q.2),?_,by rw[dz,<- r1,<- l],by rw[dP,show i+(ts.length+1)=i+1+ts.length by omega];exact h2⟩
  rw[aW,e1];refine Eq.trans (bC _ _) ?_;show Res.bind (e ⟨b1,m⟩) _=_;rw[e2];show Res.bind (aW gg dG e r ts p.2.m) _=_;rw[e3];rfl
structure cX(rows:Ap)(c:Nat)(m:FV):Prop where
 at_:∀k row,rows[k]?=some row->row.length<=1000/\m[2*k]?=some ⟨24,[.val (.str row),.val (.int ((k:Nat)+1)),.val (.own (2*k+1))]⟩/\∃ks ts,m[2*k+1]?=some ⟨M.bc,[.od ks ts]⟩/\P7 row ks ts/\ks.length<=c
def RX(rows:Ap)(k:Nat):Prop:=k<2*rows.length
section
variable{rows:Ap}{c k:Nat}{m:FV}{row:B1}{f b:Bool}{its:List Itm}
theorem wc(R:cX rows c m)(hk:rows[k]?=some row)(hc:c<900000)(h:∀i∈its,Itm.ok i)(hl:its.length<=8):W (cN (n+6) 80 [.own (2*k),bL f its b] m) λp=>p.1=.bl (pI row f its b)/\cX rows (c+1) p.2/\Fr (RX rows) m p.2:=by
 obtain⟨h1,h2,ks,ts,h3,h4,h5⟩:=R.at_ k row hk;obtain⟨BI,A7,e,K,yN⟩:=O5 n (f:=f) (b:=b) h2 h3 (by omega) h4 (by omega) h1 h hl
 have hkr:k<rows.length:=(eA.mp hk).1;refine⟨_,e,rfl,⟨λk' YV Tu=>?_⟩,Fr.set (by show 2*k+1<_;omega)⟩
 obtain⟨g1,g2,ks2,ts2,g3,g4,g5⟩:=R.at_ k' YV Tu;refine⟨g1,by rw[c5 (by omega)];exact g2,?_⟩
 by_cases oN:k=k'
 ·subst oN
  rw[hk]at Tu;cases Tu;exact⟨BI,A7,eV (eA.mp h3).1,K,by omega⟩
 ·exact⟨ks2,ts2,by rw[c5 (by omega)];exact g3,g4,by omega⟩
theorem cX.mono{c':Nat}(R:cX rows c m)(h:c<=c'):cX rows c' m:=⟨λk row hk=>let⟨h1,h2,ks,ts,h3,h4,h5⟩:=R.at_ k row hk;⟨h1,h2,ks,ts,h3,h4,gP h5 h⟩⟩
end
inductive CV where
 |al|rw(i:Int)|la|li (f:Bool) (its:List Itm) (b:Bool)|so (j:Nat) (f:Bool) (its:List Itm) (b:Bool)|nt (c:CV)
noncomputable def CV.val:CV->T
 |.al=>.obj 3 []
 |.rw i=>.obj 4 [.int i]
 |.la=>.obj 5 []
 |.li f its b=>.obj 6 [bL f its b]
 |.so j f its b=>.obj 7 [.int (j:Nat),bL f its b]
 |.nt c=>.obj 9 [c.val]
def CV.jn(rows:Ap)(k:Nat):CV->Bool
 |.al=>true
 |.rw i=>decide (i=((k:Nat):Int)+1)
 |.la=>decide (rows.length=k+1)
 |.li f its b=>pI (rows.getD k []) f its b
 |.so j f its b=>((rows.drop (k+1)).take j).any λr=>pI r f its b
 |.nt c=>!c.jn rows k
def CV.ok:CV->Prop
 |.li _ its _=>(∀i∈its,Itm.ok i)/\its.length<=8
 |.so j _ its _=>(∀i∈its,Itm.ok i)/\its.length<=8/\j<=9
 |.nt c=>c.ok
 |_=>True
section
variable{rows:Ap}{c k:Nat}{m:FV}{row:B1}{f b:Bool}{its:List Itm}{i:Int}
theorem FQ(R:cX rows c m)(hk:rows[k]?=some row):cN (n+1) 24 [.obj 4 [.int i],.own (2*k)] m=.ok (.bl (decide (i=((k:Nat):Int)+1)),m):=by
 rw[Yq];obtain⟨h1,h2,_⟩:=R.at_ k row hk;refine dH (s':=⟨[sv (.obj 4 [.int i]),sv (.own (2*k))],m⟩) rfl (E7 (OS (s':=⟨[sv (.obj 4 [.int i]),sv (.own (2*k))],m⟩) rfl (gu (aI (t:=.int i) (u:=.int ((k:Nat)+1)) rfl (pJ (j:=1) (k:=2*k) rfl h2 rfl rfl) rfl)))) rfl
theorem FU{r:T}:cN (n+1) 24 [.obj 3 [],r] m=.ok (.bl true,m):=by
 rw[Yq];exact dH (s':=⟨[sv (.obj 3 []),sv r],m⟩) rfl rfl rfl
theorem FW(R:cX rows c m)(hk:rows[k]?=some row)(hc:c<900000)(h:∀i∈its,Itm.ok i)(hl:its.length<=8):W (cN (n+7) 24 [.obj 6 [bL f its b],.own (2*k)] m) λp=>p.1=.bl (pI row f its b)/\cX rows (c+1) p.2/\Fr (RX rows) m p.2:=by
 rw[Yq];obtain⟨⟨u,m'⟩,e,hu,q⟩:=wc n (f:=f) (b:=b) R hk hc h hl;have hu:u=.bl (pI row f its b):=hu;subst hu;obtain⟨h1,h2,_⟩:=R.at_ k row hk;have em:aw (ak [(24,80)] (cN (n+6))) (vF 1) (k1 (aE M.P.tab 4 (vF 0))) ⟨[sv (.obj 6 [bL f its b]),sv (.own (2*k))],m⟩=.ok (.bl (pI row f its b),⟨[sv (.obj 6 [bL f its b]),sv (.own (2*k))],m'⟩):=vz (k:=2*k) (s1:=⟨[sv (.obj 6 [bL f its b]),sv (.own (2*k))],m⟩) (s2:=⟨[sv (.obj 6 [bL f its b]),sv (.own (2*k))],m⟩) rfl h2 rfl (av (t:=bL f its b) rfl rfl) e;exact ju rfl (P1 (s':=⟨[sv (.obj 6 [bL f its b]),sv (.own (2*k))],m⟩) rfl (Yp (s':=⟨[sv (.obj 6 [bL f its b]),sv (.own (2*k))],m⟩) rfl (Bp em ⟨rfl,q⟩)))
end
theorem fK(n d j:Nat):gf n d (some ((j:Nat):Int))=min j n:=by
 unfold gf;dsimp only;rw[if_neg (by omega),wU]
theorem FY{α:Type}(l:List α)(j:Nat):bg l none (some ((j:Nat):Int))=l.take j:=by
 unfold bg;have h1:gf l.length 0 none=0:=rfl;have h2:=fK l.length l.length j;rw[h1,h2,lq,Nat.sub_zero,J_];omega
theorem FZ{α:Type}(l:List α)(j:Nat):bg l (some ((j:Nat):Int)) none=l.drop j:=by
 unfold bg;have h1:=fK l.length 0 j;have h2:gf l.length l.length none=l.length:=rfl;rw[h1,h2,B_ (by rw[mC];omega)]
 by_cases h:j<=l.length
 ·rw[AD h]
 ·rw[Cr (by omega),yx,yC (by omega)]
theorem wd:∀bs:Fh,boolsOf (bs.map T.bl)=some bs
 |[]=>rfl
 |b::bs=>by
  have:=wd bs
  show(boolsOf (bs.map T.bl)).map _=_;rw[this];rfl
def gK(L j:Nat):FK:=((b9 L).drop j).map λq=>T.own (2*q)
def US(rows:Ap)(f:Bool)(its:List Itm)(b:Bool):T->T
 |.own q=>.bl (pI (rows.getD (q/2) []) f its b)
 |_=>.non
section
variable{rows:Ap}{c k j:Nat}{m:FV}{row:B1}{f b:Bool}{its:List Itm}{i:Int}{tl pl:T}
theorem Jw(f:Bool)(its:List Itm)(b:Bool):((gK rows.length k).take j).map (US rows f its b)=(((rows.drop k).take j).map λr=>pI r f its b).map T.bl:=by
 unfold gK;rw[<- B3,iL,iL];have e:((rows.drop k).take j)=(((b9 rows.length).drop k).take j).map λq=>rows.getD q []:=by
  rw[B3,tZ]
  congr 2
  apply Az;intro q;rw[eG];by_cases hq:q<rows.length
  ·rw[yw hq,cj hq]
   show _=some (rows.getD q []);rw[j6,cj hq];rfl
  ·rw[ua (by omega),ua (by rw[j5];omega)];rfl
 rw[e,iL];apply AA;intro q _;show T.bl (pI (rows.getD (2*q/2) []) f its b)=T.bl (pI (rows.getD q []) f its b);rw[show 2*q/2=q by omega]
theorem F8(R:cX rows c m)(hc:c+10<900000)(h:∀i∈its,Itm.ok i)(hl:its.length<=8)(hj:j<=9)(hL:rows.length<=1000){rr:T}:W (cN (n+7) 83 [tl,pl,.obj 7 [.int (j:Nat),bL f its b],rr,.lst (gK rows.length (k+1))] m) λp=>p.1=.bl (((rows.drop (k+1)).take j).any λr=>pI r f its b)/\cX rows (c+10) p.2/\Fr (RX rows) m p.2:=by
 rw[P4];refine ju rfl (bN rfl (bN rfl (bN rfl (bY rfl (OU (Yn (Uk (Ur (Lz (W.of (YE (t:=.lst ((gK rows.length (k+1)).take j)) (VN (t:=.lst (gK rows.length (k+1))) (y:=some ((j:Nat):Int)) rfl rfl rfl (by show some (T.lst (bg _ none _))=_;rw[FY])) rfl) ⟨?_,?_⟩))))))))))
 ·rw[p_];omega
 ·have h9:((gK rows.length (k+1)).take j).length<=9:=by rw[p_];omega
  refine(UR (V:=US rows f its b) (N:=9) (I:=λi m'=>cX rows (c+i) m'/\Fr (RX rows) m m') (i:=0) (λt ht i' m' hi hI=>?_) (by show 0+((gK rows.length (k+1)).take j).length<=9;omega) ⟨R,Fr.refl⟩).mono λp hp=>⟨_,rfl,.bl (((rows.drop (k+1)).take j).any λr=>pI r f its b),?_,rfl,hp.2.1.mono (by show c+(0+((gK rows.length (k+1)).take j).length)<=c+10;omega),hp.2.2⟩
  ·obtain⟨q,hq,rfl⟩:=fG.mp (yD ht)
   have hq:=pZ.mp (Ka hq);have we:rows[q]?=some (rows.getD q []):=by rw[j6,cj hq];rfl
   obtain⟨⟨u,m2⟩,e,hu,r1,r2⟩:=wc n (f:=f) (b:=b) hI.1 we (by omega) h hl
   obtain⟨_,o2,_⟩:=hI.1.at_ q _ we;refine⟨_,rfl,⟨(u,⟨[none,sv (.own (2*q)),sv (.obj 7 [.int (j:Nat),bL f its b])],m2⟩),mE rfl o2 rfl rfl e,?_,r1,hI.2.trans r2⟩⟩;show u=T.bl (pI (rows.getD (2*q/2) []) f its b);rw[show 2*q/2=q by omega]
   exact hu
  ·show A6 (.lst p.1)=_
   rw[hp.1,Jw];show(boolsOf _).map _=_;rw[wd];show some (T.bl _)=_;rw[Ax];rfl
end
section
variable{rows:Ap}{c k j tk:Nat}{m:FV}{row:B1}{f b:Bool}{its:List Itm}{i:Int}{tl pl:T}{ob:Ob}
def CV.base:CV->Prop
 |.nt _=>False
 |_=>True
def TR(rows:Ap)(b:Bool)(c:Nat)(m:FV)(p:T×FV):Prop:=p.1=.bl b/\cX rows c p.2/\Fr (RX rows) m p.2
theorem Jx:(gK rows.length (k+1)).length=rows.length-(k+1):=by
 unfold gK;rw[cD,mC,j5]
theorem eT(cv:CV)(hb:cv.base)(ok:cv.ok)(R:cX rows c m)(hk:rows[k]?=some row)(hc:c+10<900000)(hL:rows.length<=1000):W (cN (n+8) 83 [tl,pl,cv.val,.own (2*k),.lst (gK rows.length (k+1))] m) (TR rows (cv.jn rows k) (c+10) m):=by
 have hkr:k<rows.length:=(eA.mp hk).1;cases cv with
 |nt _=>exact hb.elim
 |so j f its b=>exact F8 (n+1) R hc ok.1 ok.2.1 ok.2.2 hL
 |al=>
  rw[P4];exact ju rfl (bN rfl (bN rfl (bN rfl (bN rfl (bR (cE (ts:=[CV.val .al,.own (2*k)]) rfl (FU (n+6))) ⟨rfl,R.mono (by omega),Fr.refl⟩)))))
 |rw i=>
  rw[P4];exact ju rfl (bN rfl (bN rfl (bN rfl (bN rfl (bR (cE (ts:=[CV.val (.rw i),.own (2*k)]) rfl (FQ (n+6) R hk)) ⟨rfl,R.mono (by omega),Fr.refl⟩)))))
 |la=>
  rw[P4];refine ju rfl (bN rfl (bN rfl (bY rfl (bR (t:=.bl (decide (((gK rows.length (k+1)).length:Int)=0))) rfl ⟨congrArg T.bl ?_,R.mono (by omega),Fr.refl⟩))))
  rw[Jx];exact decide_eq_decide.mpr (by omega)
 |li f its b=>
  rw[P4];have we:rows.getD k []=row:=by rw[j6,hk];rfl
  refine ju rfl (bN rfl (bN rfl (bN rfl (bN rfl (OU (Ul (W.of rfl ((FW n R hk (by omega) ok.1 ok.2).mono λp hp=>?_))))))))
  refine⟨?_,hp.2.1.mono (by omega),hp.2.2⟩
  show p.1=T.bl (pI (rows.getD k []) f its b);rw[we];exact hp.1
theorem F9(cv:CV)(hb:cv.base)(ok:cv.ok)(R:cX rows c m)(hk:rows[k]?=some row)(hc:c+10<900000)(hL:rows.length<=1000)(ho:m[tk]?=some ob)(r_:ob.c=25):W (cN (n+9) 83 [.own tk,pl,.obj 9 [cv.val],.own (2*k),.lst (gK rows.length (k+1))] m) (TR rows (!cv.jn rows k) (c+10) m):=by
 rw[P4];obtain⟨⟨u,m'⟩,e,hu,q⟩:=eT n cv hb ok (tl:=.own tk) (pl:=pl) R hk hc hL;have hu:u=.bl (cv.jn rows k):=hu;subst hu;exact ju rfl (bY rfl (Bp (YD (mE rfl ho (by rw[r_];rfl) rfl e)) ⟨rfl,q⟩))
def CV.one:CV->Prop
 |.nt c=>c.base/\c.ok
 |c=>c.ok
theorem F_(cv:CV)(ok:cv.one)(R:cX rows c m)(hk:rows[k]?=some row)(hc:c+10<900000)(hL:rows.length<=1000)(ho:m[tk]?=some ob)(r_:ob.c=25):W (cN (n+9) 83 [.own tk,pl,cv.val,.own (2*k),.lst (gK rows.length (k+1))] m) (TR rows (cv.jn rows k) (c+10) m):=by
 cases cv with
 |nt cv=>exact F9 n cv ok.1 ok.2 R hk hc hL ho r_
 |al=>exact eT (n+1) .al trivial ok R hk hc hL
 |rw i=>exact eT (n+1) (.rw i) trivial ok R hk hc hL
 |la=>exact eT (n+1) .la trivial ok R hk hc hL
 |li f its b=>exact eT (n+1) (.li f its b) trivial ok R hk hc hL
 |so j f its b=>exact eT (n+1) (.so j f its b) trivial ok R hk hc hL
end
section
variable{rows:Ap}{c k tk ub:Nat}{m:FV}{row:B1}{bj:List CV}
def UT(bj:List CV)(ub:Nat):Ob:=⟨25,[.val (.lst (bj.map CV.val)),.val (.own ub)]⟩
theorem Ag(n:Nat)(hk:rows[k]?=some row)(hL:rows.length<=1000)(KN:2*rows.length<=tk){all:List CV}:∀(bj:List CV)(i:Int)(bs:Fh)(c:Nat)(m:FV)(u v:Option C),(∀x∈bj,CV.one x)->cX rows c m->c+10*bj.length<900000->bs.length+bj.length<1000->m[tk]?=some (UT all ub) ->
  W (bP (dh [4,5]) (dU 3 (aw (ak [(25,83)] (cN (n+9))) (vF 0) (bK (vF 4) (k3 (vF 5) (vF 1) (vF 2))))) (dg i (bj.map CV.val)) ⟨[sv (.own tk),sv (.own (2*k)),sv (.lst (gK rows.length (k+1))),some (.ol (bs.map T.bl)),u,v],m⟩) λp=>p.1=.nx/\∃u v m',p.2=⟨[sv (.own tk),sv (.own (2*k)),sv (.lst (gK rows.length (k+1))),some (.ol ((bs++bj.map λx=>x.jn rows k).map T.bl)),u,v],m'⟩/\cX rows (c+10*bj.length) m'/\Fr (RX rows) m m'
 |[],i,bs,c,m,u,v,_,R,_,_,_=>⟨_,rfl,rfl,u,v,m,by rw[BZ,cY],R,Fr.refl⟩
 |x::bj,i,bs,c,m,u,v,ho,R,hc,hb,ht=>by
  rw[dP]at hc hb;obtain⟨⟨t,m1⟩,e,h1,h2,h3⟩:=F_ n x (ho x (er ..)) (pl:=.int i) R hk (by omega) hL ht rfl
  have h1:t=.bl (x.jn rows k):=h1;subst h1;have UU:m1[tk]?=some (UT all ub):=by
   rw[h3.at_ tk (eA.mp ht).1 (by show ¬ tk<_;omega)];exact ht
  have g:=Ag n hk hL KN bj (i+1) (bs++[x.jn rows k]) (c+10) m1 (sv (.int i)) (sv x.val) (λy hy=>ho y (eF _ hy)) h2 (by omega) (by simp;omega) UU
  rw[lj]at g;refine o_ rfl (W.of (vH (GR:=bs.map T.bl) (ts:=bs.map T.bl) rfl (mE rfl ht rfl rfl e) rfl (by rw[cD];omega)) ⟨rfl,g.mono λp hp=>⟨hp.1,?_⟩⟩)
  obtain⟨_,u',v',m',q2,q3,q4⟩:=hp;exact⟨u',v',m',by rw[q2,dN];rfl,by rw[dP,show c+10*(bj.length+1)=c+10+10*bj.length by omega];exact q3,h3.trans q4⟩
theorem Jy(hk:rows[k]?=some row)(hL:rows.length<=1000)(KN:2*rows.length<=tk)(ho:∀x∈bj,CV.one x)(R:cX rows c m)(hc:c+10*bj.length<900000)(hb:bj.length<1000)(ht:m[tk]?=some (UT bj ub)) :
  W (cN (n+10) 82 [.own tk,.own (2*k),.lst (gK rows.length (k+1))] m) λp=>p.1=.lst ((bj.map λx=>x.jn rows k).map T.bl)/\cX rows (c+10*bj.length) p.2/\Fr (RX rows) m p.2:=by
 rw[w82];refine ju rfl (dI (W.of rfl ⟨rfl,dI (fB (W.of (a:=(dg 0 (bj.map CV.val),(⟨[sv (.own tk),sv (.own (2*k)),sv (.lst (gK rows.length (k+1))),some (.ol []),none,none],m⟩:S))) ?_ ((Ag n hk hL KN (all:=bj) (ub:=ub) bj 0 [] c m none none ho R hc (by simpa using hb) ht).mono λp hp=>⟨hp.1,?_⟩)))⟩))
 ·unfold iD
  rw[pJ (k:=tk) (s1:=⟨[sv (.own tk),sv (.own (2*k)),sv (.lst (gK rows.length (k+1))),some (.ol []),none,none],m⟩) (j:=0) rfl ht rfl rfl];rfl
 ·obtain⟨_,u,v,m',e,h1,h2⟩:=hp
  rw[e];exact Bp rfl ⟨rfl,h1,h2⟩
end
section
variable{rows:Ap}{c k w tk ub:Nat}{m m':FV}{row:B1}{bj:List CV}{v:WV}{log:FK}{l:List (T×T)}
theorem cX.fr{X:Nat->Prop}(R:cX rows c m)(F:Fr X m m')(h:∀q,q<2*rows.length->¬ X q):cX rows c m':=⟨λk row hk=>by
 obtain⟨h1,h2,ks,ts,h3,h4,h5⟩:=R.at_ k row hk;have hkr:k<rows.length:=(eA.mp hk).1;refine⟨h1,?_,ks,ts,?_,h4,h5⟩
 ·rw[F.at_ _ (eA.mp h2).1 (h _ (by omega))];exact h2
 ·rw[F.at_ _ (eA.mp h3).1 (h _ (by omega))];exact h3⟩
structure WI(rows:Ap)(l:List (T×T))(bj:List CV)(w tk ub:Nat)(c:Nat)(v:WV)(log:FK)(m:FV):Prop where
 S:WS m w v log
 R:cX rows c m
 t:m[tk]?=some (UT bj ub)
 w2:2*rows.length<=w
 l2:2*rows.length<=v.lg
 t2:2*rows.length<=tk
 tl:v.tl=tk
 n1:tk≠w
 n2:tk≠v.lg
 ln:v.lines=l.map eB
 hd:v.hand=.non
 ps:v.ps=0
def gI(rows:Ap)(l:List (T×T))(bj:List CV)(k:Nat)(i:Int)(row:B1):FK:=[kZ (i+1)]++iz 0 (l.zip (bj.map λx=>x.jn rows k))++[b8 (.str row)]++[fD]++[bG (i+1)]
def WZ(rows:Ap)(w:Nat)(v:WV)(q:Nat):Prop:=q<2*rows.length\/q=w\/q=v.lg
theorem Ga(I:WI rows l bj w tk ub c v log m)(L:LK l)(hb:bj.length=l.length)(ho:∀x∈bj,CV.one x)(hk:rows[k]?=some row)(hL:rows.length<=1000)(hc:c+10*bj.length<900000)(r_:bj.length<1000)(hl:log.length+2*l.length+10<900000) :
  W (cN (n+11) 87 [.own w,.own (2*k),.lst (gK rows.length (k+1))] m) λp=>p.1=.non/\Fr (WZ rows w v) m p.2/\∃tr mt,WI rows l bj w tk ub (c+10*bj.length) {v.rest with tk:=v.tk+1,tr:=tr,mt:=mt} (log++gI rows l bj k v.tk row) p.2:=by
 rw[w87];obtain⟨⟨t1,m1⟩,e1,UU,R1,F1⟩:=Jy n (ub:=ub) hk hL I.t2 ho I.R hc r_ I.t;have UU:t1=.lst ((bj.map λx=>x.jn rows k).map T.bl):=UU;subst UU;have keep:∀q ob,2*rows.length<=q->m[q]?=some ob->m1[q]?=some ob:=λq ob hq h=>by rw[F1.at_ q (eA.mp h).1 (by show ¬ q<_;omega)];exact h
 have S1:WS m1 w v log:=⟨keep _ _ I.w2 I.S.o,keep _ _ I.l2 I.S.l,I.S.ne,I.S.jX⟩;obtain⟨⟨t2,m2⟩,e2,YW,mt,S2,F2⟩:=Jv (n+4) (x:=row) (bs:=bj.map λx=>x.jn rows k) S1 L (by rw[cD];exact hb) I.ln I.hd I.ps hl
 have YW:t2=.non:=YW;subst YW;obtain⟨_,o2,_⟩:=I.R.at_ k row hk;refine f9 rfl (dE (vz (k:=w) (s1:=⟨[sv (.own w),sv (.own (2*k)),sv (.lst (gK rows.length (k+1)))],m⟩) (s2:=⟨[sv (.own w),sv (.own (2*k)),sv (.lst (gK rows.length (k+1)))],m1⟩) rfl I.S.o rfl (av (pJ (k:=2*k) (j:=0) rfl o2 rfl rfl) (av (mE (by rw[<- I.tl];exact w_fld I.S (j:=2) rfl rfl) I.t rfl rfl e1) rfl)) e2) ⟨rfl,rfl,⟨gP F1.le F2.le,λq hq z=>(F2.at_ q (iM hq F1.le) λy=>z (.inr y)).trans (F1.at_ q hq λy=>z (.inl y))⟩,.lst ((bj.map λx=>x.jn rows k).map T.bl),mt,?_⟩)
 have w2:=I.w2;have l2:=I.l2;refine⟨?_,R1.fr F2 λq hq z=>?_,?_,I.w2,I.l2,I.t2,I.tl,I.n1,I.n2,I.ln,rfl,rfl⟩
 ·unfold gI
  rw[<- dN,<- dN,<- dN,<- dN];exact S2
 ·rcases z with z|z<;>omega
 ·have:=keep _ _ I.t2 I.t
  rw[F2.at_ tk (eA.mp this).1 λz=>z.elim I.n1 I.n2];exact this
end
section
variable{m:FV}{ob oK:Ob}{x:B1}{i:Int}{f:Nat}{t:T}{r:Fs}{a:FE}{rows:Ap}
theorem pL{α:Type}{m:List α}{x:α}:(m++[x])[m.length]?=some x:=by
 rw[fQ (dj _),lr];rfl
theorem pM{α:Type}{m:List α}{x y:α}:(m++[x]).set m.length y=m++[y]:=by
 rw[Kc _ _ (dj _),lr];rfl
theorem Gb(ha:a ⟨sv (.own m.length)::r,m++[ob]⟩=.ok (t,⟨sv (.own m.length)::r,m++[ob]⟩))(hp:dW M.P.tab f (.val t) ob=some oK):aO M.P.tab f (vF 0) a ⟨sv (.own m.length)::r,m++[ob]⟩=.ok (.nx,⟨sv (.own m.length)::r,m++[oK]⟩):=by
 unfold aO;rw[ha];refine Eq.trans (bC _ _) ?_;show Res.bind (aY (((m++[ob])[m.length]?).bind _)) _=_;rw[pL];show Res.bind (aY (dW M.P.tab f (.val t) ob)) _=_;rw[hp];show Res.ok (Out.nx,(⟨_,(m++[ob]).set m.length oK⟩:S))=_;rw[pM]
def k6(x:B1)(i:Int)(b:Nat):Ob:=⟨24,[.val (.str x),.val (.int i),.val (.own b)]⟩
def cZ:Ob:=⟨M.bc,[.od [] []]⟩
theorem Gd:cN (n+1) 79 [.own m.length,.str x,.int i] (m++[⟨24,[]⟩])=.ok (.non,m++[k6 x i (m.length+1),cZ]):=by
 rw[w79];refine OT (s':=⟨[sv (.own m.length),sv (.str x),sv (.int i)],m++[k6 x i (m.length+1),cZ]⟩) rfl (seq1 (Gb (r:=[sv (.str x),sv (.int i)]) (t:=.str x) (oK:=⟨24,[.val (.str x)]⟩) rfl rfl) (seq1 (Gb (r:=[sv (.str x),sv (.int i)]) (t:=.int i) (oK:=⟨24,[.val (.str x),.val (.int i)]⟩) rfl rfl) ?_)) rfl;obtain⟨oA,hA⟩:∃oA:Ob,oA=⟨24,[.val (.str x),.val (.int i)]⟩:=⟨_,rfl⟩;rw[<- hA];unfold aO mS;refine Eq.trans (bC _ _) ?_;show Res.bind (aY (((m++[oA]++[cZ])[m.length]?).bind _)) _=_;rw[kY pL];have hp:dW M.P.tab 15 (.val (.own (m++[oA]).length)) oA=some (k6 x i (m.length+1)):=by
  rw[hA,cC];rfl
 show Res.bind (aY (dW M.P.tab 15 (.val (.own (m++[oA]).length)) oA)) _=_;rw[hp];have e:(m++[oA]++[cZ]).set m.length (k6 x i (m.length+1))=m++[k6 x i (m.length+1),cZ]:=by
  rw[Kd _ _ (by simp),pM,dN];rfl
 exact congrArg (λz=>Res.ok (Out.nx,(⟨[sv (.own m.length),sv (.str x),sv (.int i)],z⟩:S))) e
def wJ:Nat->Ap->FV
 |_,[]=>[]
 |i,x::l=>k6 x ((i:Nat)+1) (2*i+1)::cZ::wJ (i+1) l
theorem Ah:∀(i:Nat)(l:Ap),(wJ i l).length=2*l.length
 |_,[]=>rfl
 |i,x::l=>by
  show(wJ (i+1) l).length+1+1=2*(l.length+1);rw[Ah (i+1) l];omega
theorem Ge:∀(l:Ap)(i k:Nat)(row:B1),l[k]?=some row->(wJ i l)[2*k]?=some (k6 row (((i+k:Nat):Int)+1) (2*(i+k)+1))/\(wJ i l)[2*k+1]?=some cZ
 |[],_,_,_,h=>by simp at h
 |x::l,i,0,row,h=>by
  simp at h;subst h;exact⟨rfl,rfl⟩
 |x::l,i,k+1,row,h=>by
  obtain⟨h1,h2⟩:=Ge l (i+1) k row (by simpa using h)
  rw[show i+1+k=i+(k+1) by omega]at h1
  exact⟨h1,h2⟩
theorem Ai(n:Nat):∀(l:Ap)(i:Nat)(m:FV),m.length=2*i->aW (dh [1,2]) dG (kq 24 (cN (n+1) 79) (k2 (vF 2) (vF 1))) [none,none,none] (dg ((i:Nat)+1) (l.map T.str)) m=.ok (((qb i l.length).map λq=>T.own (2*q)),m++wJ i l)
 |[],i,m,_=>by
  rw[show wJ i []=[]from rfl,cY];rfl
 |x::l,i,m,hm=>by
  have ih:=Ai n l (i+1) (m++[k6 x ((i:Nat)+1) (m.length+1),cZ]) (by simp;omega)
  rw[dz,dg,aW];refine Eq.trans (bC _ _) ?_;have e:kq 24 (cN (n+1) 79) (k2 (vF 2) (vF 1)) ⟨[none,sv (.int ((i:Nat)+1)),sv (.str x)],m⟩=.ok (.own m.length,⟨[none,sv (.int ((i:Nat)+1)),sv (.str x)],m++[k6 x ((i:Nat)+1) (m.length+1),cZ]⟩):=by
   unfold kq;show(match cN (n+1) 79 [.own m.length,.str x,.int ((i:Nat)+1)] (m++[⟨24,[]⟩])with|.ok (.non,m')=>_|.exc c fs s'=>_|_=>_)=_
   rw[Gd n]
  show Res.bind (kq _ _ _ ⟨[none,sv (.int ((i:Nat)+1)),sv (.str x)],m⟩) _=_;rw[e];show Res.bind (aW _ _ _ _ (dg (((i:Nat):Int)+1+1) (l.map T.str)) _) _=_;rw[show((i:Nat):Int)+1+1=((i+1:Nat):Int)+1 by omega,ih]
  show Res.ok (T.own m.length::_,_)=_;rw[dP,AB,dz,hm,dN];rfl
theorem Jz(hr:rows.length<=1000):cN (n+2) 23 [.lst (rows.map T.str)] []=.ok (.lst (gK rows.length 0),wJ 0 rows):=by
 rw[w23];have el:∀(i:Int)(l:FK),(dg i l).length=l.length:=λi l=>by
  induction l generalizing i with
  |nil=>rfl
  |cons t l ih=>show(dg (i+1) l).length+1=_;rw[ih];rfl
 have g:=Ai n rows 0 [] rfl;refine dH (s':=⟨[sv (.lst (rows.map T.str))],wJ 0 rows⟩) rfl (gu (mj ?_)) rfl;have hb:gK rows.length 0=(qb 0 rows.length).map λq=>T.own (2*q):=by
  unfold gK;rw[lq,Ke]
 rw[hb];exact o8 (ts:=dg 1 (rows.map T.str)) (s1:=⟨[sv (.lst (rows.map T.str))],[]⟩) rfl (by rw[el,cD];omega) g
theorem Gg(hr:∀row∈rows,row.length<=1000){Z:FV}:cX rows 0 (wJ 0 rows++Z):=⟨λk row hk=>by
 obtain⟨h1,h2⟩:=Ge rows 0 k row hk;rw[ud]at h1;refine⟨hr row (jB hk),?_,[],[],?_,P7.nil,dj _⟩
 ·rw[gO (eA.mp h1).1];exact h1
 ·rw[gO (eA.mp h2).1];exact h2⟩
end
section
variable{m:FV}{l:List (T×T)}{ob oK:Ob}{f:Nat}{t:T}{r:Fs}{a:FE}
theorem Pa(vB:az (l.map eB)=true):cN (n+1) 32 [.lst (l.map eB)] m=.ok (.du [] [],m):=by
 rw[w32];refine W.eq (kU ?_ (ju rfl (dI (W.of (a:=(Out.nx,(⟨[sv (.lst (l.map eB)),some (.od [] []),none,none],[]⟩:S))) rfl ⟨rfl,?_⟩))))
 ·show(az (l.map eB)&&true)=true
  rw[vB];rfl
 refine dI (fB (W.of (a:=(dg 1 (l.map eB),(⟨[sv (.lst (l.map eB)),some (.od [] []),none,none],[]⟩:S))) rfl ?_));refine(Fd (I:=λs=>∃u v,s=⟨[sv (.lst (l.map eB)),some (.od [] []),u,v],[]⟩) (λt ht s hI=>?_) ⟨_,_,rfl⟩).mono λq hq=>⟨hq.1,?_⟩
 ·obtain⟨u,v,rfl⟩:=hI
  obtain⟨j,x,hx,rfl⟩:=ph ht;obtain⟨q,_,rfl⟩:=fG.mp hx;exact⟨_,rfl,fL (s':=⟨[sv (.lst (l.map eB)),some (.od [] []),sv (.int j),sv (eB q)],[]⟩) rfl ⟨_,rfl,rfl,_,_,rfl⟩⟩
 ·obtain⟨u,v,e⟩:=hq.2
  rw[e];exact Bp (t:=.du [] []) (s':=⟨[sv (.lst (l.map eB)),sv (.du [] []),u,v],[]⟩) rfl ⟨rfl,rfl⟩
theorem wg:∀(l:List (T×T))(m:FV),aW (setG 1) dG (aE M.P.tab 1 (vF 1)) [none,none] (l.map eB) m=.ok (l.map (·.1),m)
 |[],_=>rfl
 |q::l,m=>by
  have ih:=wg l m;rw[dz,aW];refine Eq.trans (bC _ _) ?_;show Res.bind (aW (setG 1) dG (aE M.P.tab 1 (vF 1)) [none,none] (l.map eB) m) _=_;rw[ih];rfl
theorem wj(hl:l.length<=1000):cN (n+1) 81 [.own m.length,.lst (l.map eB)] (m++[⟨25,[]⟩])=.ok (.non,m++[⟨25,[.val (.lst (l.map (·.1))),.val (.own (m.length+1))]⟩,cZ]):=by
 rw[w81];obtain⟨oA,hA⟩:∃oA:Ob,oA=⟨25,[.val (.lst (l.map (·.1)))]⟩:=⟨_,rfl⟩
 obtain⟨o0,h0⟩:∃o0:Ob,o0=⟨25,[]⟩:=⟨_,rfl⟩;rw[<- h0];have ec:eX (cW (sy (vF 1)) 2 [] (setG 1) dG (aE M.P.tab 1 (vF 1))) ⟨sv (.own m.length)::[sv (.lst (l.map eB))],m++[o0]⟩=.ok (.lst (l.map (·.1)),⟨sv (.own m.length)::[sv (.lst (l.map eB))],m++[o0]⟩):=mj (o8 (ts:=l.map eB) (s1:=⟨sv (.own m.length)::[sv (.lst (l.map eB))],m++[o0]⟩) rfl (by rw[cD];omega) (wg l (m++[o0])))
 refine OT (s':=⟨[sv (.own m.length),sv (.lst (l.map eB))],m++[⟨25,[.val (.lst (l.map (·.1))),.val (.own (m.length+1))]⟩,cZ]⟩) rfl (seq1 (Gb (ob:=o0) (oK:=oA) ec (by rw[hA,h0];rfl)) ?_) rfl
 unfold aO mS;refine Eq.trans (bC _ _) ?_;show Res.bind (aY (((m++[oA]++[cZ])[m.length]?).bind _)) _=_;rw[kY pL];have hp:dW M.P.tab 17 (.val (.own (m++[oA]).length)) oA=some ⟨25,[.val (.lst (l.map (·.1))),.val (.own (m.length+1))]⟩:=by
  rw[hA,cC];rfl
 show Res.bind (aY (dW M.P.tab 17 (.val (.own (m++[oA]).length)) oA)) _=_;rw[hp];have e:(m++[oA]++[cZ]).set m.length ⟨25,[.val (.lst (l.map (·.1))),.val (.own (m.length+1))]⟩=m++[⟨25,[.val (.lst (l.map (·.1))),.val (.own (m.length+1))]⟩,cZ]:=by
  rw[Kd _ _ (by simp),pM,dN];rfl
 exact congrArg (λz=>Res.ok (Out.nx,(⟨[sv (.own m.length),sv (.lst (l.map eB))],z⟩:S))) e
end
section
variable{m Z Z':FV}{l:List (T×T)}{ob oK:Ob}{f j:Nat}{t:T}{r:Fs}{a:FE}
theorem tH{α:Type}{m Z:List α}{x:α}:(m++x::Z)[m.length]?=some x:=by
 rw[fQ (dj _),lr];rfl
theorem JA{α:Type}{m Z:List α}{x y:α}:(m++x::Z).set m.length y=m++y::Z:=by
 rw[Kc _ _ (dj _),lr];rfl
theorem UW(ha:a ⟨sv (.own m.length)::r,m++ob::Z⟩=.ok (t,⟨sv (.own m.length)::r,m++ob::Z'⟩))(hp:dW M.P.tab f (.val t) ob=some oK):aO M.P.tab f (vF 0) a ⟨sv (.own m.length)::r,m++ob::Z⟩=.ok (.nx,⟨sv (.own m.length)::r,m++oK::Z'⟩):=by
 unfold aO;rw[ha];refine Eq.trans (bC _ _) ?_;show Res.bind (aY (((m++ob::Z')[m.length]?).bind _)) _=_;rw[tH];show Res.bind (aY (dW M.P.tab f (.val t) ob)) _=_;rw[hp];exact congrArg (λz=>Res.ok (Out.nx,(⟨sv (.own m.length)::r,z⟩:S))) JA
theorem LL(hj:ic M.P.tab ob.c f=some j)(hf:ob.fs[j]?=sv t):aE M.P.tab f (vF 0) ⟨sv (.own m.length)::r,m++ob::Z⟩=.ok (t,⟨sv (.own m.length)::r,m++ob::Z⟩):=pJ (k:=m.length) rfl tH hj hf
theorem LP{c:C}:(Res.ok (T.own (m++ob::Z).length,(⟨sv (.own m.length)::r,m++ob::Z++[⟨M.bc,[c]⟩]⟩:S)):Res (T×S))=.ok (.own (m.length+1+Z.length),⟨sv (.own m.length)::r,m++ob::(Z++[⟨M.bc,[c]⟩])⟩):=by
 rw[dN,cC,dP,show m.length+(Z.length+1)=m.length+1+Z.length by omega];rfl
theorem Gh:mS M.bc ⟨sv (.own m.length)::r,m++ob::Z⟩=.ok (.own (m.length+1+Z.length),⟨sv (.own m.length)::r,m++ob::(Z++[cZ])⟩):=LP
theorem LQ:uM M.bc (mO aZ) ⟨sv (.own m.length)::r,m++ob::Z⟩=.ok (.own (m.length+1+Z.length),⟨sv (.own m.length)::r,m++ob::(Z++[⟨M.bc,[.ol []]⟩])⟩):=LP
def Pb(l:List (T×T))(w:Nat):WV:=⟨l.map eB,.du [] [],w+1,.lst [],0,w+3,0,.non,0,w+4,w+5,w+6,w+7,false⟩
abbrev wO(l:List (T×T))(w k:Nat):Ob:=⟨26,(Pb l w).ob.fs.take k⟩
theorem gD{k:Nat}{B:FS}{Q:Out×S->Prop}(ha:a ⟨sv (.own m.length)::r,m++wO l m.length k::Z⟩=.ok (t,⟨sv (.own m.length)::r,m++wO l m.length k::Z'⟩))(hp:dW M.P.tab f (.val t) (wO l m.length k)=some (wO l m.length (k+1)))(h:W (B ⟨sv (.own m.length)::r,m++wO l m.length (k+1)::Z'⟩) Q):W (af (aO M.P.tab f (vF 0) a) B ⟨sv (.own m.length)::r,m++wO l m.length k::Z⟩) Q:=gY (W.of (UW ha hp) ⟨rfl,h⟩)
theorem wm(hl:l.length<=1000)(vB:az (l.map eB)=true):W (cN (n+2) 85 [.own m.length,.obj 0 [.lst (l.map eB)]] (m++[⟨26,[]⟩])) λp=>p.1=.non/\WS p.2 m.length {Pb l m.length with wt:=true} [bG 0]/\p.2[m.length+1]?=some ⟨25,[.val (.lst (l.map (·.1))),.val (.own (m.length+2))]⟩/\p.2[m.length+5]?=some cZ/\p.2[m.length+6]?=some ⟨M.bc,[.ol []]⟩/\Fr (λk=>m.length<=k) m p.2:=by
 rw[w85];obtain⟨pg,hpg⟩:∃pg:T,pg=.obj 0 [.lst (l.map eB)]:=⟨_,rfl⟩;rw[<- hpg];obtain⟨tT,htT⟩:∃tT:Ob,tT=⟨25,[.val (.lst (l.map (·.1))),.val (.own (m.length+2))]⟩:=⟨_,rfl⟩
 obtain⟨nL,VR⟩:∃nL:Ob,nL=⟨M.bc,[.ol []]⟩:=⟨_,rfl⟩;refine f9 rfl ?_;show W (af _ _ ⟨sv (.own m.length)::[sv pg],m++wO l m.length 0::[]⟩) _;refine gD (t:=.lst (l.map eB)) (by rw[hpg];rfl) rfl ?_
 refine gD (t:=.du [] []) (gB (ts:=[.lst (l.map eB)]) (s':=⟨sv (.own m.length)::[sv pg],m++wO l m.length 1::[]⟩) (av (LL (j:=0) rfl rfl) rfl) (Pa n vB)) rfl ?_;refine gD (t:=.own (m.length+1)) (Z':=[tT,cZ]) ?_ rfl ?_
 ·obtain⟨oB,hB⟩:∃oB:Ob,oB=wO l m.length 2:=⟨_,rfl⟩
  have ea:k1 (aE M.P.tab 0 (vF 0)) ⟨sv (.own m.length)::[sv pg],m++oB::[]⟩=.ok ([.lst (l.map eB)],⟨sv (.own m.length)::[sv pg],m++oB::[]⟩):=by rw[hB];exact av (LL (j:=0) rfl rfl) rfl
  rw[<- hB];unfold kq;refine Eq.trans (congrArg (λx=>Res.bind x _) ea) ?_;refine Eq.trans (bC _ _) ?_;have q:=wj n (l:=l) (m:=m++[oB]) hl;dsimp only;rw[q];show Res.ok (T.own (m++[oB]).length,(⟨sv (.own m.length)::[sv pg],m++[oB]++[⟨25,[.val (.lst (l.map (·.1))),.val (.own ((m++[oB]).length+1))]⟩,cZ]⟩:S))=_
  rw[cC,dN,htT];rfl
 refine gD rfl rfl (gD rfl rfl (gD Gh rfl (gD rfl rfl (gD rfl rfl (gD rfl rfl (gD Gh rfl (gD Gh rfl ?_)))))));refine gD (Z':=[tT,cZ,cZ,cZ,cZ,nL]) (by rw[VR];exact LQ) rfl (gD (Z':=[tT,cZ,cZ,cZ,cZ,nL,nL]) (by rw[VR];exact LQ) rfl (gD rfl rfl ?_))
 have gk:∀(x:Ob)(Z:FV)(k:Nat),(m++x::Z)[m.length+k]?=(x::Z)[k]?:=λx Z k=>by
  rw[fQ (by omega),show m.length+k-m.length=k by omega]
 obtain⟨mF,hF⟩:∃mF:FV,mF=m++(Pb l m.length).ob::[tT,cZ,cZ,cZ,cZ,nL,nL]:=⟨_,rfl⟩;have S0:WS mF m.length (Pb l m.length) []:=⟨by rw[hF];exact tH,by rw[hF];show(m++_::_)[m.length+7]?=_;rw[gk,<- VR];rfl,by show m.length+7≠m.length;omega,by show 0<_;omega⟩
 show W (aN _ ⟨sv (.own m.length)::[sv pg],m++(Pb l m.length).ob::[tT,cZ,cZ,cZ,cZ,nL,nL]⟩) _;rw[<- hF];refine(yi (r:=[sv pg]) S0 rfl (Ad n S0 (by show 0+1<_;omega))).mono λp hp=>?_
 obtain⟨h1,h2,u,h3,h4,h5⟩:=hp;have aag:mF.length=m.length+8:=by rw[hF];simp
 have nx:∀k,k≠0->k≠7->¬ WX m.length (Pb l m.length) (m.length+k):=λk a b z=>by
  rcases z with z|z
  ·omega
  ·have z:m.length+k=m.length+7:=z
   omega
 refine⟨h1,rfl,h4,?_,?_,?_,?_,λk hk x=>?_⟩
 ·rw[h5.at_ _ (by omega) (nx 1 (by omega) (by omega)),hF,gk,<- htT];rfl
 ·rw[h5.at_ _ (by omega) (nx 5 (by omega) (by omega)),hF,gk];rfl
 ·rw[h5.at_ _ (by omega) (nx 6 (by omega) (by omega)),hF,gk,<- VR];rfl
 ·exact gP (by omega) h5.le
 ·rw[h5.at_ k (by omega) λz=>?_,hF,gO hk]
  rcases z with z|z
  ·omega
  ·have z:k=m.length+7:=z
   omega
end
section
variable{m:FV}{w tk ub c:Nat}{v:WV}{log:FK}{l:List (T×T)}{rows:Ap}{bj:List CV}
abbrev iJ(i:Int):T:=.tup [.str [110,111,110,101],.int (i+1)]
abbrev k7:T:=.tup [.str [101,110,100]]
theorem Bx(S':WS m w v log)(L:LK l)(hv:v.lines=l.map eB)(hh:v.hand=.non)(hl:log.length+2<900000):W (cN (n+2) 92 [.own w] m) (WR w v v (log++[iJ v.tk]++[k7]) m):=by
 rw[w92];refine f9 rfl (gY ((yi (r:=[none]) S' rfl (Jr n S' (by omega))).mono λp hp=>?_))
 obtain⟨h1,h2,u,h3,h4,h5⟩:=hp;refine⟨h1,?_⟩;obtain⟨o,pr,pm⟩:=p;cases h2;have c1:bw (bB (aH .IsNot) (aE M.P.tab 24 (vF 0)) (cF .non)) ⟨sv (.own w)::[none],pm⟩=.ok (false,⟨sv (.own w)::[none],pm⟩):=by
  have e:bB (aH .IsNot) (aE M.P.tab 24 (vF 0)) (cF .non) ⟨sv (.own w)::[none],pm⟩=.ok (.bl false,⟨sv (.own w)::[none],pm⟩):=aI (t:=.non) (u:=.non) (by rw[<- hh];exact w_fld h4 (j:=7) rfl rfl) rfl rfl
  unfold bw;rw[e];rfl
 have S1:=h4.app (t:=k7) (by simp;omega)
 refine gY (fL c1 ⟨_,rfl,rfl,gY (W.of (wb (r:=[none]) h4 (t:=k7) (cP (av (t:=.str [101,110,100]) rfl rfl) rfl)) ⟨rfl,?_⟩)⟩);refine fB (W.of (a:=(l.map eB,(⟨sv (.own w)::[none],pm.set v.lg ⟨M.bc,[.ol (log++[iJ v.tk]++[k7])]⟩⟩:S))) ?_ ?_)
 ·unfold sy
  rw[w_fld S1 (j:=0) (t:=.lst (l.map eB)) rfl (by rw[<- hv];rfl)]
  rfl
 refine(Fd (I:=λs=>∃u,s=⟨[sv (.own w),u],pm.set v.lg ⟨M.bc,[.ol (log++[iJ v.tk]++[k7])]⟩⟩) (λt ht s hI=>?_) ⟨none,rfl⟩).mono λq hq=>?_
 ·obtain⟨u,rfl⟩:=hI
  obtain⟨q,hq,rfl⟩:=fG.mp ht;have c2:D.tB (cu (gH M.P.sub [10]) (aE M.P.tab 1 (vF 1))) ⟨[sv (.own w),sv (eB q)],pm.set v.lg ⟨M.bc,[.ol (log++[iJ v.tk]++[k7])]⟩⟩=.ok (false,⟨[sv (.own w),sv (eB q)],pm.set v.lg ⟨M.bc,[.ol (log++[iJ v.tk]++[k7])]⟩⟩):=by
   unfold D.tB cu;show Res.bind (Res.bind (aY (gH M.P.sub [10] q.1)) _) _=_;rw[L.no q hq];rfl
  exact⟨_,rfl,fL c2 ⟨_,rfl,rfl,_,rfl⟩⟩
 ·obtain⟨u,e⟩:=hq.2
  rw[e];exact⟨hq.1,rfl,S1,h5.trans (Fr.set (.inr rfl))⟩
end
section
variable{rows:Ap}{l:List (T×T)}{bj:List CV}{w tk ub:Nat}
theorem Gi{L k:Nat}(h:k<L):gK L k=.own (2*k)::gK L (k+1):=by
 unfold gK;rw[nF (by rw[j5];exact h),dz,List.getElem_range]
theorem Gj{L k:Nat}:(gK L 0).drop k=gK L k:=by
 unfold gK;rw[lq,tZ]
def gJ(rows:Ap)(l:List (T×T))(bj:List CV):Nat->Ap->FK
 |_,[]=>[]
 |k,x::r=>gI rows l bj k ((k:Nat):Int) x++gJ rows l bj (k+1) r
theorem pO{k:Nat}{i:Int}{x:B1}:(gI rows l bj k i x).length<=2*l.length+4:=by
 unfold gI
 have:=pK 0 (l.zip (bj.map λx=>x.jn rows k))
 rw[tW]at this;simp;omega
theorem Aj(n:Nat)(L:LK l)(hb:bj.length=l.length)(ho:∀x∈bj,CV.one x)(hL:rows.length<=1000)(r_:bj.length<1000){pg tx:T}:∀(d k c:Nat)(v:WV)(log:FK)(m:FV)(u u':Option C),k+d=rows.length->WI rows l bj w tk ub c v log m->v.tk=((k:Nat):Int)->c+10*bj.length*d<900000->log.length+(2*l.length+10)*d+20<900000 ->
  W (bP (dh [4,5]) (aN (aw (ak [(26,87)] (cN (n+11))) (vF 3) (k2 (vF 5) (mZ (vF 2) (jY (vF 4)) wH)))) (dg (((k:Nat):Int)+1) (gK rows.length k)) ⟨[sv pg,sv tx,sv (.lst (gK rows.length 0)),sv (.own w),u,u'],m⟩) λp=>p.1=.nx/\∃u u' m' c' v',p.2=⟨[sv pg,sv tx,sv (.lst (gK rows.length 0)),sv (.own w),u,u'],m'⟩/\WI rows l bj w tk ub c' v' (log++gJ rows l bj k (rows.drop k)) m'/\v'.tk=(rows.length:Nat)/\v'.lg=v.lg/\v'.su=v.su/\v'.no=v.no/\Fr (WZ rows w v) m m'
 |0,k,c,v,log,m,u,u',hd,I,ht,_,_=>by
  have hk:k=rows.length:=by omega
  subst hk;rw[show gK rows.length rows.length=[] by unfold gK;rw[yC (by rw[j5];exact dj _)];rfl,yx]
  exact⟨_,rfl,rfl,u,u',m,c,v,rfl,by rw[show gJ rows l bj rows.length []=[]from rfl,cY];exact I,ht,rfl,rfl,rfl,Fr.refl⟩
 |d+1,k,c,v,log,m,u,u',hd,I,ht,hc,hl=>by
  have hk:k<rows.length:=by omega
  have we:rows[k]?=some rows[k]:=cj hk;rw[Nat.mul_add,Nat.mul_one]at hc hl;obtain⟨⟨t1,m1⟩,e1,h1,F1,tr,mt,I1⟩:=Ga n I L hb ho we hL (by omega) r_ (by omega)
  have h1:t1=.non:=h1;subst h1;have ck:=pO (rows:=rows) (l:=l) (bj:=bj) (k:=k) (i:=v.tk) (x:=rows[k]);obtain⟨p,e2,q1,w1,w2,m',c',v',q2,I2,q3,q4,q5,q6,F2⟩:=Aj n L hb ho hL r_ (pg:=pg) (tx:=tx) d (k+1) _ _ _ m1 (sv (.int (((k:Nat):Int)+1))) (sv (.own (2*k))) (by omega) I1 (by show v.tk+1=_;rw[ht];omega) (by omega) (by rw[cC];omega)
  rw[show(((k+1:Nat)):Int)=((k:Nat):Int)+1 by omega]at e2
  rw[Gi hk];refine o_ rfl (dE (mE rfl I.S.o rfl (av rfl (av (VN (t:=.lst (gK rows.length 0)) (u:=.lst (gK rows.length (k+1))) (x:=some (((k+1:Nat)):Int)) rfl rfl rfl (by show some (T.lst (bg _ _ none))=_;rw[FZ,Gj])) rfl)) e1) ⟨rfl,p,e2,q1,w1,w2,m',c',v',q2,?_,q3,q4,q5,q6,F1.trans F2⟩)
  rw[nF hk];show WI rows l bj w tk ub c' v' (log++(gI rows l bj k ((k:Nat):Int) rows[k]++gJ rows l bj (k+1) (rows.drop (k+1)))) m';rw[ht,dN]at I2;exact I2
end
def jf:T->FK
 |.tup (.str nm::ys)=>if nm=[103,105,118,101]then ys.take 1 else[]
 |_=>[]
def JB(e:T):Prop:=∃nm ys,e=.tup (.str nm::ys)/\(nm=[103,105,118,101]->∃x,ys=[x])/\az ys=true
section
variable{m:FV}
theorem eqS(a b:B1):aH .Eq (.str a) (.str b)=some (.bl (decide (a=b))):=rfl
theorem wo:∀(log:FK)(m:FV),(∀e∈log,JB e)->aW (setG 1) (bw (oE (oI (vF 1) (cI 0)) (cS [103,105,118,101]))) (oI (vF 1) (cI 1)) [none,none] log m=.ok (log.flatMap jf,m)
 |[],_,_=>rfl
 |e::log,m,h=>by
  obtain⟨nm,ys,rfl,hg,_⟩:=h e (er ..);have ih:=wo log m λe he=>h e (eF _ he);have c:bw (oE (oI (vF 1) (cI 0)) (cS [103,105,118,101])) ⟨[none,sv (.tup (.str nm::ys))],m⟩=.ok (decide (nm=[103,105,118,101]),⟨[none,sv (.tup (.str nm::ys))],m⟩):=by
   have e0:gq (.tup (.str nm::ys)) (.int 0)=some (.str nm):=by
    show atT (T.str nm::ys) (((0:Nat)):Int)=_;rw[ee (by simp)];rfl
   have e2:oE (oI (vF 1) (cI 0)) (cS [103,105,118,101]) ⟨[none,sv (.tup (.str nm::ys))],m⟩=.ok (.bl (decide (nm=[103,105,118,101])),⟨[none,sv (.tup (.str nm::ys))],m⟩):=aI (aI (t:=.tup (.str nm::ys)) (u:=.int 0) rfl rfl e0) rfl (eqS _ _);unfold bw;rw[e2];rfl
  rw[aW];refine Eq.trans (bC _ _) ?_;show Res.bind (bw _ ⟨[none,sv (.tup (.str nm::ys))],m⟩) _=_;rw[c];refine Eq.trans (bC _ _) ?_;rw[nG];by_cases hn:nm=[103,105,118,101]
  ·obtain⟨x,rfl⟩:=hg hn
   have e1:oI (vF 1) (cI 1) ⟨[none,sv (.tup [.str nm,x])],m⟩=.ok (x,⟨[none,sv (.tup [.str nm,x])],m⟩):=by
    refine aI (t:=.tup [.str nm,x]) (u:=.int 1) rfl rfl ?_;show atT [T.str nm,x] (((1:Nat)):Int)=_;rw[ee (by simp)];rfl
   dsimp only;rw[decide_eq_true hn,if_pos rfl,e1];refine Eq.trans (bC _ _) ?_;dsimp only;rw[ih];show Res.ok (x::log.flatMap jf,m)=Res.ok ((if nm=[103,105,118,101]then[x].take 1 else[])++log.flatMap jf,m)
   rw[if_pos hn];rfl
  ·dsimp only
   rw[decide_eq_false hn,if_neg dC,ih];show _=Res.ok ((if nm=[103,105,118,101]then ys.take 1 else[])++log.flatMap jf,m)
   rw[if_neg hn];rfl
end
section
variable{a:FE}{s:S}{w kb f j:Nat}{ob:Ob}{c:C}{u:T}
theorem LR(hm:s.m[w]?=some ob)(hj:ic M.P.tab ob.c f=some j)(hf:ob.fs[j]?=some c):iH M.P.tab f s.m (.own w)=some (w,ob,j,c):=by
 show(s.m[w]?).bind _=_;rw[hm];show(ic M.P.tab ob.c f).bind _=_;rw[hj];show(ob.fs[j]?).map _=_;rw[hf];rfl
theorem YX(h:a s=.ok (.own w,s))(hm:s.m[w]?=some ob)(hj:ic M.P.tab ob.c f=some j)(hf:ob.fs[j]?=sv (.own kb))(hb:s.m[kb]?=some ⟨M.bc,[c]⟩)(hz:N7 c=some u):il M.bc M.P.tab f a s=.ok (u,⟨s.r,(s.m.set kb ⟨M.bc,[]⟩).set w ⟨ob.c,ob.fs.set j (.val u)⟩⟩):=by
 have e:sV M.bc s.m (.own kb)=some (kb,c):=by
  show(s.m[kb]?).bind _=_;rw[hb];show(if M.bc=M.bc then some (kb,c)else none)=_
  rw[if_pos rfl]
 unfold il;rw[h];refine Eq.trans (bC _ _) ?_;show Res.bind (aY (iH M.P.tab f s.m (.own w))) _=_;rw[LR hm hj hf];refine Eq.trans (bC _ _) ?_;dsimp only;rw[e];dsimp only;rw[hz];rfl
theorem fx2(h:a s=.ok (.own w,s))(hm:s.m[w]?=some ob)(hj:ic M.P.tab ob.c f=some j)(hf:ob.fs[j]?=sv u)(hn:sV M.bc s.m u=none):il M.bc M.P.tab f a s=.ok (u,s):=by
 unfold il;rw[h];refine Eq.trans (bC _ _) ?_;show Res.bind (aY (iH M.P.tab f s.m (.own w))) _=_;rw[LR hm hj hf];refine Eq.trans (bC _ _) ?_;dsimp only;rw[hn]
end
theorem c7:∀{ts:FK},(∀t∈ts,noOwn t=true)->az ts=true
 |[],_=>rfl
 |t::ts,h=>by
  show(noOwn t&&az ts)=true;rw[h t (er ..),c7 λu hu=>h u (eF _ hu)];rfl
theorem pP:∀{ts:FK},az ts=true->∀t∈ts,noOwn t=true
 |[],_,_,h=>by cases h
 |u::ts,h,t,ht=>by
  have h:(noOwn u&&az ts)=true:=h;rw[dc]at h;rcases bA.mp ht with z|z
  ·rw[z];exact h.1
  ·exact pP h.2 t z
theorem JB.no{e:T}(h:JB e):noOwn e=true:=by
 obtain⟨nm,ys,rfl,_,h⟩:=h;show(true&&az ys)=true;rw[h];rfl
theorem Gk{log:FK}(h:∀e∈log,JB e):az (log.flatMap jf)=true:=c7 λt ht=>by
 obtain⟨e,he,ht⟩:=Kf.mp ht;obtain⟨nm,ys,rfl,_,h2⟩:=h e he;have ht:t∈(if nm=[103,105,118,101]then ys.take 1 else[]):=ht
 split at ht
 ·exact pP h2 t (yD ht)
 ·cases ht
theorem P8{nm:B1}{ys:FK}(h:nm≠[103,105,118,101])(h2:az ys=true):JB (.tup (.str nm::ys)):=⟨nm,ys,rfl,λz=>absurd z h,h2⟩
theorem lgG{t:T}(h:noOwn t=true):JB (b8 t):=⟨_,[t],rfl,λ_=>⟨t,rfl⟩,by show(noOwn t&&true)=true;rw[h];rfl⟩
section
variable{rows:Ap}{l:List (T×T)}{bj:List CV}{m:FV}{text:B1}{b:Bool}
theorem wu{P:T->Prop}(h3:∀i b,P (eg i b)):∀(k:Nat)(z:List ((T×T)×Bool)),(∀q∈z,P (b8 q.1.2))->∀e∈iz k z,P e
 |_,[],_,e,he=>by cases he
 |k,(q,b)::r,h,e,he=>by
  unfold iz at he;rcases fk.mp he with he|he
  ·rcases fk.mp he with he|he
   ·rw[dB.mp he];exact h3 _ _
   ·cases b with
    |true=>rw[dB.mp he];exact h _ (er ..)
    |false=>cases he
  ·exact wu h3 (k+1) r (λq hq=>h q (eF _ hq)) e he
structure LgP(l:List (T×T))(P:T->Prop):Prop where
 want:∀i,P (bG i)
 take:∀i,P (kZ i)
 meet:∀i b,P (eg i b)
 say:∀q∈l,P (b8 q.2)
 row:∀x:B1,P (b8 (.str x))
 over:P fD
 none:∀i,P (iJ i)
 fin:P k7
theorem pQ{P:T->Prop}(h:LgP l P):∀(r:Ap)(k:Nat),∀e∈gJ rows l bj k r,P e
 |[],_,e,he=>by cases he
 |x::r,k,e,he=>by
  rcases fk.mp he with he|he
  ·unfold gI at he
   rcases fk.mp he with he|he
   ·rcases fk.mp he with he|he
    ·rcases fk.mp he with he|he
     ·rcases fk.mp he with he|he
      ·rw[dB.mp he];exact h.take _
      ·exact wu h.meet 0 _ (λq hq=>h.say q.1 (yu hq).1) e he
     ·rw[dB.mp he];exact h.row _
    ·rw[dB.mp he];exact h.over
   ·rw[dB.mp he];exact h.want _
  ·exact pQ h r (k+1) e he
theorem jU:∀(r:Ap)(k:Nat),(gJ rows l bj k r).length<=(2*l.length+4)*r.length
 |[],_=>iN _
 |x::r,k=>by
  have h1:=jU r (k+1);have h2:=pO (rows:=rows) (l:=l) (bj:=bj) (k:=k) (i:=((k:Nat):Int)) (x:=x);show(gI rows l bj k ((k:Nat):Int) x++gJ rows l bj (k+1) r).length<=_;rw[cC,dP,yK];omega
def dM(rows:Ap)(l:List (T×T))(bj:List CV):FK:=[bG 0]++gJ rows l bj 0 rows++[iJ (rows.length:Nat)]++[k7]
theorem Ak{P:T->Prop}(h:LgP l P):∀e∈dM rows l bj,P e:=λe he=>by
 rcases fk.mp he with he|he
 ·rcases fk.mp he with he|he
  ·rcases fk.mp he with he|he
   ·rw[dB.mp he];exact h.want _
   ·exact pQ h _ _ e he
  ·rw[dB.mp he];exact h.none _
 ·rw[dB.mp he];exact h.fin
theorem lT(hw:∀q∈l,noOwn q.2=true):∀e∈dM rows l bj,JB e:=Ak ⟨λ_=>P8 (by decide) rfl,λ_=>P8 (by decide) rfl,λ_ _=>P8 (by decide) rfl,λq hq=>lgG (hw q hq),λ_=>lgG rfl,P8 (by decide) rfl,λ_=>P8 (by decide) rfl,P8 (by decide) rfl⟩
theorem Gn{log:FK}(h:∀e∈log,JB e)(hl:log.length<=1000000):cN (n+1) 31 [.lst log] m=.ok (.lst (log.flatMap jf),m):=by
 rw[w31];refine kT (m':=[]) ?_ (dH (s':=⟨[sv (.lst log)],[]⟩) rfl (gu (mj (o8 (ts:=log) (s1:=⟨[sv (.lst log)],[]⟩) rfl hl (wo log [] h)))) rfl) (Gk h);show(az log&&true)=true;rw[c7 λt ht=>(h t ht).no];rfl
end
section
variable{rows:Ap}{l:List (T×T)}{bj:List CV}{m:FV}{text:B1}{b:Bool}{w:Nat}{v:WV}{log:FK}{x0 x1 x2 x4 x5:Option C}
theorem UX(S':WS m w v log)(hs:m[v.su]?=some cZ)(hn:m[v.no]?=some ⟨M.bc,[.ol []]⟩)(h1:v.su≠w)(h2:v.su≠v.lg)(h3:v.no≠w)(h4:v.no≠v.lg)(h5:v.no≠v.su)(h:∀e∈log,JB e):∃m',aR bQ (bK (ao (cN (n+1) 31) [] (k1 (il M.bc M.P.tab 29 (vF 3)))) (k3 (il M.bc M.P.tab 27 (vF 3)) (il M.bc M.P.tab 28 (vF 3)) (il M.bc M.P.tab 29 (vF 3)))) ⟨[x0,x1,x2,sv (.own w),x4,x5],m⟩=.ok (.tup [.lst (log.flatMap jf),.du [] [],.lst [],.lst log],⟨[x0,x1,x2,sv (.own w),x4,x5],m'⟩):=by
 obtain⟨r,hr⟩:∃r:Fs,r=[x0,x1,x2,sv (.own w),x4,x5]:=⟨_,rfl⟩;have hv:∀m:FV,vF 3 ⟨r,m⟩=.ok (.own w,⟨r,m⟩):=λm=>by rw[hr];rfl
 rw[<- hr];have hw:w<m.length:=(eA.mp S'.o).1;obtain⟨o1,e1⟩:∃o1:Ob,o1=⟨v.ob.c,v.ob.fs.set 12 (.val (.lst log))⟩:=⟨_,rfl⟩;obtain⟨m1,f1⟩:∃m1:FV,m1=(m.set v.lg ⟨M.bc,[]⟩).set w o1:=⟨_,rfl⟩;have a1:il M.bc M.P.tab 29 (vF 3) ⟨r,m⟩=.ok (.lst log,⟨r,m1⟩):=by rw[f1,e1];exact YX (j:=12) (hv m) S'.o rfl rfl S'.l rfl
 have g1:m1[w]?=some o1:=by rw[f1];exact eV (by rw[eW];exact hw)
 have s1:m1[v.su]?=some cZ:=by rw[f1,c5 (Ne.symm h1),c5 (Ne.symm h2)];exact hs
 have n1:m1[v.no]?=some ⟨M.bc,[.ol []]⟩:=by rw[f1,c5 (Ne.symm h3),c5 (Ne.symm h4)];exact hn
 have l1:m1.length=m.length:=by rw[f1,eW,eW]
 obtain⟨o2,e2⟩:∃o2:Ob,o2=⟨o1.c,o1.fs.set 10 (.val (.du [] []))⟩:=⟨_,rfl⟩;obtain⟨m2,f2⟩:∃m2:FV,m2=(m1.set v.su ⟨M.bc,[]⟩).set w o2:=⟨_,rfl⟩;have a2:il M.bc M.P.tab 27 (vF 3) ⟨r,m1⟩=.ok (.du [] [],⟨r,m2⟩):=by rw[f2,e2];exact YX (j:=10) (kb:=v.su) (hv m1) g1 (by rw[e1];rfl) (by rw[e1];rfl) s1 rfl
 have g2:m2[w]?=some o2:=by rw[f2];exact eV (by rw[eW,l1];exact hw)
 have n2:m2[v.no]?=some ⟨M.bc,[.ol []]⟩:=by rw[f2,c5 (Ne.symm h3),c5 (Ne.symm h5)];exact n1
 have l2:m2.length=m.length:=by rw[f2,eW,eW,l1]
 obtain⟨o3,e3⟩:∃o3:Ob,o3=⟨o2.c,o2.fs.set 11 (.val (.lst []))⟩:=⟨_,rfl⟩;obtain⟨m3,f3⟩:∃m3:FV,m3=(m2.set v.no ⟨M.bc,[]⟩).set w o3:=⟨_,rfl⟩;have a3:il M.bc M.P.tab 28 (vF 3) ⟨r,m2⟩=.ok (.lst [],⟨r,m3⟩):=by rw[f3,e3];exact YX (j:=11) (kb:=v.no) (hv m2) g2 (by rw[e2,e1];rfl) (by rw[e2,e1];rfl) n2 rfl
 have g3:m3[w]?=some o3:=by rw[f3];exact eV (by rw[eW,l2];exact hw)
 have a4:il M.bc M.P.tab 29 (vF 3) ⟨r,m3⟩=.ok (.lst log,⟨r,m3⟩):=fx2 (j:=12) (hv m3) g3 (by rw[e3,e2,e1];rfl) (by rw[e3,e2,e1];rfl) rfl
 have a0:ao (cN (n+1) 31) [] (k1 (il M.bc M.P.tab 29 (vF 3))) ⟨r,m⟩=.ok (.lst (log.flatMap jf),⟨r,m1⟩):=gB (ts:=[.lst log]) (s':=⟨r,m1⟩) (av a1 rfl) (Gn n h (by have:=S'.jX;omega))
 exact⟨m3,cP (ts:=[.lst (log.flatMap jf),.du [] [],.lst [],.lst log]) (av a0 (av a2 (av a3 (av a4 rfl)))) rfl⟩
theorem JC(L:LK l)(hq:∀q∈l,noOwn q.1=true/\noOwn q.2=true)(P9:l.map (·.1)=bj.map CV.val)(ho:∀x∈bj,CV.one x)(hl:l.length<=100)(hr:rows.length<=100)(we:∀row∈rows,row.length<=1000)(hc:∀m,cN (n+11) 1 [.str text] m=.ok (.tup [.lst (rows.map T.str),.bl b],m)):cN (n+12) 33 [.obj 0 [.lst (l.map eB)],.str text] m=.ok (.tup [.lst ((dM rows l bj).flatMap jf),.du [] [],.lst [],.lst (dM rows l bj)],m):=by
 have vB:az (l.map eB)=true:=c7 λt ht=>by
  obtain⟨q,hm,rfl⟩:=fG.mp ht;show(noOwn q.1&&((noOwn q.2&&true)&&true))=true;rw[(hq q hm).1,(hq q hm).2];rfl
 have hb:bj.length=l.length:=by have:=congrArg wL P9;simpa using this.symm
 have ba:=lT (rows:=rows) (bj:=bj) λq hm=>(hq q hm).2;obtain⟨w,ew⟩:∃w,w=(wJ 0 rows).length:=⟨_,rfl⟩;have hw:w=2*rows.length:=by rw[ew];exact Ah 0 rows
 obtain⟨⟨u0,m0⟩,e0,DL,S0,ht0,hs0,hn0,F0⟩:=wm (n+9) (m:=wJ 0 rows) (l:=l) (by omega) vB
 have DL:u0=.non:=DL;subst DL;rw[<- ew]at e0 S0 ht0 hs0 hn0 F0;obtain⟨v,hv⟩:∃v:WV,v={Pb l w with wt:=true}:=⟨_,rfl⟩
 rw[<- hv]at S0;have vlg:v.lg=w+7:=by rw[hv];rfl
 have vsu:v.su=w+5:=by rw[hv];rfl
 have vno:v.no=w+6:=by rw[hv];rfl
 have I0:WI rows l bj w (w+1) (w+2) 0 v [bG 0] m0:=by
  refine⟨S0,?_,?_,by omega,by omega,by omega,by rw[hv];rfl,by omega,by omega,by rw[hv];rfl,by rw[hv];rfl,by rw[hv];rfl⟩
  ·have R:=Gg we (Z:=[])
   rw[cY]at R;exact R.fr F0 λq hq z=>by omega
  ·unfold UT
   rw[<- P9];exact ht0
 have aah:=jU (rows:=rows) (l:=l) (bj:=bj) rows 0;have hm:(2*l.length+4)*rows.length<=204*100:=yL (by omega) hr
 have hm2:(2*l.length+10)*rows.length<=210*100:=yL (by omega) hr
 have hm3:10*bj.length*rows.length<=1000*100:=yL (by omega) hr
 obtain⟨P,hP⟩:∃P:T,P=.obj 0 [.lst (l.map eB)]:=⟨_,rfl⟩;have g:=Aj n L hb ho (by omega) (by omega) (w:=w) (tk:=w+1) (ub:=w+2) (pg:=P) (tx:=.str text) rows.length 0 0 v [bG 0] m0 none none (by omega) I0 (by rw[hv];rfl) (by omega) (by show 1+_+20<_;omega)
 obtain⟨p,e3,q1,u,u',m',c',v',q2,I,q3,q4,q5,q6,F1⟩:=g;rw[lq]at I;obtain⟨⟨t4,m4⟩,e4,YY,S4,F4⟩:=Bx (n+9) I.S L I.ln I.hd (by rw[cC];show 1+_+2<_;omega)
 have YY:t4=.non:=YY;subst YY;rw[q3]at S4;have keep:∀k ob,w+4<k->k<w+7->m0[k]?=some ob->m4[k]?=some ob:=λk ob k1 k2 hk=>by
  have a:m'[k]?=some ob:=by
   rw[F1.at_ k (eA.mp hk).1 λz=>by rcases z with z|z|z<;>omega];exact hk
  have F4:Fr (WX w v') m' m4:=F4;rw[F4.at_ k (eA.mp a).1 λz=>by rcases z with z|z<;>omega];exact a
 obtain⟨m5,e5⟩:=UX (n+10) (x0:=sv P) (x1:=sv (.str text)) (x2:=sv (.lst (gK rows.length 0))) (x4:=u) (x5:=u') S4 (keep _ _ (by omega) (by omega) (by rw[q5,vsu];exact hs0)) (keep _ _ (by omega) (by omega) (by rw[q6,vno];exact hn0)) (by omega) (by omega) (by omega) (by omega) (by omega) ba
 rw[w33];refine sEq ?_ rfl ?_ ?_
 ·show((az (l.map eB)&&true)&&(true&&true))=true
  rw[vB];rfl
 ·show(az ((dM rows l bj).flatMap jf)&&(true&&(true&&(az (dM rows l bj)&&true))))=true
  rw[Gk ba,c7 λt ht=>(ba t ht).no];rfl
 rw[<- hP];refine Uo (gB (ts:=[.lst (rows.map T.str)]) (s':=⟨[sv P,sv (.str text),none,none,none,none],[]⟩) (av (pE (cE (ts:=[.str text]) rfl (hc [])) rfl rfl) rfl) (Jz (n+9) (by omega))) (Uo (t:=.own w) (s':=⟨[sv P,sv (.str text),sv (.lst (gK rows.length 0)),none,none,none],m0⟩) ?_ (dI (fB (W.of rfl (W.of e3 ⟨q1,?_⟩)))))
 ·have:=Uw (c:=26) (g:=cN (n+11) 85) (fl:=k1 (vF 0)) (ts:=[P]) (s:=⟨[sv P,sv (.str text),sv (.lst (gK rows.length 0)),none,none,none],wJ 0 rows⟩) (s':=⟨[sv P,sv (.str text),sv (.lst (gK rows.length 0)),none,none,none],wJ 0 rows⟩) (m':=m0) rfl (by rw[hP];show cN (n+11) _ [.own (wJ 0 rows).length,_] (wJ 0 rows++_)=_;rw[<- ew];exact e0)
  rw[ew];exact this
 rw[q2];exact dI (dE (mE rfl I.S.o rfl rfl e4) ⟨rfl,Bp e5 rfl⟩)
end
theorem ml{s:S}{i j:Int}{a:FE}(h:a s=.ok (.int i,s))(hj:-(2^64)<j/\j<2^64):bB (fY .Mult) a (cI j) s=.ok (.int (i*j),s):=aI h rfl (show HA (.int i) (.int j)=_ from jT (.inl (.inr hj)))
theorem md{s:S}{i j:Int}{a:FE}(h:a s=.ok (.int i,s))(h2:0<j):oM a (cI j) s=.ok (.int (i % j),s):=aI h rfl (show MX (.int i) (.int j)=_ from jT h2)
theorem fd{s:S}{i j:Int}{a:FE}(h:a s=.ok (.int i,s))(h2:0<j/\j<1073741824):oD a (cI j) s=.ok (.int (i/j),s):=aI h rfl (show MW (.int i) (.int j)=_ from jT h2)
theorem ad{s:S}{i j:Int}{a b:FE}(h:a s=.ok (.int i,s))(h2:b s=.ok (.int j,s)):oA a b s=.ok (.int (i+j),s):=aI h h2 rfl
theorem qw{s:S}{x y:B1}{a b:FE}(h:a s=.ok (.str x,s))(h2:b s=.ok (.str y,s))(hl:x.length+y.length<=1000000):oA a b s=.ok (.str (x++y),s):=aI h h2 (jT hl)
theorem UY{l:FK}{i:Int}{k:Nat}(hk:l.length=k)(h0:0<k):∃t∈l,gq (.lst l) (.int (i % (k:Int)))=some t:=by
 have h1:0<=i % (k:Int):=ue _ (by omega)
 have h2:i % (k:Int)<k:=uf _ (by omega)
 have fM:(i % (k:Int)).toNat<l.length:=by omega
 refine⟨l[(i % (k:Int)).toNat],tY fM,?_⟩;show atT l (i % (k:Int))=_;unfold atT;rw[if_pos h1,if_pos (by omega),cj fM]
theorem Pc{l:B1}{i:Int}{k:Nat}(hk:l.length=k)(h0:0<k):∃c∈l,gq (.str l) (.int (i % (k:Int)))=some (.str [c]):=by
 have h1:0<=i % (k:Int):=ue _ (by omega)
 have h2:i % (k:Int)<k:=uf _ (by omega)
 have fM:(i % (k:Int)).toNat<l.length:=by omega
 refine⟨l[(i % (k:Int)).toNat],tY fM,?_⟩;show(atT l (i % (k:Int))).map _=_;unfold atT;rw[if_pos h1,if_pos (by omega),cj fM]
 rfl
def sA:B1:=Us
def sB:B1:=Ut
def sC:B1:=Uu
def JD(c:Nat):Bool:=Jg c&&decide (c∈jc/\c≠93/\c≠94/\c≠47/\c<128)
theorem YZ:(sA++sB++sC).all JD=true:=by decide +kernel
theorem Y0:sB.all (λc=>!decide (c∈sA)&&!decide (c∈sC))=true:=by decide +kernel
structure UZ(a b c:Nat):Prop where
 ga:JD a=true
 gb:JD b=true
 gc:JD c=true
 ab:a≠b
 bc:b≠c
abbrev j3(a b c:Nat):T:=.lst [.str [a],.str [b],.str [c]]
theorem Gp(cell:Int)(m:FV):∃a b c,UZ a b c/\cN (n+1) 54 [.int cell] m=.ok (j3 a b c,m):=by
 obtain⟨i,hi⟩:∃i,i=cell*16807 % 1000003:=⟨_,rfl⟩;obtain⟨a,ha,ea⟩:=Pc (l:=sA) (i:=i) (k:=24) rfl (by decide)
 obtain⟨b,hb,eb⟩:=Pc (l:=sB) (i:=i/24) (k:=27) rfl (by decide)
 obtain⟨c,hc,ec⟩:=Pc (l:=sC) (i:=i/648) (k:=33) rfl (by decide)
 have al:=gh.mp YZ;have di:=gh.mp Y0 b hb;simp only[dc,Kn,decide_eq_false_iff_not]at di;refine⟨a,b,c,⟨al a (by simp[ha]),al b (by simp[hb]),al c (by simp[hc]),λz=>di.1 (z▸ha),λz=>di.2 (z▸hc)⟩,?_⟩
 rw[w54];subst hi;exact sEq rfl rfl rfl (bS rfl (bS (md (ml rfl (by decide)) (by decide)) (bR (cP (ts:=[.str [a],.str [b],.str [c]]) (av (pE (t:=.str sA) rfl (md rfl (by decide)) ea) (av (pE (t:=.str sB) rfl (md (fd rfl (by decide)) (by decide)) eb) (av (pE (t:=.str sC) rfl (md (fd rfl (by decide)) (by decide)) ec) rfl))) rfl) rfl)))
theorem Al{gg:FG}{B:FS}{I:Nat->S->Prop}{N:Nat}:∀{ts:FK}{i:Nat}{s:S},(∀t∈ts,∀i s,i<N->I i s->∃r,gg t s.r=some r/\W (B ⟨r,s.m⟩) λp=>p.1=.nx/\I (i+1) p.2)->i+ts.length<=N->I i s->W (bP gg B ts s) λp=>p.1=.nx/\I (i+ts.length) p.2
 |[],i,s,_,_,h=>⟨_,rfl,rfl,h⟩
 |t::ts,i,s,k,hN,h=>by
  rw[dP]at hN;obtain⟨r,e1,⟨o,s1⟩,e2,e3,h1⟩:=k t (er ..) i s (by omega) h
  cases e3;obtain⟨p,e4,h2⟩:=Al (ts:=ts) (λt ht=>k t (eF _ ht)) (by omega) h1
  refine⟨p,?_,h2.1,by rw[dP,show i+(ts.length+1)=i+1+ts.length by omega];exact h2.2⟩
  rw[bP,e1];refine Eq.trans (bC _ _) ?_;show Res.bind (B ⟨r,s.m⟩) _=_;rw[e2];exact e4
theorem U0{i k:Int}(hk:0<k/\k<100):jt [.int (i % k)]=some (jv 0 (i % k).toNat)/\(jv 0 (i % k).toNat).length<k.toNat/\∀t∈jv 0 (i % k).toNat,∃j:Nat,j<100/\t=.int (0+(j:Nat)):=by
 have h1:0<=i % k:=ue _ (by omega)
 have h2:i % k<k:=uf _ (by omega)
 refine⟨jT (by omega),by unfold jv;rw[cD,j5];omega,λt ht=>?_⟩
 obtain⟨j,hj,rfl⟩:=fG.mp ht;exact⟨j,by have:=pZ.mp hj;omega,rfl⟩
theorem sq{s:S}{j:Nat}{a:FE}(h:a s=.ok (.int (0+(j:Nat)),s))(hj:j<100):bB (fY .Mult) a a s=.ok (.int ((0+(j:Nat))*(0+(j:Nat))),s):=aI h h (show HA (.int (0+(j:Nat))) (.int (0+(j:Nat)))=_ from jT (.inl (.inl ⟨by omega,by omega⟩)))
def VS(w:B1):Prop:=w.length<=100/\∀c∈w,c≠10
theorem Pd{a b c:Nat}(g:UZ a b c)(cell:Int)(m:FV):∃w,VS w/\cN (n+1) 55 [.int cell,j3 a b c] m=.ok (.str w,m):=by
 have PM:∀c,JD c=true->c≠10:=λc h z=>by subst z;exact absurd h (by decide +kernel)
 obtain⟨so,Pe⟩:∃so:FK,so=[.str [a],.str [b],.str [c],.str [32],.str [49],.str [45],.str [a]]:=⟨_,rfl⟩;have Y3:∀t∈so,∃d,t=.str [d]/\d≠10:=λt ht=>by
  rw[Pe]at ht;simp only[bA,iK,or_false]at ht;rcases ht with rfl|rfl|rfl|rfl|rfl|rfl|rfl
  ·exact⟨a,rfl,PM a g.ga⟩
  ·exact⟨b,rfl,PM b g.gb⟩
  ·exact⟨c,rfl,PM c g.gc⟩
  ·exact⟨_,rfl,by decide⟩
  ·exact⟨_,rfl,by decide⟩
  ·exact⟨_,rfl,by decide⟩
  ·exact⟨a,rfl,PM a g.ga⟩
 have Ph:so.length=7:=by rw[Pe];rfl
 rw[w55];obtain⟨r1,r2,r3⟩:=U0 (i:=cell) (k:=6) (by decide)
 have key:W (t55 (cN n) [.int cell,j3 a b c] m) λp=>∃w,VS w/\p=(.str w,m):=by
  refine kU rfl (ju rfl (bS (t:=.lst so) (by rw[Pe];rfl) (bS rfl (bS (md (ml rfl (by decide)) (by decide)) (dI (fB (W.of (x8 (av (md rfl (by decide)) rfl) r1) ?_)))))))
  refine(Al (N:=6) (I:=λk s=>∃w i u,s=⟨[sv (.int cell),sv (j3 a b c),sv (.lst so),sv (.str w),sv (.int i),u],[]⟩/\w.length=k/\∀c∈w,c≠10) (i:=0) (λt ht k s hk hI=>?_) (by rw[ud];exact Co r2) ⟨[],_,none,rfl,rfl,λ_ z=>nomatch z⟩).mono λp hp=>?_
  ·obtain⟨w,i,u,rfl,hw,GQ⟩:=hI
   obtain⟨j,hj,rfl⟩:=r3 t ht;obtain⟨t,ht,et⟩:=UY (i:=i) Ph (by decide)
   obtain⟨d,rfl,hd⟩:=Y3 t ht;refine⟨_,rfl,wS (qw (x:=w) rfl (aI (t:=.lst so) rfl (md rfl (by decide)) et) (by show w.length+1<=_;omega)) (W.of (iS (md (ad (ad (ml rfl (by decide)) (sq rfl hj)) rfl) (by decide))) ⟨rfl,w++[d],_,_,rfl,by rw[cC,hw];rfl,λc hc=>?_⟩)⟩
   rcases fk.mp hc with h|h
   ·exact GQ c h
   ·rw[dB.mp h];exact hd
  ·obtain⟨p1,w,i,u,e,hw,GQ⟩:=hp
   have hw:w.length=0+(jv 0 (cell % 6).toNat).length:=hw;have r2:(jv 0 (cell % 6).toNat).length<6:=r2;rw[e];exact⟨p1,bR (t:=.str w) rfl ⟨rfl,w,⟨by omega,GQ⟩,rfl⟩⟩
 obtain⟨p,e,w,hw,rfl⟩:=key;exact⟨w,hw,e⟩
theorem wy:∀(a b:List Itm),bz (a++b)=bz a++bz b
 |[],_=>rfl
 |i::a,b=>by
  show i.k.core++(j0 i.mn++bz (a++b))=_;rw[wy a b,bz,dN,dN]
def Y4(a b c:Nat):List IT:=[.pl a,.pl b,.pl c,.any,.set [a,b],.neg [a],.neg [b,c]]
theorem lU{c:Nat}(h:JD c=true):Jg c=true/\c∈jc/\c≠93/\c≠94/\c≠47/\c<128:=by
 unfold JD at h;rw[dc]at h;exact⟨h.1,of_decide_eq_true h.2⟩
theorem Pj{a b c:Nat}(g:UZ a b c):∀k∈Y4 a b c,IT.ok k:=by
 have s2:∀{x y:Nat},JD x=true->JD y=true->x≠y->Sg [x,y]:=λhx hy hn=>⟨by simp,by simp,by simp[hn],λd hd=>by
  simp only[bA,iK,or_false]at hd;rcases hd with rfl|rfl
  ·exact(lU hx).2
  ·exact(lU hy).2⟩
 intro k hk;simp only[Y4,bA,iK,or_false]at hk;rcases hk with rfl|rfl|rfl|rfl|rfl|rfl|rfl
 ·exact(lU g.ga).1
 ·exact(lU g.gb).1
 ·exact(lU g.gc).1
 ·trivial
 ·exact⟨s2 g.ga g.gb g.ab,.inr λd z=>by simp at z⟩
 ·exact⟨by simp,by simp,by simp,λd hd=>by rw[dB.mp hd];exact(lU g.ga).2⟩
 ·exact s2 g.gb g.gc g.bc
def U1(f:Bool)(its:List Itm)(_:Bool):Prop:=(∀i∈its,Itm.ok i)/\its.length<=8
theorem Gq{a b c:Nat}(g:UZ a b c)(cell:Int)(m:FV):∃f its k,U1 f its k/\cN (n+1) 56 [.int cell,j3 a b c] m=.ok (.str (cA f its k),m):=by
 obtain⟨so,Pe⟩:∃so:FK,so=(Y4 a b c).map λk=>T.str k.core:=⟨_,rfl⟩;obtain⟨sm,Rg⟩:∃sm:FK,sm=([49,49,42,43,63,49]:B1).map λk=>T.str (j0 k):=⟨_,rfl⟩;have Ph:so.length=7:=by rw[Pe];rfl
 have Y5:sm.length=6:=by rw[Rg];rfl
 have key:W (t56 (cN n) [.int cell,j3 a b c] m) λp=>∃f its k,U1 f its k/\p=(.str (cA f its k),m):=by
  obtain⟨t,ht,et⟩:=UY (l:=[.str [],.str [],.str [94]]) (i:=cell/4) (k:=3) rfl (by decide)
  obtain⟨f,rfl⟩:∃f,t=.str (fT f):=by
   simp only[bA,iK,or_false]at ht;rcases ht with rfl|rfl|rfl
   ·exact⟨false,rfl⟩
   ·exact⟨false,rfl⟩
   ·exact⟨true,rfl⟩
  have h4:(fT f).length<=1:=by cases f<;>decide
  obtain⟨r1,r2,r3⟩:=U0 (i:=cell) (k:=4) (by decide)
  refine kU rfl (ju rfl (dI (Uq (W.of (a:=(j3 a b c,(⟨[sv (.int cell),sv (j3 a b c),none,none,none,none,none,none,none],[]⟩:S))) rfl ⟨[sv (.int cell),sv (j3 a b c),none,none,none,none,sv (.str [a]),sv (.str [b]),sv (.str [c])],rfl,rfl,bS (t:=.lst so) (by rw[Pe];rfl) (bS (pE (t:=.lst [.str [],.str [],.str [94]]) rfl (md (fd rfl (by decide)) (by decide)) et) (bS (md (fd rfl (by decide)) (by decide)) (dI (fB (W.of (x8 (av (md rfl (by decide)) rfl) r1) ?_)))))⟩))))
  refine(Al (N:=4) (I:=λk s=>∃its i u,s=⟨[sv (.int cell),sv (j3 a b c),sv (.lst so),sv (.str (fT f++bz its)),sv (.int i),u,sv (.str [a]),sv (.str [b]),sv (.str [c])],[]⟩/\its.length=k/\∀i∈its,Itm.ok i) (i:=0) (λt ht k s hk hI=>?_) (by rw[ud];exact Co r2) ⟨[],_,none,by rw[show bz []=[]from rfl,cY];rfl,rfl,λ_ z=>nomatch z⟩).mono λp hp=>?_
  ·obtain⟨its,i,u,rfl,hw,GQ⟩:=hI
   obtain⟨j,hj,rfl⟩:=r3 t ht;obtain⟨y,hy⟩:∃y,y=(i*48271+(0+(j:Nat))*(0+(j:Nat))+3) % 65537:=⟨_,rfl⟩;obtain⟨t,ht,et⟩:=UY (i:=y) Ph (by decide)
   obtain⟨u,hu,eu⟩:=UY (i:=y/7) Y5 (by decide)
   rw[Pe]at ht;rw[Rg]at hu;obtain⟨ik,hik,rfl⟩:=fG.mp ht;obtain⟨mn,hmn,rfl⟩:=fG.mp hu;have ba:Itm.ok ⟨ik,mn⟩:=⟨Pj g ik hik,by simp at hmn;show mn=49\/mn=42\/mn=43\/mn=63;omega⟩
   have h1:=kX GQ;have h2:ik.core.length<=15:=vY ba;have h3:(j0 mn).length<=1:=by unfold j0;split<;>simp
   have ex:fT f++bz its++ik.core++j0 mn=fT f++bz (its++[⟨ik,mn⟩]):=by
    rw[wy,bz,show bz []=[]from rfl,cY];simp
   refine⟨_,rfl,wS (t:=.int y) (by rw[hy];exact md (ad (ad (ml rfl (by decide)) (sq rfl hj)) rfl) (by decide)) (W.of (iS (qw (qw (x:=fT f++bz its) rfl (pE (t:=.lst so) rfl (md rfl (by decide)) et) (by rw[cC];omega)) (pE (t:=.lst sm) (by rw[Rg];rfl) (md (fd rfl (by decide)) (by decide)) eu) (by rw[cC,cC];omega))) ⟨rfl,its++[⟨ik,mn⟩],_,_,by rw[ex];rfl,by rw[cC,hw];rfl,λx hx=>?_⟩)⟩
   rcases fk.mp hx with h|h
   ·exact GQ x h
   ·rw[dB.mp h];exact ba
  ·obtain⟨p1,its,i,u,e,hw,GQ⟩:=hp
   have hw:its.length=0+(jv 0 (cell % 4).toNat).length:=hw;have r2:(jv 0 (cell % 4).toNat).length<4:=r2;refine⟨p1,?_⟩;rw[e];obtain⟨t,ht,et⟩:=UY (l:=[.str [],.str [],.str [36]]) (i:=cell/12) (k:=3) rfl (by decide)
   obtain⟨k,rfl⟩:∃k,t=.str (bT k):=by
    simp only[bA,iK,or_false]at ht;rcases ht with rfl|rfl|rfl
    ·exact⟨false,rfl⟩
    ·exact⟨false,rfl⟩
    ·exact⟨true,rfl⟩
   have h1:=kX GQ;have h5:(bT k).length<=1:=by cases k<;>decide
   refine bR (t:=.str (fT f++bz its++bT k)) (qw rfl (pE (t:=.lst [.str [],.str [],.str [36]]) rfl (md (fd rfl (by decide)) (by decide)) et) (by rw[cC];omega)) ⟨rfl,f,its,k,⟨GQ,by omega⟩,?_⟩
   unfold cA;rw[dN]
 obtain⟨p,e,f,its,k,hp,rfl⟩:=key;exact⟨f,its,k,hp,by rw[w56];exact e⟩
def CV.wz:CV->Prop
 |.rw i=>∃j:Nat,i=(j:Nat)/\1<=j/\j<=9
 |.li f its b=>U1 f its b
 |.so j f its b=>1<=j/\j<=3/\U1 f its b
 |.nt _=>False
 |_=>True
noncomputable def CV.ny:CV->T
 |.al=>.tup [.str []]
 |.rw i=>.tup [.str [114,111,119],.int i]
 |.la=>.tup [.str [108,97,115,116]]
 |.li f its b=>.tup [.str [108,105,107,101],.str (cA f its b)]
 |.so j f its b=>.tup [.str [115,111,111,110],.int (j:Nat),.str (cA f its b)]
 |.nt _=>.non
theorem VT{s:S}{i j:Int}{a:FE}(h:a s=.ok (.int i,s)):D.bw (oE a (cI j)) s=.ok (decide (i=j),s):=by
 have e:oE a (cI j) s=.ok (.bl (decide (i=j)),s):=aI h (u:=.int j) rfl (Bt _ _);unfold D.bw;rw[e];rfl
theorem U3{i k:Int}(hk:0<k):∃j:Nat,1+i % k=(j:Nat)/\1<=j/\j<=k.toNat:=by
 have h1:0<=i % k:=ue _ (by omega)
 have h2:i % k<k:=uf _ hk;exact⟨(1+i % k).toNat,by omega,by omega,by omega⟩
theorem Gs{a b c:Nat}(g:UZ a b c)(cell:Int)(m:FV):∃x:CV,x.wz/\cN (n+2) 57 [.int cell,j3 a b c] m=.ok (x.ny,m):=by
 have key:W (t57 (cN (n+1)) [.int cell,j3 a b c] m) λp=>∃x:CV,x.wz/\p=(x.ny,m):=by
  obtain⟨i,hi⟩:∃i,i=cell*69623 % 1000003:=⟨_,rfl⟩;obtain⟨f1,i1,b1,p1,q1⟩:=Gq n g i [];obtain⟨f2,i2,b2,p2,q2⟩:=Gq n g (i/3) [];obtain⟨j1,z1,z2,z3⟩:=U3 (i:=i) (k:=9) (by decide)
  obtain⟨j2,y1,y2,y3⟩:=U3 (i:=i) (k:=3) (by decide)
  refine kU rfl (ju rfl (bS (md rfl (by decide)) (bS (t:=.int i) (by rw[hi];exact md (ml rfl (by decide)) (by decide)) ?_)))
  show WB _ ⟨[sv (.int cell),sv (j3 a b c),sv (.int (cell % 5)),sv (.int i)],[]⟩ _;refine VM (W.of (VT rfl) ⟨λ_=>?_,λ_=>?_⟩)
  ·exact bR (t:=(CV.rw (1+i % 9)).ny) (cP (av rfl (av (ad rfl (md rfl (by decide))) rfl)) rfl) ⟨rfl,.rw (1+i % 9),⟨j1,z1,z2,z3⟩,rfl⟩
  refine VM (W.of (VT rfl) ⟨λ_=>?_,λ_=>?_⟩)
  ·exact bR (t:=CV.la.ny) rfl ⟨rfl,.la,trivial,rfl⟩
  refine VM (W.of (VT rfl) ⟨λ_=>?_,λ_=>?_⟩)
  ·exact bR (t:=(CV.li f1 i1 b1).ny) (cP (av rfl (av (cE (ts:=[.int i,j3 a b c]) rfl q1) rfl)) rfl) ⟨rfl,.li f1 i1 b1,p1,rfl⟩
  refine VM (W.of (VT rfl) ⟨λ_=>?_,λ_=>?_⟩)
  ·refine bR (cP (ts:=[.str [115,111,111,110],.int (1+i % 3),.str (cA f2 i2 b2)]) (av rfl (av (ad rfl (md rfl (by decide))) (av (cE (ts:=[.int (i/3),j3 a b c]) (av (fd rfl (by decide)) rfl) q2) rfl))) rfl) ⟨rfl,.so j2 f2 i2 b2,⟨y2,y3,p2⟩,?_⟩
   rw[y1];rfl
  exact bR (t:=CV.al.ny) rfl ⟨rfl,.al,trivial,rfl⟩
 obtain⟨p,e,x,hx,rfl⟩:=key;exact⟨x,hx,by rw[w57];exact e⟩
def dig(k:Nat):B1:=[48+k]
theorem JE:(b9 10).all (λk=>decide (HW ((k:Nat):Int)=dig k/\((k:Nat):Int).natAbs.log2<1920))=true:=by decide +kernel
theorem k8{k:Nat}(h:k<10):strN [.int (k:Nat)]=some (.str (dig k)):=by
 have:=of_decide_eq_true (gh.mp JE k (pZ.mpr h))
 show gd _ (T.str (HW (k:Nat)))=_;rw[this.1];exact jT ⟨this.2,by show 1<=_;decide⟩
def U4(k:Nat):Bool:=decide (dig k≠[])&&(dig k).all (λc=>decide (c∈Bs))&&!pre [48] (dig k)&&decide (PySem.intText? ⟨(dig k).toArray⟩=some ((k:Nat):Int))
theorem Gu:(b9 9).all (λk=>U4 (k+1))=true:=by decide +kernel
theorem Gv{k:Nat}(h1:1<=k)(h2:k<=9):Nm (dig k) (k:Nat):=by
 have h:=gh.mp Gu (k-1) (pZ.mpr (by omega))
 rw[show k-1+1=k by omega]at h
 unfold U4 at h;simp only[dc,decide_eq_true_eq]at h;obtain⟨⟨⟨a,b⟩,c⟩,d⟩:=h;refine⟨λx hx=>of_decide_eq_true (gh.mp b x hx),a,by simpa using c,by show 1<=3;decide,?_⟩
 show(PySem.intText? ⟨(dig k).toArray⟩).bind _=_;rw[d];exact jT (by show 1<=640;decide)
def wK:CV->PC
 |.rw i=>.rp (.row (dig i.toNat) i)
 |.li f its b=>.rp (.like (cA f its b) (bL f its b))
 |.so j f its b=>.soon (dig j) (j:Nat) (cA f its b) (bL f its b)
 |_=>.last
abbrev tK(t:Bool):B1:=if t then[110,111,116,32]else[]
def Am(x:CV)(t:Bool):B1:=match x with
 |.al=>[]
 |x=>tK t++(wK x).txt []++[58,32]
theorem tL{d:T}{w:B1}{t:Bool}{G:T×FV->Prop}(h0:w≠[])(hl:w.length<=1000)(h:G (.str (tK t++w++[58,32]),[])):WB (af (aU (D.bw (oE (vF 2) (cS []))) (aB (cS [])) aC) (aB (oA (oA (oI (aR dQ (k2 (cS []) (cS [110,111,116,32]))) (aR sH (k1 (vF 1)))) (vF 2)) (cS [58,32])))) ⟨[sv d,sv (.bl t),sv (.str w)],[]⟩ G:=by
 have e:oE (vF 2) (cS []) ⟨[sv d,sv (.bl t),sv (.str w)],[]⟩=.ok (.bl false,⟨[sv d,sv (.bl t),sv (.str w)],[]⟩):=aI (t:=.str w) (u:=.str []) rfl rfl (by rw[mU,decide_eq_false h0])
 refine bN (by unfold D.bw;rw[e];rfl) (bR (qw (qw (x:=tK t) (by cases t<;>rfl) rfl ?_) rfl ?_) h)
 ·cases t
  ·show 0+_<=_;omega
  ·show 4+_<=_;omega
 ·rw[cC]
  cases t
  ·show 0+_+2<=_;omega
  ·show 4+_+2<=_;omega
theorem Pk{x:CV}{t:Bool}(h:x.wz):cN (n+1) 58 [x.ny,.bl t] m=.ok (.str (Am x t),m):=by
 rw[w58];cases x with
 |al=>exact sEq rfl rfl rfl (bS rfl (bN rfl (bN rfl (bN rfl (bY rfl (bR rfl rfl))))))
 |la=>exact sEq rfl rfl rfl (bS rfl (bN rfl (bN rfl (bN rfl (tL (by simp) (by simp) rfl)))))
 |rw i=>
  obtain⟨j,rfl,h1,h2⟩:=h;refine sEq rfl rfl rfl (bS rfl (bI rfl (qw (x:=[114,111,119,32]) rfl (cP (ts:=[.int (j:Nat)]) rfl (k8 (by omega))) (by show 4+1<=_;decide)) (bN rfl (bN rfl (tL (by simp) (by simp[dig]) ?_)))))
  show T.str _=T.str (tK t++(114::111::119::32::(dig ((j:Int)).toNat++[]))++[58,32]);rw[cY,wU];rfl
 |li f its b=>
  have hl:=jd (f:=f) (b:=b) h.1 h.2;refine sEq rfl rfl rfl (bS rfl (bN rfl (bN rfl (bI rfl (qw (qw (qw (x:=[]) (y:=[47]) rfl rfl (by decide)) (y:=cA f its b) rfl (by show 1+_<=_;omega)) (y:=[47]) rfl (by rw[cC];show 1+_+1<=_;omega)) (tL (by simp) (by simp;omega) ?_)))))
  show T.str _=T.str (tK t++(47::(cA f its b++47::[]))++[58,32]);simp
 |so j f its b=>
  obtain⟨h1,h2,h⟩:=h;have hl:=jd (f:=f) (b:=b) h.1 h.2;refine sEq rfl rfl rfl (bS rfl (bN rfl (bI rfl (qw (qw (x:=[115,111,111,110,32]) rfl (cP (ts:=[.int (j:Nat)]) rfl (k8 (by omega))) (by show 5+1<=_;decide)) (y:=[32]) rfl (by show 6+1<=_;decide)) (bI rfl (qw (qw (qw (y:=[47]) rfl rfl (by show 7+1<=_;decide)) (y:=cA f its b) rfl (by show 8+_<=_;omega)) (y:=[47]) rfl (by rw[cC];show 8+_+1<=_;omega)) (tL (by simp) (by simp[dig];omega) ?_)))))
  show T.str _=T.str (tK t++(115::111::111::110::32::(dig j++32::47::(cA f its b++47::[])))++[58,32]);simp
 |nt x=>exact h.elim
def An(x:CV)(t:Bool):CV:=if t then .nt x else x
theorem Gw{x:CV}{t:Bool}(h:x.wz)(hn:noOwn (An x t).val=true):cN (n+8) 59 [x.ny,.bl t] m=.ok ((An x t).val,m):=by
 rw[w59];cases x with
 |li f its b=>exact sEq rfl rfl hn (bS rfl (bN rfl (bN rfl (bI rfl (mT (ts:=[bL f its b]) (av (cE (ts:=[.str (cA f its b)]) rfl (dJ n h.1 h.2)) rfl) rfl) (bN rfl (by cases t with|true=>exact bY rfl (bR rfl rfl)|false=>exact bN rfl (bR rfl rfl)))))))
 |so j f its b=>exact sEq rfl rfl hn (bS rfl (bN rfl (bN rfl (bN rfl (bI rfl (mT (ts:=[.int (j:Nat),bL f its b]) (av (t:=.int (j:Nat)) rfl (av (cE (ts:=[.str (cA f its b)]) rfl (dJ n h.2.2.1 h.2.2.2)) rfl)) rfl) (by cases t with|true=>exact bY rfl (bR rfl rfl)|false=>exact bN rfl (bR rfl rfl)))))))
 |nt x=>exact h.elim
 |_=>cases t<;>exact kT (m':=[]) rfl (dH (s':=⟨[_,_,_],[]⟩) rfl rfl rfl) rfl
theorem tM{α:Type}(l:List α)(a j:Nat):bg l (some ((a:Nat):Int)) (some (((a+j:Nat)):Int))=(l.drop a).take j:=by
 unfold bg;rw[fK,fK];by_cases h:a<=l.length
 ·rw[AD h,J_,mC];omega
 ·rw[Cr (by omega),Cr (by omega),lr,yC (show l.length<=a by omega)];simp
def U5(f:Bool)(its:List Itm)(b:Bool):T->T
 |.str r=>.bl (pI r f its b)
 |_=>.non
section
variable{rows:Ap}{k:Nat}{m:FV}
theorem Gx(hk:k<rows.length):gq (.lst (rows.map T.str)) (.int (k:Nat))=some (.str (rows.getD k [])):=by
 show atT (rows.map T.str) ((k:Nat):Int)=_;rw[ee (by rw[cD];exact hk),eG,j6,cj hk];rfl
theorem By{x:CV}(h:x.wz)(hr:∀row∈rows,row.length<=1000)(hk:k<rows.length)(hL:rows.length<=1000):cN (n+8) 60 [x.ny,.lst (rows.map T.str),.int (k:Nat)] m=.ok (.bl (x.jn rows k),m):=by
 have vB:az (rows.map T.str)=true:=e_ rows;have wB:∀d:T,noOwn d=true->az [d,.lst (rows.map T.str),.int (k:Nat)]=true:=λd hd=>by
  show(noOwn d&&(az (rows.map T.str)&&(true&&true)))=true;rw[vB,hd];rfl
 rw[w60];cases x with
 |al=>exact sEq (wB _ rfl) rfl rfl (bN rfl (bN rfl (bN rfl (bN rfl (bR rfl rfl)))))
 |la=>exact sEq (wB _ rfl) rfl rfl (bN rfl (bY rfl (bR rfl (congrArg T.bl (decide_eq_decide.mpr (by rw[cD];omega))))))
 |rw i=>exact sEq (wB _ rfl) rfl rfl (bY rfl (bR rfl (congrArg T.bl (decide_eq_decide.mpr ⟨Eq.symm,Eq.symm⟩))))
 |li f its b=>exact sEq (wB _ rfl) rfl rfl (bN rfl (bN rfl (bY rfl (bR (cE (ts:=[bL f its b,.str (rows.getD k [])]) (av (cE (ts:=[.str (cA f its b)]) rfl (dJ n h.1 h.2)) (av (aI rfl rfl (Gx hk)) rfl)) (je (n+2) (by rw[j6,cj hk];exact hr _ (tY hk)) h.2)) rfl))))
 |so j f its b=>
  obtain⟨h1,h2,h⟩:=h;have Pn:bg (rows.map T.str) (some ((k:Int)+1)) (some ((k:Int)+1+(j:Nat)))=((rows.drop (k+1)).take j).map T.str:=by
   have:=tM (rows.map T.str) (k+1) j
   rw[show(((k+1:Nat)):Int)=(k:Int)+1 by omega,show(((k+1+j:Nat)):Int)=(k:Int)+1+(j:Nat) by omega]at this
   rw[this,B3,tZ]
  have e3:mQ [.lst ((((rows.drop (k+1)).take j).map T.str).map (U5 f its b))]=some (.bl (((rows.drop (k+1)).take j).any λr=>pI r f its b)):=by
   rw[iL,show(U5 f its b∘T.str)=λr=>T.bl (pI r f its b)from rfl];simp only[mQ,A6,lQ];rw[Cv,Ax];rfl
  refine sEq (wB _ rfl) rfl rfl (bN rfl (bN rfl (bN rfl (bY rfl (bR (cP (av (VO (ts:=((rows.drop (k+1)).take j).map T.str) (by rw[<- Pn];rfl) ?_ rfl (f6 λt ht=>?_)) rfl) e3) rfl)))))
  ·rw[cD,p_,mC];omega
  ·obtain⟨r,hr',rfl⟩:=fG.mp ht
   exact⟨[none,sv (.str r),sv (CV.so j f its b).ny],[none,sv (.str r),sv (CV.so j f its b).ny],rfl,cE (ts:=[bL f its b,.str r]) (av (cE (ts:=[.str (cA f its b)]) rfl (dJ n h.1 h.2)) rfl) (je (n+2) (hr r (Ka (yD hr'))) h.2)⟩
 |nt x=>exact h.elim
end
def bM(k:Nat):B1:=[108,105,110,101,32]++dig k
def jA:Nat->List (CV×Bool)->List (T×T)
 |_,[]=>[]
 |k,z::zs=>((An z.1 z.2).val,.str (bM k))::jA (k+1) zs
abbrev pR(zs:List (CV×Bool)):List CV:=zs.map λz=>An z.1 z.2
abbrev dT(z:CV×Bool):T:=.tup [z.1.ny,.bl z.2]
theorem Y6(i:Int)(b:Bool):jf (eg i b)=[]:=rfl
theorem U6(t:T):jf (b8 t)=[t]:=rfl
theorem U7(i:Int):jf (bG i)=[]:=rfl
theorem Y7(i:Int):jf (kZ i)=[]:=rfl
theorem Y8:jf fD=[]:=rfl
theorem Y9(i:Int):jf (iJ i)=[]:=rfl
theorem Y_:jf k7=[]:=rfl
theorem Po(e:T):(jf e).length<=1:=by
 unfold jf;split
 ·split
  ·rw[p_];omega
  ·simp
 ·simp
theorem VU:∀log:FK,(log.flatMap jf).length<=log.length
 |[]=>dj _
 |e::log=>by
  have:=VU log
  have:=Po e
  rw[nG,cC,dP];omega
theorem JF{rows:Ap}{k:Nat}(x:CV)(t:Bool):aH .NotEq (.bl (x.jn rows k)) (.bl t)=some (.bl ((An x t).jn rows k)):=by
 show some (T.bl (!(x.jn rows k == t)))=_;cases t with
 |true=>show _=some (T.bl (!x.jn rows k));cases x.jn rows k<;>rfl
 |false=>show _=some (T.bl (x.jn rows k));cases x.jn rows k<;>rfl
section
variable{rows:Ap}{all:List (CV×Bool)}{at_:Nat}
abbrev dS(rows:Ap)(all:List (CV×Bool))(log:FK)(u4 u5 u6 u7 u8:Option C):S:=⟨[sv (.lst (all.map dT)),sv (.lst (rows.map T.str)),some (.ol (log.flatMap jf)),some (.ol log),u4,u5,u6,u7,u8],[]⟩
theorem Gy(n:Nat)(ha:∀z∈all,z.1.wz)(hr:∀row∈rows,row.length<=1000)(hk:at_<rows.length)(hL:rows.length<=1000):∀(zs:List (CV×Bool))(k:Nat)(log:FK)(u5 u6 u7 u8:Option C),all.drop k=zs->k+zs.length<=9->log.length+2*zs.length<=100000->W (bP (setG 5) (af (uL (dh [7,8]) (oI (vF 0) (vF 5)))
  (af (aG 6 (bB (aH .NotEq) (ao (cN (n+8) 60) [] (k3 (vF 7) (vF 1) (vF 4))) (vF 8)))
  (af (dU 3 (aR bQ (k3 (cS [109,101,101,116]) (oA (vF 5) (cI 1)) (vF 6))))
  (aU (D.tB (vF 6)) (af (dU 2 (oA (cS [108,105,110,101,32]) (aR strN (k1 (vF 5))))) (dU 3 (aR bQ (k2 (cS [103,105,118,101]) (lF 2 (cu gT (cI 1))))))) aC)))) ((qb k zs.length).map λq=>T.int (q:Nat)) (dS rows all log (sv (.int (at_:Nat))) u5 u6 u7 u8)) λp=>p.1=.nx/\∃u5 u6 u7 u8,p.2=dS rows all (log++iz k ((jA k zs).zip ((pR zs).map λx=>x.jn rows at_))) (sv (.int (at_:Nat))) u5 u6 u7 u8
 |[],k,log,u5,u6,u7,u8,_,_,_=>⟨_,rfl,rfl,u5,u6,u7,u8,by rw[show jA k []=[]from rfl,List.zip_nil_left,iz,cY]⟩
 |z::zs,k,log,u5,u6,u7,u8,hd,hk9,hl=>by
  rw[dP]at hl hk9;have qv:k<all.length:=by
   have:=congrArg wL hd
   rw[mC,dP]at this;omega
  rw[nF qv]at hd;injection hd with hz hd
  have hzd:z.1.wz:=by rw[<- hz];exact ha _ (tY qv)
  have e1:gq (.lst (all.map dT)) (.int (k:Nat))=some (dT z):=by
   show atT (all.map dT) ((k:Nat):Int)=_;rw[ee (by rw[cD];exact qv),eG,cj qv,hz];rfl
  have hg:=VU log;obtain⟨b,hb⟩:∃b,b=(An z.1 z.2).jn rows at_:=⟨_,rfl⟩;have f1:(log++[eg ((k:Nat)+1) b]).flatMap jf=log.flatMap jf:=by rw[uc,nG,Y6];simp
  have go:∀Gz u5 u6 u7 u8,Gz=log++[eg ((k:Nat)+1) b]++(if b then[b8 (.str (bM k))]else[])->W (bP (setG 5) _ ((qb (k+1) zs.length).map λq=>T.int (q:Nat)) (dS rows all Gz (sv (.int (at_:Nat))) u5 u6 u7 u8)) λp=>p.1=.nx/\∃u5 u6 u7 u8,p.2=dS rows all (log++iz k ((jA k (z::zs)).zip ((pR (z::zs)).map λx=>x.jn rows at_))) (sv (.int (at_:Nat))) u5 u6 u7 u8:=λGz _ _ _ _ BA=>by
   refine(Gy n ha hr hk hL zs (k+1) Gz _ _ _ _ hd (by omega) (by rw[BA];cases b<;>simp<;>omega)).mono λp hp=>⟨hp.1,?_⟩
   obtain⟨_,v5,v6,v7,v8,e⟩:=hp;refine⟨v5,v6,v7,v8,e.trans ?_⟩
   have:Gz++iz (k+1) ((jA (k+1) zs).zip ((pR zs).map λx=>x.jn rows at_))=log++iz k ((jA k (z::zs)).zip ((pR (z::zs)).map λx=>x.jn rows at_)):=by
    show _=log++([eg ((k:Nat)+1) ((An z.1 z.2).jn rows at_)]++(if(An z.1 z.2).jn rows at_ then[b8 (.str (bM k))]else[])++iz (k+1) ((jA (k+1) zs).zip ((pR zs).map λx=>x.jn rows at_)))
    rw[BA,<- hb];simp
   rw[this]
  rw[dP,AB,dz];refine o_ rfl (gY (Uq (W.of (aI (t:=.lst (all.map dT)) (u:=.int (k:Nat)) rfl rfl e1) ⟨_,rfl,rfl,wS (t:=.bl b) (by rw[hb];exact pE (cE (ts:=[z.1.ny,.lst (rows.map T.str),.int (at_:Nat)]) rfl (By n hzd hr hk hL)) rfl (JF z.1 z.2)) (wA (ts:=log) rfl (cP (t:=eg ((k:Nat)+1) b) rfl rfl) (by omega) ?_)⟩)))
  cases b with
  |false=>
   have g:=go (log++[eg ((k:Nat)+1) false]) (sv (.int (k:Nat))) (sv (.bl false)) (sv z.1.ny) (sv (.bl z.2)) (by rw[if_neg dC,cY])
   unfold dS at g;rw[f1]at g;exact fL rfl ⟨_,rfl,rfl,g⟩
  |true=>
   have g:=go (log++[eg ((k:Nat)+1) true]++[b8 (.str (bM k))]) (sv (.int (k:Nat))) (sv (.bl true)) (sv z.1.ny) (sv (.bl z.2)) (by rw[if_pos rfl])
   unfold dS at g;rw[uc,f1,nG,U6]at g;obtain⟨s,hs⟩:∃s:S,s=⟨[sv (.lst (all.map dT)),sv (.lst (rows.map T.str)),some (.ol (log.flatMap jf++[.str (bM k)])),some (.ol (log++[eg ((k:Nat)+1) true])),sv (.int (at_:Nat)),sv (.int (k:Nat)),sv (.bl true),sv z.1.ny,sv (.bl z.2)],[]⟩:=⟨_,rfl⟩;have ep:lF 2 (cu gT (cI 1)) s=.ok (.str (bM k),s):=by
    rw[hs];unfold lF;refine Eq.trans (bC _ _) ?_;refine Eq.trans (bC _ _) ?_;refine Eq.trans (bC _ _) ?_;show Res.bind (aY (atT (log.flatMap jf++[T.str (bM k)]) (-1))) _=_;rw[nu];rfl
   refine vC rfl (wA (t:=.str (bM k)) rfl (qw (x:=[108,105,110,101,32]) rfl (cP (ts:=[.int (k:Nat)]) rfl (k8 (by omega))) (by show 5+1<=_;decide)) (by omega) ?_)
   show W (dU _ _ ⟨[sv (.lst (all.map dT)),sv (.lst (rows.map T.str)),some (.ol (log.flatMap jf++[.str (bM k)])),some (.ol (log++[eg ((k:Nat)+1) true])),sv (.int (at_:Nat)),sv (.int (k:Nat)),sv (.bl true),sv z.1.ny,sv (.bl z.2)],[]⟩) _;rw[<- hs];refine W.of (vH (i:=3) (GR:=log++[eg ((k:Nat)+1) true]) (ts:=log++[eg ((k:Nat)+1) true]) (t:=b8 (.str (bM k))) (by rw[hs];rfl) (cP (ts:=[.str [103,105,118,101],.str (bM k)]) (av rfl (av ep rfl)) rfl) (by rw[hs];rfl) (by rw[cC];show _+1<_;omega)) ⟨rfl,?_⟩
   rw[hs];exact g
end
section
variable{rows:Ap}{all:List (CV×Bool)}{l:List (T×T)}{bj:List CV}
def pS(rows:Ap)(l:List (T×T))(bj:List CV)(k:Nat)(x:B1):FK:=[bG (k:Nat),kZ ((k:Nat)+1)]++iz 0 (l.zip (bj.map λx=>x.jn rows k))++[b8 (.str x),fD]
def iA(rows:Ap)(l:List (T×T))(bj:List CV):Nat->Ap->FK
 |_,[]=>[]
 |k,x::r=>pS rows l bj k x++iA rows l bj (k+1) r
theorem Ao:∀(r:Ap)(k:Nat),[bG (k:Nat)]++gJ rows l bj k r=iA rows l bj k r++[bG ((k+r.length:Nat):Int)]
 |[],k=>by show[bG (k:Nat)]++[]=[]++[bG ((k+0:Nat):Int)];rfl
 |x::r,k=>by
  have ih:=Ao r (k+1);show[bG (k:Nat)]++(gI rows l bj k (k:Nat) x++gJ rows l bj (k+1) r)=pS rows l bj k x++iA rows l bj (k+1) r++[bG ((k+(r.length+1):Nat):Int)];rw[dN,show k+(r.length+1)=k+1+r.length by omega,<- ih]
  unfold gI pS;rw[show((k+1:Nat):Int)=(k:Nat)+1 by omega]
  simp
theorem BB(k:Nat):(iz 0 (l.zip (bj.map λx=>x.jn rows k))).length<=2*l.length:=by
 have:=pK 0 (l.zip (bj.map λx=>x.jn rows k))
 rw[tW]at this;omega
theorem k9:∀(zs:List (CV×Bool))(k:Nat),(jA k zs).length=zs.length
 |[],_=>rfl
 |z::zs,k=>by show(jA (k+1) zs).length+1=_;rw[k9 zs (k+1)];rfl
theorem Za{i:Nat}{a:FL}{s s1:S}{ts:FK}(h:a s=.ok (ts,s1)):gj i a s=.ok (.nx,jr s1 i (.ol ts)):=by unfold gj;rw[h];rfl
theorem JG(L:Nat)(h:L<=1000):jt [.int (L:Nat)]=some ((qb 0 L).map λq=>T.int (q:Nat)):=by
 have:jt [.int (L:Nat)]=some (jv 0 (((L:Nat):Int)).toNat):=jT ⟨by omega,by omega⟩
 rw[this,wU];unfold jv;rw[Ke];exact congrArg some (AA λq _=>by rw[Cw])
theorem Aq(n:Nat)(ha:∀z∈all,z.1.wz)(hr:∀row∈rows,row.length<=1000)(hL:rows.length<=1000)(h9:all.length<=9):∀(r:Ap)(k:Nat)(log:FK)(u4 u5 u6 u7 u8:Option C),rows.drop k=r->log.length+(2*all.length+4)*r.length<=100000->W (bP (setG 4) (af (gj 3 (o2 Bh (vF 3) (aR dQ (k2 (aR bQ (k2 (cS [119,97,110,116]) (oA (vF 4) (cI 1)))) (aR bQ (k2 (cS [116,97,107,101]) (oA (vF 4) (cI 1))))))))
 (af (fW (tR jt (k1 (aR bJ (k1 (vF 0))))) (setG 5) (af (uL (dh [7,8]) (oI (vF 0) (vF 5)))
  (af (aG 6 (bB (aH .NotEq) (ao (cN (n+8) 60) [] (k3 (vF 7) (vF 1) (vF 4))) (vF 8)))
  (af (dU 3 (aR bQ (k3 (cS [109,101,101,116]) (oA (vF 5) (cI 1)) (vF 6))))
  (aU (D.tB (vF 6)) (af (dU 2 (oA (cS [108,105,110,101,32]) (aR strN (k1 (vF 5))))) (dU 3 (aR bQ (k2 (cS [103,105,118,101]) (lF 2 (cu gT (cI 1))))))) aC)))))
 (af (dU 2 (oI (vF 1) (vF 4)))
 (gj 3 (o2 Bh (vF 3) (aR dQ (k2 (aR bQ (k2 (cS [103,105,118,101]) (oI (vF 1) (vF 4)))) (aR bQ (k1 (cS [111,118,101,114])))))))))) ((qb k r.length).map λq=>T.int (q:Nat)) (dS rows all log u4 u5 u6 u7 u8)) λp=>p.1=.nx/\∃u4 u5 u6 u7 u8,p.2=dS rows all (log++iA rows (jA 0 all) (pR all) k r) u4 u5 u6 u7 u8
 |[],k,log,u4,u5,u6,u7,u8,_,_=>⟨_,rfl,rfl,u4,u5,u6,u7,u8,by rw[iA,cY]⟩
 |x::r,k,log,u4,u5,u6,u7,u8,hd,hl=>by
  rw[dP,yK]at hl;have qv:k<rows.length:=by
   have:=congrArg wL hd
   rw[mC,dP]at this;omega
  rw[nF qv]at hd;injection hd with hx hd
  have ex:gq (.lst (rows.map T.str)) (.int (k:Nat))=some (.str x):=by
   rw[Gx qv,j6,cj qv,<- hx];rfl
  have hg:=VU log;have f1:(log++[bG (k:Nat),kZ ((k:Nat)+1)]).flatMap jf=log.flatMap jf:=by rw[uc,nG,nG,U7,Y7];simp
  obtain⟨A,hA⟩:∃A,A=log++[bG (k:Nat),kZ ((k:Nat)+1)]:=⟨_,rfl⟩;have hAl:A.length=log.length+2:=by rw[hA];simp
  rw[<- hA]at f1;have in1:=Gy n ha hr qv hL all 0 A u5 u6 u7 u8 lq (by omega) (by omega)
  unfold dS at in1;rw[f1]at in1;obtain⟨B,hB⟩:∃B,B=A++iz 0 ((jA 0 all).zip ((pR all).map λx=>x.jn rows k)):=⟨_,rfl⟩;rw[<- hB]at in1;have hBl:B.length<=log.length+2+2*all.length:=by
   have:=BB (rows:=rows) (l:=jA 0 all) (bj:=pR all) k
   rw[k9]at this;rw[hB,cC,hAl];omega
  have hgB:=VU B;rw[dP,AB,dz];refine o_ rfl (wOw (ts:=A) (YR (t:=.lst log) (u:=.lst [bG (k:Nat),kZ ((k:Nat)+1)]) rfl rfl (by rw[hA];exact jT (by show _+2<=_;omega))) (gY (fB (W.of (x8 (ts:=[.int (all.length:Nat)]) (av (cP (ts:=[.lst (all.map dT)]) rfl (by show some (T.int ((all.map dT).length:Nat))=_;rw[cD])) rfl) (JG _ (by omega))) (in1.mono λp hp=>⟨hp.1,?_⟩)))))
  obtain⟨_,v5,v6,v7,v8,e⟩:=hp;rw[e];refine wA (t:=.str x) rfl (aI (t:=.lst (rows.map T.str)) (u:=.int (k:Nat)) rfl rfl ex) (by omega) ?_
  have ih:=Aq n ha hr hL h9 r (k+1) (B++[b8 (.str x),fD]) (sv (.int (k:Nat))) v5 v6 v7 v8 hd (by rw[cC];show _+2+_<=_;omega)
  unfold dS at ih;rw[uc,nG,nG,U6,Y8]at ih;refine W.of (Za (ts:=B++[b8 (.str x),fD]) (YR (t:=.lst B) (u:=.lst [b8 (.str x),fD]) rfl (cP (ts:=[b8 (.str x),fD]) (av (cP (ts:=[.str [103,105,118,101],.str x]) (av rfl (av (aI (t:=.lst (rows.map T.str)) (u:=.int (k:Nat)) rfl rfl ex) rfl)) rfl) rfl) rfl) (jT (by show _+2<=_;omega)))) ⟨rfl,ih.mono λp hp=>⟨hp.1,?_⟩⟩
  obtain⟨_,y4,y5,y6,y7,y8,q⟩:=hp;refine⟨y4,y5,y6,y7,y8,q.trans ?_⟩
  have:B++[b8 (.str x),fD]++iA rows (jA 0 all) (pR all) (k+1) r=log++iA rows (jA 0 all) (pR all) k (x::r):=by
   show _=log++(pS rows (jA 0 all) (pR all) k x++iA rows (jA 0 all) (pR all) (k+1) r);unfold pS;rw[hB,hA];simp
  rw[this]
theorem yk:∀(zs:List (CV×Bool))(k:Nat),(∀z∈zs,z.1.wz)->∀q∈jA k zs,∃z∈zs,∃i,q=((An z.1 z.2).val,.str (bM i))
 |[],_,_,q,hq=>by cases hq
 |z::zs,k,h,q,hq=>by
  rcases bA.mp hq with e|hq
  ·exact⟨z,er ..,k,e⟩
  ·obtain⟨y,hy,i,e⟩:=yk zs (k+1) (λz hz=>h z (eF _ hz)) q hq
   exact⟨y,eF _ hy,i,e⟩
theorem JH(ha:∀z∈all,z.1.wz)(hr:∀row∈rows,row.length<=1000)(hL:rows.length<=100)(h9:all.length<=9):cN (n+9) 61 [.lst (all.map dT),.lst (rows.map T.str)] m=.ok (.lst [.lst ((dM rows (jA 0 all) (pR all)).flatMap jf),.lst (dM rows (jA 0 all) (pR all))],m):=by
 have hw:∀q∈jA 0 all,noOwn q.2=true:=λq hq=>by
  obtain⟨_,_,i,rfl⟩:=yk all 0 ha q hq;rfl
 have ba:=lT (rows:=rows) (bj:=pR all) hw;have hz:∀z∈all.map dT,noOwn z=true:=λt ht=>by
  obtain⟨z,hz,rfl⟩:=fG.mp ht
  have:noOwn z.1.ny=true:=by cases z.1<;>rfl
  show(noOwn z.1.ny&&(true&&true))=true;rw[this];rfl
 obtain⟨g,hg⟩:∃g,g=iA rows (jA 0 all) (pR all) 0 rows:=⟨_,rfl⟩;have BA:dM rows (jA 0 all) (pR all)=g++[bG (rows.length:Nat),iJ (rows.length:Nat),k7]:=by
  unfold dM
  have:=Ao (rows:=rows) (l:=jA 0 all) (bj:=pR all) rows 0
  rw[ud]at this;rw[show([bG 0]:FK)=[bG ((0:Nat):Int)]from rfl,this,hg];simp
 have hm:(2*all.length+4)*rows.length<=22*100:=yL (by omega) hL
 have hd:=Aq n ha hr (by omega) h9 rows 0 [] none none none none none lq (by show 0+_<=_;omega)
 rw[rE,<- hg]at hd;have PQ:g.length<=10000:=by
  have h1:=jU (rows:=rows) (l:=jA 0 all) (bj:=pR all) rows 0
  have:=congrArg wL BA
  unfold dM at this;rw[k9]at h1;simp at this;omega
 have Zb:(dM rows (jA 0 all) (pR all)).flatMap jf=g.flatMap jf:=by
  rw[BA,uc,nG,nG,nG,U7,Y9,Y_];simp
 have gno:=Gk ba;have lno:az (dM rows (jA 0 all) (pR all))=true:=c7 λt ht=>(ba t ht).no;have ck:bJ [.lst (rows.map T.str)]=some (.int (rows.length:Nat)):=by
  show some (T.int ((rows.map T.str).length:Nat))=_;rw[cD]
 rw[w61];refine sEq ?_ rfl ?_ (dI (W.of rfl ⟨rfl,dI (W.of rfl ⟨rfl,dI (fB (W.of (x8 (ts:=[.int (rows.length:Nat)]) (av (cP rfl ck) rfl) (JG _ (by omega))) (hd.mono λp hp=>⟨hp.1,?_⟩)))⟩)⟩))
 ·show(az (all.map dT)&&(az (rows.map T.str)&&true))=true
  rw[c7 hz,e_];rfl
 ·show(az _&&(az _&&true))=true
  rw[gno,lno];rfl
 ·obtain⟨_,v4,v5,v6,v7,v8,e⟩:=hp
  rw[e,Zb,BA];refine Bp (cP (ts:=[.lst (g.flatMap jf),.lst (g++[bG (rows.length:Nat),iJ (rows.length:Nat),k7])]) (av rfl (av (aI (t:=.lst g) (u:=.lst [bG (rows.length:Nat),iJ (rows.length:Nat),k7]) rfl (cP (ts:=[bG (rows.length:Nat),iJ (rows.length:Nat),k7]) (av (cP (ts:=[.str [119,97,110,116],.int ((rows.length:Nat)+1)]) (av rfl (av (ad (cP rfl ck) rfl) rfl)) rfl) (av (cP (ts:=[.str [110,111,110,101],.int ((rows.length:Nat)+1)]) (av rfl (av (ad (cP rfl ck) rfl) rfl)) rfl) rfl)) rfl) (by rw[add_l];exact jT (by show _+3<=_;omega))) rfl)) rfl) rfl
end
def yl(x:CV)(t:Bool)(k:Nat):LN:=match x with
 |.al=>.bare (.say (bM k))
 |x=>.full (if t then .no (wK x)else .pc (wK x)) (.say (bM k))
structure ZO(z:CV×Bool):Prop where
 d:z.1.wz
 al:z.1=.al->z.2=false
theorem wdB:(b9 10).all (λk=>(bM k).all λc=>decide (c∈jc/\c≠34/\c≠10))=true:=by decide +kernel
theorem Pp{k:Nat}(hk:k<10):YF (bM k)/\10∉bM k:=by
 have h:=gh.mp (gh.mp wdB k (pZ.mpr hk));exact⟨⟨λc hc=>let q:=of_decide_eq_true (h c hc);⟨q.1,q.2.1⟩,by show 6<=40;decide⟩,λz=>(of_decide_eq_true (h 10 z)).2.2 rfl⟩
theorem Ar:∀x:CV,noOwn x.val=true
 |.al=>rfl
 |.rw _=>rfl
 |.la=>rfl
 |.li f its b=>by show(noOwn (bL f its b)&&true)=true;rw[fP];rfl
 |.so j f its b=>by show(true&&(noOwn (bL f its b)&&true))=true;rw[fP];rfl
 |.nt c=>by show(noOwn c.val&&true)=true;rw[Ar c];rfl
theorem U8{x:CV}(h:x.wz):(wK x).ok:=by
 cases x with
 |rw i=>
  obtain⟨j,rfl,h1,h2⟩:=h;show Nm (dig ((j:Int)).toNat) (j:Nat)/\_;rw[wU];exact⟨Gv h1 h2,by omega,by omega⟩
 |li f its b=>exact LG h.1 h.2
 |so j f its b=>exact⟨Gv h.1 (by have:=h.2.1;omega),by have:=h.1;omega,by have:=h.2.1;omega,LG h.2.2.1 h.2.2.2⟩
 |al=>trivial
 |la=>trivial
 |nt x=>exact h.elim
theorem GA{x:CV}(h:x.wz)(h0:x≠.al):(wK x).val=x.val:=by
 cases x with
 |al=>exact absurd rfl h0
 |nt x=>exact h.elim
 |_=>rfl
theorem GC{z:CV×Bool}{k:Nat}(h:ZO z):(yl z.1 z.2 k).val=eB ((An z.1 z.2).val,.str (bM k)):=by
 obtain⟨x,t⟩:=z;have hd:x.wz:=h.d;by_cases h0:x=.al
 ·subst h0
  have:t=false:=h.al rfl
  subst this;rfl
 ·have e:yl x t k=.full (if t then .no (wK x)else .pc (wK x)) (.say (bM k)):=by
   cases x<;>first|(exact absurd rfl h0)|rfl
  show(yl x t k).val=_;rw[e];cases t with
  |true=>show T.obj _ [T.obj _ [(wK x).val],_]=_;rw[GA hd h0];rfl
  |false=>show T.obj _ [(wK x).val,_]=_;rw[GA hd h0];rfl
theorem U9{z:CV×Bool}{k:Nat}(h:ZO z)(hk:k<10):Lk (yl z.1 z.2 k):=by
 have hv:=GC (k:=k) h;have hc:noOwn (yl z.1 z.2 k).cond=true:=by
  have:(yl z.1 z.2 k).cond=(An z.1 z.2).val:=by injection hv with _ hv;injection hv
  rw[this];exact Ar _
 have hd:noOwn (yl z.1 z.2 k).mV=true:=by
  have:(yl z.1 z.2 k).mV=.obj 16 [.str (bM k)]:=by injection hv with _ hv;injection hv with _ hv;injection hv
  rw[this];rfl
 obtain⟨x,t⟩:=z;have hx:x.wz:=h.d;have w:=(Pp hk).1;refine UH ?_ hc hd;have p:=U8 hx;cases x<;>first|exact w|(cases t<;>exact⟨p,w⟩)
theorem GD(x:CV)(b:B1):(wK x).txt b=(wK x).txt []++b:=by
 cases x with
 |rw i=>show 114::111::119::32::(_++b)=114::111::119::32::(_++[])++b;simp
 |li f its c=>show 47::(_++47::b)=47::(_++47::[])++b;simp
 |so j f its c=>show 115::111::111::110::32::(_++32::47::(_++47::b))=115::111::111::110::32::(_++32::47::(_++47::[]))++b;simp
 |_=>rfl
abbrev Zc(k:Nat):B1:=[115,97,121,32,34,108,105,110,101,32]++dig k++[34]
theorem ym{x:CV}{t:Bool}{k:Nat}:(yl x t k).txt []=Am x t++Zc k:=by
 by_cases h0:x=.al
 ·subst h0
  show 115::97::121::32::34::(bM k++34::[])=[]++_;simp[bM]
 ·have e:yl x t k=.full (if t then .no (wK x)else .pc (wK x)) (.say (bM k)):=by
   cases x<;>first|(exact absurd rfl h0)|rfl
  have e2:Am x t=tK t++(wK x).txt []++[58,32]:=by
   cases x<;>first|(exact absurd rfl h0)|rfl
  rw[e,e2];cases t with
  |true=>
   show 110::111::116::32::(wK x).txt (58::32::115::97::121::32::34::(bM k++34::[]))=_;rw[GD];simp[bM,tK]
  |false=>
   show(wK x).txt (58::32::115::97::121::32::34::(bM k++34::[]))=_;rw[GD];simp[bM,tK]
theorem yn{x:CV}{t:Bool}(h:x.wz):(Am x t).length<=200/\10∉Am x t:=by
 have nt:(tK t).length<=4/\10∉tK t:=by cases t<;>decide
 have px:∀{f its b},U1 f its b->(cA f its b).length<=130/\10∉cA f its b:=λh=>⟨jd h.1 h.2,λz=>absurd (pG h.1 10 z).1 (by decide)⟩
 cases x with
 |al=>exact⟨iN _,λz=>by cases z⟩
 |la=>
  show(tK t++[108,97,115,116]++[58,32]).length<=_/\10∉tK t++[108,97,115,116]++[58,32];cases t<;>decide
 |rw i=>
  show(tK t++114::111::119::32::(dig i.toNat++[])++[58,32]).length<=_/\10∉tK t++114::111::119::32::(dig i.toNat++[])++[58,32]
  have:10∉dig i.toNat:=λz=>by have:=dB.mp z;omega
  have h2:(dig i.toNat).length=1:=rfl;simp only[cC,dP,qa,fk,bA,iK,or_false];exact⟨by omega,by simp[nt.2,this]⟩
 |li f its b=>
  have p:=px (f:=f) (its:=its) (b:=b) h;show(tK t++47::(cA f its b++47::[])++[58,32]).length<=_/\10∉tK t++47::(cA f its b++47::[])++[58,32];simp only[cC,dP,qa,fk,bA,iK,or_false];exact⟨by omega,by simp[nt.2,p.2]⟩
 |so j f its b=>
  have p:=px (f:=f) (its:=its) (b:=b) h.2.2;show(tK t++115::111::111::110::32::(dig j++32::47::(cA f its b++47::[]))++[58,32]).length<=_/\10∉tK t++115::111::111::110::32::(dig j++32::47::(cA f its b++47::[]))++[58,32]
  have:10∉dig j:=λz=>by have:=dB.mp z;omega
  have h2:(dig j).length=1:=rfl;simp only[cC,dP,qa,fk,bA,iK,or_false];exact⟨by omega,by simp[nt.2,p.2,this]⟩
 |nt x=>exact h.elim
def mW:Nat->List (CV×Bool)->List LN
 |_,[]=>[]
 |k,z::zs=>yl z.1 z.2 k::mW (k+1) zs
theorem k_{P:LN->Prop}:∀(zs:List (CV×Bool))(k:Nat),k+zs.length<=10->(∀z∈zs,ZO z)->(∀z i,ZO z->i<10->P (yl z.1 z.2 i))->∀x∈mW k zs,P x
 |[],_,_,_,_,x,hx=>by cases hx
 |z::zs,k,hk,h,p,x,hx=>by
  rw[dP]at hk;rcases bA.mp hx with e|hx
  ·rw[e];exact p z k (h z (er ..)) (by omega)
  ·exact k_ zs (k+1) (by omega) (λz hz=>h z (eF _ hz)) p x hx
theorem wC:∀(zs:List (CV×Bool))(k:Nat),(∀z∈zs,ZO z)->cz (mW k zs)=(jA k zs).map eB
 |[],_,_=>rfl
 |z::zs,k,h=>by
  show(yl z.1 z.2 k).val::cz (mW (k+1) zs)=eB ((An z.1 z.2).val,.str (bM k))::(jA (k+1) zs).map eB;rw[GC (h z (er ..)),wC zs (k+1) λz hz=>h z (eF _ hz)]
theorem lh:∀(zs:List (CV×Bool))(k:Nat),(mW k zs).length=zs.length
 |[],_=>rfl
 |z::zs,k=>by show(mW (k+1) zs).length+1=_;rw[lh zs (k+1)];rfl
theorem As:∀{ls:Ap},ls≠[]->(ls.map λl=>l++[10]).flatten=bq [10] ls++[10]
 |[],h=>absurd rfl h
 |[a],_=>by show(a++[10])++[]=_;rw[cY];rfl
 |a::b::r,_=>by
  show(a++[10])++((b::r).map λl=>l++[10]).flatten=a++[10]++bq [10] (b::r)++[10];rw[As (by simp),dN,dN,dN]
theorem jg:∀(l:Ap)(k:Nat),(∀x∈l,x.length<=k)->(l.map (·.length)).sum<=k*l.length/\(bq [10] l).length<=(k+1)*l.length
 |[],k,_=>⟨iN _,iN _⟩
 |[a],k,h=>by
  have:=h a (dB.mpr rfl)
  constructor
  ·show a.length+0<=k*1;omega
  ·show a.length<=(k+1)*1;omega
 |a::b::r,k,h=>by
  obtain⟨h1,h2⟩:=jg (b::r) k λx hx=>h x (eF _ hx)
  have:=h a (er ..)
  rw[dP (a:=a)];constructor
  ·show a.length+((b::r).map (·.length)).sum<=_
   rw[yK];omega
  ·show(a++[10]++bq [10] (b::r)).length<=_
   rw[cC,cC,yK];show a.length+1+_<=_;omega
theorem U_(m:FV):cN (n+1) 1 [.str []] m=.ok (.tup [.lst [],.bl true],m):=by rw[w1];rfl
abbrev LS(zs:List (CV×Bool)):Ap:=(mW 0 zs).map λx=>x.txt []
theorem GF{zs:List (CV×Bool)}(h:∀z∈zs,ZO z)(h9:zs.length<=9):cN (n+15) 49 [.str ((LS zs).map λl=>l++[10]).flatten] m=.ok (.obj 0 [.lst ((jA 0 zs).map eB)],m):=by
 rw[<- wC zs 0 h];have hx:∀l∈LS zs,l.length<=230/\10∉l:=λl hl=>by
  obtain⟨x,hx,rfl⟩:=fG.mp hl;refine k_ (P:=λx=>(x.txt []).length<=230/\10∉x.txt []) zs 0 (by omega) h (λz i hz hi=>?_) x hx
  have w:=yn (t:=z.2) hz.d;rw[ym]
  have:10∉dig i:=λq=>by have:=dB.mp q;omega
  have h2:(dig i).length=1:=rfl;constructor
  ·simp only[cC,dP,qa];omega
  ·simp[w.2,this]
 have ck:(LS zs).length=zs.length:=by rw[cD,lh]
 have wD:gZ (mW 0 zs)=(LS zs).map T.str:=by rw[iL];rfl
 refine Jf n (b:=true) (λx hx=>k_ zs 0 (by omega) h (λz i hz hi=>U9 hz hi) x hx) (by rw[lh];omega) λm=>?_
 rw[wD];by_cases h0:LS zs=[]
 ·rw[h0];exact U_ (n+13) m
 ·rw[As h0]
  have j:=(jg (LS zs) 230 λx PK=>(hx x PK).1).2;exact z5 (n+13) (λl hl=>(hx l hl).2) h0 (by rw[cC];show _+1<=_;have:231*(LS zs).length<=231*9:=Cs _ (by omega);omega)
def GG(rows:Ap)(e:Bool):B1:=bq [10] rows++(if(e&&!rows.isEmpty)=true then[10]else[])
theorem JI{rows:Ap}{e:Bool}(hr:∀r∈rows,VS r)(hL:rows.length<=30)(he:rows=[]\/e=true\/∃ls last,rows=ls++[last]/\last≠[]):∃b,∀m,cN (n+1) 1 [.str (GG rows e)] m=.ok (.tup [.lst (rows.map T.str),.bl b],m):=by
 by_cases h0:rows=[]
 ·subst h0
  exact⟨true,λm=>by rw[show GG [] e=[] by unfold GG;cases e<;>rfl];exact U_ n m⟩
 ·have j:=(jg rows 100 λx hx=>(hr x hx).1).2
  have hm:101*rows.length<=101*30:=Cs _ hL;have iQ:rows.isEmpty=false:=by cases rows<;>first|exact absurd rfl h0|rfl
  have wG:∀l∈rows,10∉l:=λl hl z=>(hr l hl).2 10 z rfl;cases e with
  |true=>exact⟨true,λm=>by
    rw[show GG rows true=bq [10] rows++[10] by unfold GG;rw[iQ];rfl]
    exact z5 n wG h0 (by rw[cC];show _+1<=_;omega)⟩
  |false=>
   obtain⟨ls,last,e,hl⟩:=(he.resolve_left h0).resolve_left dC;subst e;exact⟨false,λm=>by
    rw[show GG (ls++[last]) false=bq [10] (ls++[last]) by unfold GG;exact cY _]
    exact Je n wG hl (by omega)⟩
def LF(e:T):Prop:=∃nm ys,e=.tup (.str nm::ys)/\(∀y∈ys,bo y=true)/\(nm=[109,101,101,116]->∃i b,ys=[.int i,.bl b])
theorem Pq{nm:B1}{ys:FK}(h:nm≠[109,101,101,116])(h2:∀y∈ys,bo y=true):LF (.tup (.str nm::ys)):=⟨nm,ys,rfl,h2,λz=>absurd z h⟩
theorem Va{t:T}(h:bo t=true):∀y∈[t],bo y=true:=λy hy=>by rw[dB.mp hy];exact h
theorem Pu{rows:Ap}{l:List (T×T)}{bj:List CV}(hw:∀q∈l,bo q.2=true):∀e∈dM rows l bj,LF e:=Ak ⟨λ_=>Pq (by decide) (Va rfl),λ_=>Pq (by decide) (Va rfl),λi b=>⟨_,_,rfl,λy hy=>by
 rcases bA.mp hy with h|h
 ·rw[h];rfl
 ·rw[dB.mp h];rfl,λ_=>⟨i,b,rfl⟩⟩,λq hq=>Pq (by decide) (Va (hw q hq)),λ_=>Pq (by decide) (Va rfl),Pq (by decide) (λ_ z=>nomatch z),λ_=>Pq (by decide) (Va rfl),Pq (by decide) (λ_ z=>nomatch z)⟩
theorem g_{p:T->T->Bool}:∀{ts:FK},(∀t∈ts,p t t=true)->all2 p ts ts=true
 |[],_=>rfl
 |t::ts,h=>by
  show(p t t&&all2 p ts ts)=true;rw[h t (er ..),g_ λu hu=>h u (eF _ hu)];rfl
theorem nz{n:Nat}{t:T}(h:bo t=true):shape n t t=true:=by
 cases t<;>first|(cases h;done)|(cases n<;>rfl)
theorem Vb{n:Nat}{e:T}(h:LF e):shape (n+1) e e=true:=by
 obtain⟨nm,ys,rfl,h,_⟩:=h;show(shape n (.str nm) (.str nm)&&all2 (shape n) ys ys)=true;rw[nz rfl,g_ λt ht=>nz (h t ht)];rfl
theorem GH{n:Nat}{log:FK}(h:∀e∈log,LF e):shape (n+2) (.lst log) (.lst log)=true:=g_ λt ht=>Vb (h t ht)
theorem JJ{log:FK}(h:∀e∈log,LF e):∀t∈log.flatMap jf,bo t=true:=λt ht=>by
 obtain⟨e,he,ht⟩:=Kf.mp ht;obtain⟨nm,ys,rfl,h2,_⟩:=h e he;have ht:t∈(if nm=[103,105,118,101]then ys.take 1 else[]):=ht
 split at ht
 ·exact h2 t (yD ht)
 ·cases ht
theorem GI{t:T}(h:shape 5 t t=true):aH .NotEq t t=some (.bl false):=by
 have:aH .NotEq t t=W9 t t:=by cases t<;>rfl
 rw[this];show gd (shape 5 t t=true) (T.bl (!eqT t t))=_;rw[oi];exact jT h
theorem Pw{t:T}(h:shape 5 t t=true):aH .Eq t t=some (.bl true):=by
 have:aH .Eq t t=W8 t t:=by cases t<;>rfl
 rw[this];show gd (shape 5 t t=true) (T.bl (eqT t t))=_;rw[oi];exact jT h
theorem tN{a:FE}{s s1:S}{b:Bool}(h:a s=.ok (.bl b,s1)):D.bw a s=.ok (b,s1):=by
 unfold D.bw;rw[h];rfl
theorem BC{log:FK}(h:∀e∈log,LF e)(vB:az log=true):cN (n+1) 62 [.lst log,.lst log] m=.ok (.bl true,m):=by
 rw[w62];refine W.eq (kU ?_ (ju rfl ?_))
 ·show(az log&&(az log&&true))=true
  rw[vB];rfl
 refine P1 (s':=⟨[sv (.lst log),sv (.lst log),none],[]⟩) ?_ ?_
 ·exact OY (s1:=⟨[sv (.lst log),sv (.lst log),none],[]⟩) rfl (tN (aI (t:=.lst log) (u:=.lst log) rfl rfl (GI (GH h))))
 refine dI (fB (W.of (a:=(log,(⟨[sv (.lst log),sv (.lst log),none],[]⟩:S))) rfl ?_));refine(Fd (I:=λs=>∃u,s=⟨[sv (.lst log),sv (.lst log),u],[]⟩) (λt ht s hI=>?_) ⟨none,rfl⟩).mono λp hp=>⟨hp.1,?_⟩
 ·obtain⟨u,rfl⟩:=hI
  obtain⟨nm,ys,rfl,_,hm⟩:=h t ht;refine⟨_,rfl,?_⟩;obtain⟨s,hs⟩:∃s:S,s=⟨[sv (.lst log),sv (.lst log),sv (.tup (.str nm::ys))],[]⟩:=⟨_,rfl⟩;show W (af _ _ (⟨[sv (.lst log),sv (.lst log),sv (.tup (.str nm::ys))],[]⟩:S)) _;rw[<- hs];have i0:oI (vF 2) (cI 0) s=.ok (.str nm,s):=by
   rw[hs];refine aI (t:=.tup (.str nm::ys)) (u:=.int 0) rfl rfl ?_;show atT (T.str nm::ys) (((0:Nat)):Int)=_;rw[ee (by simp)];rfl
  have q1:D.tB (cu (D7 "str") (oI (vF 2) (cI 0))) s=.ok (true,s):=iw i0 rfl;have q2:D.bw (oE (oI (vF 2) (cI 0)) (cS [109,101,101,116])) s=.ok (decide (nm=[109,101,101,116]),s):=tN (aI i0 rfl (mU _ _));refine gY (fL (s':=s) (OY (s1:=s) (vI (iw (t:=.tup (.str nm::ys)) (by rw[hs];rfl) rfl)) (vI q1)) ⟨_,rfl,rfl,?_⟩)
  refine fL (s':=s) ?_ ⟨_,rfl,rfl,_,hs⟩;unfold gX;rw[q2];refine Eq.trans (bC _ _) ?_;by_cases hn:nm=[109,101,101,116]
  ·obtain⟨i,b,e⟩:=hm hn
   dsimp only;rw[decide_eq_true hn,if_pos rfl];refine vI (iw (t:=.bl b) ?_ rfl);rw[hs,e];refine aI (t:=.tup [.str nm,.int i,.bl b]) (u:=.int 2) rfl rfl ?_;show atT [T.str nm,.int i,.bl b] (((2:Nat)):Int)=_;rw[ee (by simp)];rfl
  ·dsimp only
   rw[decide_eq_false hn,if_neg dC]
 ·obtain⟨u,e⟩:=hp.2
  rw[e];exact Bp (t:=.bl true) (s':=⟨[sv (.lst log),sv (.lst log),u],[]⟩) rfl ⟨rfl,rfl⟩
def cellAt(ns:Dx)(k:Nat):Int:=ns.getD k 0
theorem JK{ns:Dx}{k:Nat}:cN (n+1) 53 [.scr ns,.int (k:Nat)] m=.ok (.int (cellAt ns k),m):=by
 rw[w53];refine kT (m':=[]) rfl (dH (s':=s2 (.scr ns) (.int (k:Nat))) rfl ?_ rfl) rfl;show af _ _ (s2 (.scr ns) (.int (k:Nat)))=_;by_cases h:k<ns.length
 ·refine E7 (OS (s':=s2 (.scr ns) (.int (k:Nat))) ?_ (gu (aI (t:=.scr ns) (u:=.int (k:Nat)) rfl rfl ?_)))
  ·have e:decide (((k:Nat):Int)<(ns.length:Nat))=true:=decide_eq_true (by omega)
   simp only[ev,pW,bC,nk,bJ,uI,Jb,e]
  ·show(atT ns (k:Int)).map T.int=_
   rw[ee h];unfold cellAt;rw[j6,cj h];rfl
 ·refine seq1 (s':=s2 (.scr ns) (.int (k:Nat))) (zV (s':=s2 (.scr ns) (.int (k:Nat))) ?_ rfl) ?_
  ·have e:decide (((k:Nat):Int)<(ns.length:Nat))=false:=decide_eq_false (by omega)
   simp only[ev,pW,bC,nk,bJ,uI,Jb,e]
  ·have:cellAt ns k=0:=by
    unfold cellAt;rw[j6,ua (by omega)]
    rfl
   rw[this];rfl
theorem so1{s:S}{a:FE}{i:Int}(h:a s=.ok (.int i,s)):jY a s=.ok (some i,s):=by
 unfold jY;rw[h];rfl
abbrev lS(ns:Dx)(l:Fs):S:=⟨sv (.scr ns)::l,[]⟩
def JL:CV->Bool
 |.al=>true
 |_=>false
theorem Vc{x:CV}(h:x.wz):aH .NotEq x.ny (.tup [.str []])=some (.bl (!JL x)):=by
 cases x with
 |nt x=>exact h.elim
 |_=>rfl
theorem LU{sep:B1}{l:Ap}(h:(l.map (·.length)).sum+l.length*sep.length<=1000000):joinM sep [.lst (l.map T.str)]=some (.str (bq sep l)):=by
 show qN (.str sep) (.lst (l.map T.str))=_;unfold qN;dsimp only;rw[strs_map];exact jT h
theorem GJ(n:Nat){all:List (CV×Bool)}(h:∀z∈all,ZO z):∀(zs:List (CV×Bool))(k:Nat),all.drop k=zs->k+zs.length<=9->aW (setG 1) dG (oA (oA (oA (oI (vF 2) (vF 1)) (cS [115,97,121,32,34,108,105,110,101,32])) (aR strN (k1 (vF 1)))) (cS [34,10])) [none,none,sv (.lst (all.map λz=>T.str (Am z.1 z.2)))] ((qb k zs.length).map λq=>T.int (q:Nat)) []=.ok (((mW k zs).map λx=>x.txt []++[10]).map T.str,[])
 |[],_,_,_=>rfl
 |z::zs,k,hd,h9=>by
  rw[dP]at h9;have qv:k<all.length:=by
   have:=congrArg wL hd
   rw[mC,dP]at this;omega
  rw[nF qv]at hd;injection hd with hz hd
  have Zd:ZO z:=by rw[<- hz];exact h _ (tY qv)
  have w:=(yn (t:=z.2) Zd.d).1;have ih:=GJ n h zs (k+1) hd (by omega)
  have e1:gq (.lst (all.map λz=>T.str (Am z.1 z.2))) (.int (k:Nat))=some (.str (Am z.1 z.2)):=by
   show atT (all.map λz=>T.str (Am z.1 z.2)) ((k:Nat):Int)=_;rw[ee (by rw[cD];exact qv),eG,cj qv,hz];rfl
  have e3:Am z.1 z.2++[115,97,121,32,34,108,105,110,101,32]++dig k++[34,10]=(yl z.1 z.2 k).txt []++[10]:=by rw[ym];simp
  rw[dP,AB,dz];refine YC (u:=.str ((yl z.1 z.2 k).txt []++[10])) rfl (b2:=[none,sv (.int (k:Nat)),sv (.lst (all.map λz=>T.str (Am z.1 z.2)))]) ?_ ih;rw[<- e3];refine qw (qw (qw (aI (t:=.lst (all.map λz=>T.str (Am z.1 z.2))) (u:=.int (k:Nat)) rfl rfl e1) rfl ?_) (cP (ts:=[.int (k:Nat)]) rfl (k8 (by omega))) ?_) rfl ?_
  ·show _+10<=_;omega
  ·rw[cC];show _+10+1<=_;omega
  ·rw[cC,cC];show _+10+1+2<=_;omega
theorem Au(n:Nat){all:List (CV×Bool)}(h:∀z∈all,ZO z):∀(zs:List (CV×Bool))(k:Nat),all.drop k=zs->k+zs.length<=9->aW (setG 1) dG (cT 1 2 (k2 (ao (cN (n+8) 59) [] (k2 (oI (oI (vF 2) (vF 1)) (cI 0)) (oI (oI (vF 2) (vF 1)) (cI 1)))) (cT 16 1 (k1 (oA (cS [108,105,110,101,32]) (aR strN (k1 (vF 1)))))))) [none,none,sv (.lst (all.map dT))] ((qb k zs.length).map λq=>T.int (q:Nat)) []=.ok ((jA k zs).map eB,[])
 |[],_,_,_=>rfl
 |z::zs,k,hd,h9=>by
  rw[dP]at h9;have qv:k<all.length:=by
   have:=congrArg wL hd
   rw[mC,dP]at this;omega
  rw[nF qv]at hd;injection hd with hz hd
  have Zd:ZO z:=by rw[<- hz];exact h _ (tY qv)
  have ih:=Au n h zs (k+1) hd (by omega)
  have e1:gq (.lst (all.map dT)) (.int (k:Nat))=some (dT z):=by
   show atT (all.map dT) ((k:Nat):Int)=_;rw[ee (by rw[cD];exact qv),eG,cj qv,hz];rfl
  rw[dP,AB,dz];exact YC rfl (mT (ts:=[(An z.1 z.2).val,.obj 16 [.str (bM k)]]) (av (cE (ts:=[z.1.ny,.bl z.2]) (av (pE (aI (t:=.lst (all.map dT)) (u:=.int (k:Nat)) rfl rfl e1) rfl rfl) (av (pE (aI (t:=.lst (all.map dT)) (u:=.int (k:Nat)) rfl rfl e1) rfl rfl) rfl)) (Gw n Zd.d (Ar _))) (av (mT (ts:=[.str (bM k)]) (av (qw (x:=[108,105,110,101,32]) rfl (cP (ts:=[.int (k:Nat)]) rfl (k8 (by omega))) (by show 5+1<=_;decide)) rfl) rfl) rfl)) rfl) ih
section
variable{ns:Dx}
theorem GK(l:Fs):ao (cN (n+1) 53) [] (k2 (vF 0) (cI 0)) (lS ns l)=.ok (.int (cellAt ns 0),lS ns l):=gB (ts:=[.scr ns,.int 0]) (s':=lS ns l) rfl (JK n (k:=0))
theorem Vd(rows:Ap):aH .NotEq (.lst (rows.map T.str)) (.lst [])=some (.bl (!rows.isEmpty)):=by
 cases rows<;>rfl
theorem Px:cN (n+16) 63 [.scr ns] []=.ok (.bl true,[]):=by
 rw[w63];obtain⟨a,b,c,g,e1⟩:=Gp (n+14) (cellAt ns 0/18) [];have hm1:0<=cellAt ns 0 % 9:=ue _ (by decide)
 have hm2:cellAt ns 0 % 9<9:=uf _ (by decide)
 obtain⟨cs,hcs⟩:∃cs,cs=bg ns (some 1) (some (1+cellAt ns 0 % 9)):=⟨_,rfl⟩;have r_:cs.length<=8:=by
  have:=tM ns 1 (cellAt ns 0 % 9).toNat
  rw[show(((1+(cellAt ns 0 % 9).toNat:Nat)):Int)=1+cellAt ns 0 % 9 by omega]at this
  have this:bg ns (some 1) (some (1+cellAt ns 0 % 9))=_:=this;rw[hcs,this,p_];omega
 refine W.eq (kU rfl (ju rfl (bS (cE (ts:=[.int (cellAt ns 0/18)]) (av (fd (GK (n+14) _) (by decide)) rfl) e1) (dI (W.of rfl ⟨rfl,dI (fB (W.of (YE (t:=.lst (cs.map T.int)) (VN (t:=.scr ns) (x:=some 1) (y:=some (1+cellAt ns 0 % 9)) rfl rfl (so1 (ad rfl (md (GK (n+14) _) (by decide)))) (by rw[hcs];rfl)) rfl) ?_))⟩)))))
 refine(Al (N:=8) (I:=λk s=>∃zs u3 Av,s=lS ns [sv (j3 a b c),some (.ol (zs.map dT)),u3,none,none,none,none,none,none,none,none,Av]/\zs.length=k/\∀z∈zs,ZO z) (i:=0) (λt ht k s hk hI=>?_) (by show 0+(cs.map T.int).length<=8;rw[cD];omega) ⟨[],none,none,rfl,rfl,λ_ z=>nomatch z⟩).mono λp hp=>⟨hp.1,?_⟩
 ·obtain⟨zs,u3,Av,rfl,ND,hzs⟩:=hI
  obtain⟨ci,_,rfl⟩:=fG.mp ht;obtain⟨x,hx,ex⟩:=Gs (n+13) g ci [];refine⟨_,rfl,wS (cE (ts:=[.int ci,j3 a b c]) rfl ex) (W.of (vH (i:=2) (t:=dT (x,!JL x&&decide (ci/5 % 2=1))) (GR:=zs.map dT) (ts:=zs.map dT) rfl (cP (ts:=[x.ny,.bl (!JL x&&decide (ci/5 % 2=1))]) (av rfl (av (pA (pE rfl rfl (Vc hx)) λ_=>pE (md (fd rfl (by decide)) (by decide)) rfl (Bt _ _)) rfl)) rfl) rfl (by rw[cD];omega)) ⟨rfl,zs++[(x,!JL x&&decide (ci/5 % 2=1))],sv (.int ci),sv x.ny,by rw[lj];rfl,by rw[cC,ND];rfl,λz hz=>?_⟩)⟩
  rcases fk.mp hz with h|h
  ·exact hzs z h
  ·rw[dB.mp h]
   exact⟨hx,λ(h0:x=.al)=>by subst h0;rfl⟩
 obtain⟨_,zs,u3,Av,e,ND,hz⟩:=hp;have ND:zs.length=0+(cs.map T.int).length:=ND;rw[cD]at ND;have h9:zs.length<=9:=by omega
 rw[e];obtain⟨L4,Ze⟩:∃L4:FK,L4=zs.map λz=>T.str (Am z.1 z.2):=⟨_,rfl⟩;have g4:aW (dh [1,2]) dG (ao (cN (n+15) 58) [] (k2 (vF 1) (vF 2))) [none,none,none] (zs.map dT) []=.ok (L4,[]):=by
  have:∀l:List (CV×Bool),(∀z∈l,ZO z)->aW (dh [1,2]) dG (ao (cN (n+15) 58) [] (k2 (vF 1) (vF 2))) [none,none,none] (l.map dT) []=.ok (l.map λz=>T.str (Am z.1 z.2),[]):=λl hl=>by
   induction l with
   |nil=>rfl
   |cons z l ih=>exact YC rfl (cE (ts:=[z.1.ny,.bl z.2]) rfl (Pk (n+14) (hl z (er ..)).d)) (ih λy hy=>hl y (eF _ hy))
  rw[Ze];exact this zs hz
 obtain⟨Z,hZ⟩:∃Z:FK,Z=zs.map dT:=⟨_,rfl⟩;have hZl:Z.length=zs.length:=by rw[hZ,cD]
 rw[<- hZ]at g4 ⊢;have Zf:L4.length=zs.length:=by rw[Ze,cD]
 obtain⟨tx,htx⟩:∃tx,tx=((LS zs).map λl=>l++[10]).flatten:=⟨_,rfl⟩;have g5:=GJ n hz zs 0 lq (by omega)
 rw[<- Ze]at g5;have ej:joinM [] [.lst (((mW 0 zs).map λ(x:LN)=>x.txt []++[10]).map T.str)]=some (.str tx):=by
  have ck:∀x∈(mW 0 zs).map λ(x:LN)=>x.txt []++[10],x.length<=240:=λl hl=>by
   obtain⟨x,hx,rfl⟩:=fG.mp hl;refine k_ (P:=λx=>(x.txt []++[10]).length<=240) zs 0 (by omega) hz (λz i hz hi=>?_) x hx
   have w:=(yn (t:=z.2) hz.d).1;have h2:(dig i).length=1:=rfl;rw[ym];simp only[cC,dP,qa];omega
  have j:=(jg _ 240 ck).1;rw[cD,lh]at j;rw[LU (by show _+_*0<=_;omega),join_nil,htx]
  show some (T.str _)=some (T.str (((mW 0 zs).map λ(x:LN)=>x.txt []).map λl=>l++[10]).flatten);rw[iL];rfl
 obtain⟨ds,uV⟩:∃ds,ds=bg ns (some 9) (some 29):=⟨_,rfl⟩;have hc9:ds.length<=20:=by
  have:=tM ns 9 20
  have this:bg ns (some 9) (some 29)=_:=this;rw[uV,this,p_];omega
 refine Uo (t:=.lst L4) (s':=lS ns [sv (j3 a b c),sv (.lst Z),u3,none,none,none,none,none,none,none,none,Av]) (mj (o8 (ts:=Z) (s1:=lS ns [sv (j3 a b c),sv (.lst Z),u3,none,none,none,none,none,none,none,none,Av]) rfl (by omega) g4)) ?_
 refine bS (LC (l:=[]) rfl (av (VO (x8 (ts:=[.int (zs.length:Nat)]) (av (by show Res.ok (T.int (L4.length:Nat),_)=_;rw[Zf]) rfl) (JG _ (by omega))) (by rw[cD,Kg];omega) rfl g5) rfl) ej) ?_
 refine Um (Ur (Lz (W.of (YE (t:=.lst (ds.map T.int)) (VN (t:=.scr ns) (x:=some 9) (y:=some 29) rfl rfl rfl (by rw[uV];rfl)) rfl) ⟨by rw[cD];omega,?_⟩)))
 refine(wGo (I:=λm=>m=[]) (R:=λt=>∃w,VS w/\t=.str w) (λt ht m hm=>?_) _ rfl).mono λp hp=>?_
 ·obtain⟨ci,_,rfl⟩:=fG.mp ht
  subst hm;obtain⟨w,hw,ew⟩:=Pd (n+14) g ci [];exact⟨[none,sv (.int ci),sv (j3 a b c)],rfl,W.of (cE (ts:=[.int ci,j3 a b c]) rfl ew) ⟨⟨w,hw,rfl⟩,rfl⟩⟩
 obtain⟨us,pm⟩:=p;obtain⟨Zg,huR,Zh⟩:=hp;have Zh:pm=[]:=Zh;subst Zh;obtain⟨rows,wD,Zi⟩:=LA (f:=T.str) huR;have Zg:us.length=(ds.map T.int).length:=Zg;have wD:us=rows.map T.str:=wD;subst wD;have hrl:rows.length<=20:=by rw[cD,cD]at Zg;omega
 have hr1:∀row∈rows,row.length<=1000:=λr hr=>by have:=(Zi r hr).1;omega
 obtain⟨R,hR⟩:∃R:FK,R=rows.map T.str:=⟨_,rfl⟩;show WB _ (lS ns [sv (j3 a b c),sv (.lst Z),u3,sv (.lst L4),sv (.str tx),sv (.lst (rows.map T.str)),none,none,none,none,none,Av]) _;have neN:∀s,vF 6 s=.ok (.lst (rows.map T.str),s)->bB (aH .NotEq) (vF 6) (aR dQ aZ) s=.ok (.bl (!rows.isEmpty),s):=λs h=>aI h rfl (Vd rows);obtain⟨e0,he0⟩:∃e0,e0=decide (cellAt ns 0/9 % 2=0):=⟨_,rfl⟩;refine bS (t:=.bl e0) (by rw[he0];exact pE (md (fd (GK (n+14) _) (by decide)) (by decide)) rfl (Bt _ _)) ?_
 suffices fin:∀en:Bool,(rows=[]\/en=true\/∃ls last,rows=ls++[last]/\last≠[])->WB (af (aG 8 _) _) (lS ns [sv (j3 a b c),sv (.lst Z),u3,sv (.lst L4),sv (.str tx),sv (.lst (rows.map T.str)),sv (.bl en),none,none,none,none,Av]) _ by
  refine dI ?_;obtain⟨s,hs⟩:∃s:S,s=lS ns [sv (j3 a b c),sv (.lst Z),u3,sv (.lst L4),sv (.str tx),sv (.lst (rows.map T.str)),sv (.bl e0),none,none,none,none,Av]:=⟨_,rfl⟩;show W (aU _ _ _ (lS ns [sv (j3 a b c),sv (.lst Z),u3,sv (.lst L4),sv (.str tx),sv (.lst (rows.map T.str)),sv (.bl e0),none,none,none,none,Av])) _;rw[<- hs];have v6:vF 6 s=.ok (.lst (rows.map T.str),s):=by rw[hs];rfl
  rcases List.eq_nil_or_concat rows with h0|⟨ls,last,h0⟩
  ·refine fL (s':=s) ?_ ⟨_,rfl,rfl,by rw[hs];exact fin e0 (.inl h0)⟩
   unfold gX;rw[tN (neN s v6),h0];rfl
  ·rw[List.concat_eq_append]at h0
   have c1:D.bw (bB (aH .NotEq) (vF 6) (aR dQ aZ)) s=.ok (true,s):=by
    rw[tN (neN s v6)]
    have:rows.isEmpty=false:=by rw[h0];cases ls<;>rfl
    rw[this];rfl
   have c2:D.bw (oE (oI (vF 6) (cu gT (cI 1))) (cS [])) s=.ok (decide (last=[]),s):=by
    refine tN (aI (t:=.str last) (u:=.str []) (aI v6 (u:=.int (-1)) rfl ?_) rfl (mU _ _));show atT (rows.map T.str) (-1)=_;rw[h0,lj];exact nu _ _
   have c3:gX (D.bw (bB (aH .NotEq) (vF 6) (aR dQ aZ))) (D.bw (oE (oI (vF 6) (cu gT (cI 1))) (cS []))) s=.ok (decide (last=[]),s):=by
    unfold gX;rw[c1];exact c2
   by_cases hl:last=[]
   ·rw[decide_eq_true hl]at c3
    exact vC c3 (W.of (a:=(.nx,lS ns [sv (j3 a b c),sv (.lst Z),u3,sv (.lst L4),sv (.str tx),sv (.lst (rows.map T.str)),sv (.bl true),none,none,none,none,Av])) (by rw[hs];rfl) ⟨rfl,fin true (.inr (.inl rfl))⟩)
   ·rw[decide_eq_false hl]at c3
    exact fL c3 ⟨_,rfl,rfl,by rw[hs];exact fin e0 (.inr (.inr ⟨ls,last,h0,hl⟩))⟩
 intro en Yc;obtain⟨bb,Pn⟩:=JI (n+13) Zi (by omega) Yc
 obtain⟨s,hs⟩:∃s:S,s=lS ns [sv (j3 a b c),sv (.lst Z),u3,sv (.lst L4),sv (.str tx),sv (.lst (rows.map T.str)),sv (.bl en),none,none,none,none,Av]:=⟨_,rfl⟩;have v6:vF 6 s=.ok (.lst (rows.map T.str),s):=by rw[hs];rfl
 have jl:=jg rows 100 λx hx=>(Zi x hx).1;have jm:101*rows.length<=101*20:=Cs _ hrl;have ea:=pA (a:=vF 7) (b:=bB (aH .NotEq) (vF 6) (aR dQ aZ)) (s:=s) (s1:=s) (x:=en) (y:=!rows.isEmpty) (by rw[hs];rfl) λ_=>neN s v6
 have e8:oA (pU joinM (cS [10]) (k1 (vF 6))) (bB (fY .Mult) (cS [10]) (aR sH (k1 (ko (vF 7) (bB (aH .NotEq) (vF 6) (aR dQ aZ)))))) s=.ok (.str (GG rows en),s):=by
  refine qw (LC (l:=[10]) (ts:=[.lst (rows.map T.str)]) rfl (av v6 rfl) (LU (by show _+_*1<=_;omega))) (aI (t:=.str [10]) (u:=.int (if(en&&!rows.isEmpty)=true then 1 else 0)) rfl (cP (ts:=[.bl (en&&!rows.isEmpty)]) (av ea rfl) rfl) ?_) ?_
  ·cases(en&&!rows.isEmpty)<;>rfl
  ·have:(if(en&&!rows.isEmpty)=true then[10]else([]:B1)).length<=1:=by split<;>simp
   omega
 rw[<- hs];refine Uo e8 ?_;show WB _ (jr s 8 (.val (.str (GG rows en)))) _;obtain⟨l,hl⟩:∃l,l=jA 0 zs:=⟨_,rfl⟩;obtain⟨bj,P9⟩:∃bj,bj=pR zs:=⟨_,rfl⟩;have hq:∀q∈l,∃z∈zs,∃i,q=((An z.1 z.2).val,.str (bM i)):=by rw[hl];exact yk zs 0 λz Py=>(hz z Py).d
 have LO:LK l:=⟨by rw[hl,k9];omega,λq xu=>by
  obtain⟨z,Py,i,rfl⟩:=hq q xu;have hd:=(hz z Py).d;obtain⟨x,t⟩:=z;cases t with
  |true=>rfl
  |false=>cases x<;>first|rfl|exact hd.elim⟩
 have Zj:∀x∈bj,CV.one x:=λx hx=>by
  rw[P9]at hx;obtain⟨z,Py,rfl⟩:=fG.mp hx;have hd:=(hz z Py).d;obtain⟨x,t⟩:=z;have ba:x.ok/\x.base:=by
   cases x with
   |li f its b=>exact⟨hd,trivial⟩
   |so j f its b=>exact⟨⟨hd.2.2.1,hd.2.2.2,by have:=hd.2.1;omega⟩,trivial⟩
   |nt x=>exact hd.elim
   |_=>exact⟨trivial,trivial⟩
  cases t with
  |true=>exact⟨ba.2,ba.1⟩
  |false=>cases x<;>first|exact ba.1|exact hd.elim
 have XW:l.map (·.1)=bj.map CV.val:=by
  rw[hl,P9]
  have:∀(zs:List (CV×Bool))(k:Nat),(jA k zs).map (·.1)=(pR zs).map CV.val:=λzs=>by
   induction zs with
   |nil=>exact λ_=>rfl
   |cons z zs ih=>exact λk=>congrArg (_::·) (ih (k+1))
  exact this zs 0
 have vB:∀q∈l,noOwn q.1=true/\noOwn q.2=true:=λq xu=>by
  obtain⟨z,_,i,rfl⟩:=hq q xu;exact⟨Ar _,rfl⟩
 have VW:=Pu (rows:=rows) (l:=l) (bj:=bj) λq xu=>by
  obtain⟨z,_,i,rfl⟩:=hq q xu;rfl
 have Ve:=lT (rows:=rows) (l:=l) (bj:=bj) λq xu=>(vB q xu).2;have hW:=JC (n+3) (m:=[]) LO vB XW Zj (by rw[hl,k9];omega) (by omega) hr1 Pn
 have hD:=JH (n+6) (all:=zs) (rows:=rows) (m:=[]) (λz Py=>(hz z Py).d) hr1 (by omega) h9
 have Zk:=GF n (m:=[]) hz h9;rw[<- htx,<- hl]at Zk;rw[<- hZ,<- hl,<- P9]at hD;obtain⟨lg,hlg⟩:∃lg,lg=dM rows l bj:=⟨_,rfl⟩;rw[<- hlg]at hW hD VW Ve;obtain⟨gv,Zb⟩:∃gv,gv=lg.flatMap jf:=⟨_,rfl⟩;have Zl:=JJ VW;rw[<- Zb]at hW hD Zl;obtain⟨P,hP⟩:∃P:T,P=.obj 0 [.lst (l.map eB)]:=⟨_,rfl⟩;rw[<- hP]at Zk hW;obtain⟨told,my⟩:∃told:T,told=.tup [.lst gv,.du [] [],.lst [],.lst lg]:=⟨_,rfl⟩;rw[<- my]at hW;obtain⟨w,hw⟩:∃w,w=GG rows en:=⟨_,rfl⟩;rw[<- hw]at hW;have Wy:shape 5 told told=true:=by
  rw[my];show(all2 (shape 3) gv gv&&(true&&(true&&(shape 4 (.lst lg) (.lst lg)&&true))))=true;rw[g_ λt ht=>nz (Zl t ht),GH VW];rfl
 have hs8:jr s 8 (.val (.str (GG rows en)))=lS ns [sv (j3 a b c),sv (.lst Z),u3,sv (.lst L4),sv (.str tx),sv (.lst (rows.map T.str)),sv (.bl en),sv (.str w),none,none,none,Av]:=by rw[hs,hw];rfl
 rw[hs8];have gp:=Au (n+7) hz zs 0 lq (by omega)
 rw[<- hZ,<- hl]at gp;refine bS (cE (ts:=[P,.str w]) (av (cE (ts:=[.str tx]) rfl Zk) rfl) hW) (bS (cE (ts:=[.lst Z,.lst (rows.map T.str)]) rfl hD) (bS (VO (x8 (ts:=[.int (zs.length:Nat)]) (av (by show Res.ok (T.int (Z.length:Nat),_)=_;rw[hZl]) rfl) (JG _ (by omega))) (by rw[cD,Kg];omega) rfl gp) ?_))
 obtain⟨S9,P_⟩:∃S9:S,S9=lS ns [sv (j3 a b c),sv (.lst Z),u3,sv (.lst L4),sv (.str tx),sv (.lst (rows.map T.str)),sv (.bl en),sv (.str w),sv told,sv (.lst [.lst gv,.lst lg]),sv (.lst (l.map eB)),Av]:=⟨_,rfl⟩;show WB _ (lS ns [sv (j3 a b c),sv (.lst Z),u3,sv (.lst L4),sv (.str tx),sv (.lst (rows.map T.str)),sv (.bl en),sv (.str w),sv told,sv (.lst [.lst gv,.lst lg]),sv (.lst (l.map eB)),Av]) _;rw[<- P_];have v9:vF 9 S9=.ok (told,S9):=by rw[P_];rfl
 have v10:vF 10 S9=.ok (.lst [.lst gv,.lst lg],S9):=by rw[P_];rfl
 have k0:oI (vF 9) (cI 0) S9=.ok (.lst gv,S9):=aI v9 rfl (by rw[my];rfl)
 have k1':oI (vF 9) (cI 1) S9=.ok (.du [] [],S9):=aI v9 rfl (by rw[my];rfl)
 have k2':oI (vF 9) (cI 2) S9=.ok (.lst [],S9):=aI v9 rfl (by rw[my];rfl)
 have k3':oI (vF 9) (cI 3) S9=.ok (.lst lg,S9):=aI v9 rfl (by rw[my];rfl)
 have w2:ao (cN (n+15) 33) [] (k2 (cu (Dr 0) (vF 11)) (vF 8)) S9=.ok (told,S9):=cE (ts:=[P,.str w]) (by rw[P_,hP];rfl) (by rw[P_];exact hW)
 refine P1 (s':=S9) (tN (aI w2 v9 (GI Wy))) ?_;refine P1 (s':=S9) (OY (s1:=S9) (vI (iw v9 (by rw[my];rfl))) (OY (s1:=S9) (tN (aI (t:=.int 4) (u:=.int 4) (cP (ts:=[told]) (av v9 rfl) (by rw[my];rfl)) rfl rfl)) (OY (s1:=S9) (tN (aI k1' rfl rfl)) (tN (aI k2' rfl rfl))))) ?_
 have x0:oI (vF 10) (cI 0) S9=.ok (.lst gv,S9):=aI v10 rfl rfl;have x1:oI (vF 10) (cI 1) S9=.ok (.lst lg,S9):=aI v10 rfl rfl;have Zm:az lg=true:=c7 λt ht=>(Ve t ht).no;have ex:ao (cN (n+15) 62) [] (k2 (oI (vF 9) (cI 3)) (oI (vF 10) (cI 1))) S9=.ok (.bl true,S9):=cE (ts:=[.lst lg,.lst lg]) (av k3' (av x1 rfl)) (by rw[P_];exact BC (n+14) VW Zm)
 have egv:aH .Eq (.lst gv) (.lst gv)=some (.bl true):=Pw (g_ λt ht=>nz (Zl t ht));have t1:cu (D7 "list") (oI (vF 9) (cI 0)) S9=.ok (.bl true,S9):=by
  unfold cu;rw[k0];rfl
 refine Bp (t:=.bl true) (s':=S9) (pA (x:=true) (y:=true) t1 λ_=>pA (x:=true) (y:=true) (aI k0 x0 egv) λ_=>ex) ⟨rfl,rfl⟩
end
end K32
namespace K32
open PySem D L2
variable(n:Nat){m:List _root_.D.Ob}
set_option maxHeartbeats 0
theorem JM:∀P,OP (KH.K P) M Ft It=true:=λP=>by kernel_rfl
theorem JN:∀P,M.cs.all (IX (KH.K P))=true:=λP=>by kernel_rfl
theorem JO:∀P,Ft.map (Lw (KH.K P))=Ft.map λe=>(Lw (KH.K P) e).map (E2 e):=λP=>by kernel_rfl
set_option maxHeartbeats 0
def BnL:List Fe->Prop
 |[]=>True
 |e::r=>Bn e/\BnL r
theorem LV:∀{l:List Fe},BnL l->∀e∈l,Bn e
 |e::r,h,x,hx=>by
  rcases bA.mp hx with z|z
  ·rw[z];exact h.1
  ·exact LV h.2 x z
theorem lz0{P:B2->Prop}(h:P []):∀us:B2,us.length=0->P us
 |[],_=>h
 |_::_,e=>by cases e
theorem Vf{n:Nat}{P:B2->Prop}(h:∀a,∀us:B2,us.length=n->P (a::us)):∀us:B2,us.length=n+1->P us
 |[],e=>by cases e
 |a::us,e=>h a us (rG.inj e)
theorem gM{P:B2->Prop}(h:∀a,P [a]):∀us:B2,us.length=1->P us:=Vf λa=>lz0 (h a)
theorem fE{P:B2->Prop}(h:∀a b,P [a,b]):∀us:B2,us.length=2->P us:=Vf λa=>gM (h a)
theorem tQ{P:B2->Prop}(h:∀a b c,P [a,b,c]):∀us:B2,us.length=3->P us:=Vf λa=>fE (h a)
theorem Zn{P:B2->Prop}(h:∀a b c d,P [a,b,c,d]):∀us:B2,us.length=4->P us:=Vf λa=>tQ (h a)
theorem lz5{P:B2->Prop}(h:∀a b c d e,P [a,b,c,d,e]):∀us:B2,us.length=5->P us:=Vf λa=>Zn (h a)
theorem BD:Bn ⟨none,"stretch","stretch",top 64,["one","row","start","ends","begin"],["one","row","start"],[],true,[.int 0]⟩:=λ_ _ _ _ _ _ s a o gF n us ho hd hl PJ=>by
 obtain⟨d,rfl⟩:=J7.mp (show gF.length=1 from hl);have h:(us++[d]).length=3:=PJ;rw[cC]at h
 match us,rG.inj h with
 |x::us,h=>
  match us,rG.inj h with
  |y::us,h=>
   cases List.eq_nil_of_length_eq_zero (rG.inj h);exact .of_defaults rfl ho hd rfl rfl
theorem bn:∀e∈Ft,Bn e:=LV ⟨λ_ _ _ _ _ _=>gM λ_=>rfl,λ_ _ _ _ _ _=>gM λ_=>rfl,λ_ _ _ _ _ _=>fE λ_ _=>rfl,λ_ _ _ _ _ _=>fE λ_ _=>rfl,λ_ _ _ _ _ _=>gM λ_=>rfl,λ_ _ _ _ _ _=>gM λ_=>rfl,λ_ _ _ _ _ _=>gM λ_=>rfl,λ_ _ _ _ _ _=>fE λ_ _=>rfl,λ_ _ _ _ _ _=>fE λ_ _=>rfl,λ_ _ _ _ _ _=>fE λ_ _=>rfl,λ_ _ _ _ _ _=>fE λ_ _=>rfl,λ_ _ _ _ _ _=>fE λ_ _=>rfl,λ_ _ _ _ _ _=>gM λ_=>rfl,λ_ _ _ _ _ _=>fE λ_ _=>rfl,λ_ _ _ _ _ _=>gM λ_=>rfl,λ_ _ _ _ _ _=>gM λ_=>rfl,λ_ _ _ _ _ _=>gM λ_=>rfl,λ_ _ _ _ _ _=>gM λ_=>rfl,BD,λ_ _ _ _ _ _=>fE λ_ _=>rfl,λ_ _ _ _ _ _=>fE λ_ _=>rfl,λ_ _ _ _ _ _=>fE λ_ _=>rfl,λ_ _ _ _ _ _=>tQ λ_ _ _=>rfl,λ_ _ _ _ _ _=>gM λ_=>rfl,λ_ _ _ _ _ _=>fE λ_ _=>rfl,λ_ _ _ _ _ _=>fE λ_ _=>rfl,λ_ _ _ _ _ _=>tQ λ_ _ _=>rfl,λ_ _ _ _ _ _=>tQ λ_ _ _=>rfl,λ_ _ _ _ _ _=>gM λ_=>rfl,λ_ _ _ _ _ _=>fE λ_ _=>rfl,λ_ _ _ _ _ _=>gM λ_=>rfl,λ_ _ _ _ _ _=>gM λ_=>rfl,λ_ _ _ _ _ _=>gM λ_=>rfl,λ_ _ _ _ _ _=>fE λ_ _=>rfl,λ_ _ _ _ _ _=>fE λ_ _=>rfl,λ_ _ _ _ _ _=>gM λ_=>rfl,λ_ _ _ _ _ _=>gM λ_=>rfl,λ_ _ _ _ _ _=>gM λ_=>rfl,λ_ _ _ _ _ _=>gM λ_=>rfl,λ_ _ _ _ _ _=>gM λ_=>rfl,λ_ _ _ _ _ _=>fE λ_ _=>rfl,λ_ _ _ _ _ _=>gM λ_=>rfl,λ_ _ _ _ _ _=>gM λ_=>rfl,λ_ _ _ _ _ _=>tQ λ_ _ _=>rfl,λ_ _ _ _ _ _=>gM λ_=>rfl,λ_ _ _ _ _ _=>gM λ_=>rfl,λ_ _ _ _ _ _=>gM λ_=>rfl,λ_ _ _ _ _ _=>fE λ_ _=>rfl,λ_ _ _ _ _ _=>gM λ_=>rfl,λ_ _ _ _ _ _=>gM λ_=>rfl,λ_ _ _ _ _ _=>gM λ_=>rfl,λ_ _ _ _ _ _=>gM λ_=>rfl,λ_ _ _ _ _ _=>fE λ_ _=>rfl,λ_ _ _ _ _ _=>fE λ_ _=>rfl,λ_ _ _ _ _ _=>gM λ_=>rfl,λ_ _ _ _ _ _=>fE λ_ _=>rfl,λ_ _ _ _ _ _=>fE λ_ _=>rfl,λ_ _ _ _ _ _=>fE λ_ _=>rfl,λ_ _ _ _ _ _=>fE λ_ _=>rfl,λ_ _ _ _ _ _=>fE λ_ _=>rfl,λ_ _ _ _ _ _=>tQ λ_ _ _=>rfl,λ_ _ _ _ _ _=>fE λ_ _=>rfl,λ_ _ _ _ _ _=>fE λ_ _=>rfl,λ_ _ _ _ _ _=>gM λ_=>rfl,λ_ _ _ _ _ _=>fE λ_ _=>rfl,λ_ _ _ _ _ _=>tQ λ_ _ _=>rfl,λ_ _ _ _ _ _=>fE λ_ _=>rfl,λ_ _ _ _ _ _=>fE λ_ _=>rfl,λ_ _ _ _ _ _=>tQ λ_ _ _=>rfl,λ_ _ _ _ _ _=>tQ λ_ _ _=>rfl,λ_ _ _ _ _ _=>fE λ_ _=>rfl,λ_ _ _ _ _ _=>fE λ_ _=>rfl,λ_ _ _ _ _ _=>fE λ_ _=>rfl,λ_ _ _ _ _ _=>Zn λ_ _ _ _=>rfl,λ_ _ _ _ _ _=>fE λ_ _=>rfl,λ_ _ _ _ _ _=>tQ λ_ _ _=>rfl,λ_ _ _ _ _ _=>fE λ_ _=>rfl,λ_ _ _ _ _ _=>fE λ_ _=>rfl,λ_ _ _ _ _ _=>tQ λ_ _ _=>rfl,λ_ _ _ _ _ _=>tQ λ_ _ _=>rfl,λ_ _ _ _ _ _=>fE λ_ _=>rfl,λ_ _ _ _ _ _=>fE λ_ _=>rfl,λ_ _ _ _ _ _=>tQ λ_ _ _=>rfl,λ_ _ _ _ _ _=>lz5 λ_ _ _ _ _=>rfl,λ_ _ _ _ _ _=>Zn λ_ _ _ _=>rfl,λ_ _ _ _ _ _=>fE λ_ _=>rfl,λ_ _ _ _ _ _=>gM λ_=>rfl,λ_ _ _ _ _ _=>tQ λ_ _ _=>rfl,λ_ _ _ _ _ _=>tQ λ_ _ _=>rfl,λ_ _ _ _ _ _=>gM λ_=>rfl,λ_ _ _ _ _ _=>tQ λ_ _ _=>rfl,λ_ _ _ _ _ _=>gM λ_=>rfl,λ_ _ _ _ _ _=>gM λ_=>rfl,λ_ _ _ _ _ _=>gM λ_=>rfl,λ_ _ _ _ _ _=>fE λ_ _=>rfl,λ_ _ _ _ _ _=>gM λ_=>rfl,λ_ _ _ _ _ _=>gM λ_=>rfl,λ_ _ _ _ _ _=>tQ λ_ _ _=>rfl,λ_ _ _ _ _ _=>fE λ_ _=>rfl,λ_ _ _ _ _ _=>fE λ_ _=>rfl,λ_ _ _ _ _ _=>fE λ_ _=>rfl,λ_ _ _ _ _ _=>fE λ_ _=>rfl,λ_ _ _ _ _ _=>fE λ_ _=>rfl,λ_ _ _ _ _ _=>gM λ_=>rfl,λ_ _ _ _ _ _=>tQ λ_ _ _=>rfl,λ_ _ _ _ _ _=>gM λ_=>rfl,λ_ _ _ _ _ _=>tQ λ_ _ _=>rfl,λ_ _ _ _ _ _=>gM λ_=>rfl,λ_ _ _ _ _ _=>fE λ_ _=>rfl,λ_ _ _ _ _ _=>fE λ_ _=>rfl,λ_ _ _ _ _ _=>fE λ_ _=>rfl,λ_ _ _ _ _ _=>fE λ_ _=>rfl,trivial⟩
end K32
end
open PySem PySem.W PyProof.Rows
set_option maxRecDepth 100000 in
set_option maxHeartbeats 0 in
theorem PySem.Challenge.cw_rowblade_k32_truths_of_a_row_holds : PySem.Challenge.rw_rowblade_k32_truths_of_a_row.Holds := by
 w_on
 refine holds_law (by
  unfold OpenLaw.wellSaid OpenRow.wellSaid OpenRow.partSaid looksOpen
  repeat' (with_reducible refine look_both ?_ ?_)
  all_goals decide +kernel) λaai=>?_
 refine holds_open (q:=KH.vw) (loose:=KH.lz) (Xt:=KH.Xt) (XP:=XL KH.vw []) (Yf:=Hook.obs (kHook KH.K KH.as KH.PN)) (Ya:=Hook.val (kHook KH.K KH.as KH.PN)) (YP:=Hook.says (kHook KH.K KH.as KH.PN)) (N:=22120) KH.left (Hook.of (kHook KH.K KH.as KH.PN)) (Hook.keeps (kHook KH.K KH.as KH.PN)) (λs e=>xl_of s (Bool.and_eq_true_iff.mp e).1) XL.keeps (by rfl) (by rfl) (by rfl) (λs e=>recFacts_of (Bool.and_eq_true_iff.mp e).2) (by rfl) (by first|assumption|decide +kernel) (by decide +kernel) ⟨rfl,rfl,rfl,rfl,rfl,by decide +kernel⟩ ?hw ?hc
 (case hw=>w_witness2)
 k_fill
 refine _root_.D.Uj (l:=PySem.Challenge.rw_rowblade_k32_truths_of_a_row) (m:=63) (n:=16) (K:=KH.K) (M:=K32.M) (Ft:=K32.Ft) (It:=K32.It) (i:=63) rfl (by decide) rfl ⟨rfl,by decide,by decide⟩ (λw h Y=>PySem.W.kIn_of Y) rfl rfl rfl rfl rfl (λP=>⟨⟨K32.JM P,K32.JO P,K32.bn⟩,K32.JN P⟩) λns _ hb=>⟨[],K32.Px 0⟩
