import PyProof.Rows.All
import Wide.All
import OpenK.AllK
import Wide.FinOn
import Lean
import PyProof.EqAt
import PyProof.EqKinds
import PyProof.TupleCall
import PyProof.Rows.EnumRows
import PyProof.EnumMake
import KE.KIntText
import PySem.Challenge.RW_rowblade_k23_whole_programs_read
set_option Elab.async false
set_option linter.all false
set_option maxRecDepth 100000
set_option compiler.extract_closed false
noncomputable section
namespace Z0
end Z0
open PySem.W renaming Frag→bC,findIn→fH,kia_one→k9,keepIn→mH,nsIn→mJ,emptyDict→oz,kitOne→oB,instObj→qz,fnOf→yD,plainGet→A1,isFn→A2,makesIn→A3,lookIn→Gk,hasDictIn→Gn,specialIn→Gp,takesIn→Gq,mroIn→Gs,methodObj→A4,plainGet_of→A5,plainOver→A6,takerIn→A7,callWith_K→A8,callWith_K0→A9,codeIn→A_,kitAny→Ba,handedIn→Lf,kitx_list→Lg,kitx_dict→Lh,kitx_own→Li,methodCall_KW→Lj,cellsFrom_some→Ll,Dflts→Lm
open List renaming length_append→bJ,length_cons→cQ,length_map→cT,mem_cons_self→eE,mem_cons_of_mem→eZ,size_toArray→fQ,mem_cons→cA,getElem?_eq_some_iff→cU,length_nil→dm,prefix_rfl→dC,append_nil→dH,getElem?_eq_getElem→dR,replicate→ed,all_cons→ee,mem_singleton→eo,all_eq_true→e_,getElem?_append_right→fJ,map_cons→fR,mem_append→f_,getElem?_map→gb,getElem?_set_self→gB,length_set→gC,range→gM,getElem?_set_ne→iH,getElem?_append_left→iI,mem_of_getElem?→iJ,lookup_cons→iK,any_cons→i8,mem_map→i9,lookup→kr,nodup_cons→ku,append_assoc→ky,map_map→kB,mem_append_right→k_,not_mem_nil→mK,zip_cons_cons→oF,map_append→oG,set→qA,replicate_succ→uc,flatten_cons→ud,length_take→yE,length_replicate→yF,length_singleton→yG,find?_cons→yH,mem_range→Bb,filterMap_cons→Bc,getElem?_replicate→Bd,map→Be,drop_zero→Bf,nodup_append→Bg,getElem_mem→Bh,mem_filter→Gu,nil_append→Gv,forIn_cons→Gw,length_range→Gx,getD_eq_getElem?_getD→Gy,any_map→Gz,ext_getElem?→wz,isEmpty_iff→wA,mem_filterMap→Bj,of_mem_zip→Bk,length_drop→Bl,foldl→Bm,map_nil→Bo,range_succ_eq_map→Bp,map_congr_left→Bq,drop_eq_getElem_cons→Br,length_zip→Bs,prefix_append→Bt,cons_append→Bu,contains_iff_mem→Bv,any_nil→Bw,drop_left→By,take→BA,length_filter_le→BB,mem_append_left→Ln,all_map→Lo,any_eq_true→Lp,map_take→Lq,take_of_length_le→Lr,map_eq_nil_iff→Ls,idxOf?→Lu,findIdx?_eq_some_iff_getElem→Lv,zip_nil_right→Lw,drop_length→Lx,getElem?_eq_none→Ly,range'→Lz,take_succ_cons→LA,flatten_append→LB,nodup_nil→LC,take_length→LD,filter_congr→LF,mem_of_mem_take→LG,filter_cons→LH,take_succ_eq_append_getElem→LJ
open Bool renaming and_eq_true→c6,false_ne_true→eK,and_eq_true_iff→ue,not_true→BC,false_eq_true→BD,or_false→GA,eq_iff_iff→GC,or_eq_true→wB,and_false→wC,false_and→BE,beq_eq_decide_eq→BG,and_true→BH,true_and→BI,not_false→BJ,eq_false_or_eq_true→LK,or_eq_false_iff→LL,not_eq_true'→LO,not_eq_true→LP
open Nat renaming le_refl→dS,ne_of_lt→dU,zero_le→gD,le_trans→gO,lt_of_lt_of_le→iL,lt_irrefl→oH,sub_self→oJ,zero_add→qB,le_add_right→uf,lt_succ_self→yI,min_eq_left→BK,log2_lt→BL,ne_of_gt→GD,le_of_eq→GF,lt_of_le_of_lt→wD,le_of_lt→BN,lt_succ_of_lt→BO,succ→BP,succ_mul→LQ,lt_trans→LR,min_self→LS,not_lt_zero→LU,mul_succ→LV
open Option renaming bind_eq_some_iff→e9,map_eq_some_iff→cV,some→jN,isSome_iff_exists→BQ,isSome_map→BR,getD_none→LW,none→LX,map_some→LY
open Int renaming ofNat→kC,emod_nonneg→wF,emod_lt_of_pos→BS,ediv_nonneg→LZ
open PyProof.Rows renaming callWith_type1→BU,boot_list→BV,boot_isinstance→BW,callWith_builtin1→L0,recsOf→L3,drecsOf→L4,boot_enumerate→L5,boot_str→L6,boot_int→L7
namespace Z1
end Z1
abbrev c9:=List (PySem.Addr × PySem.Obj)
abbrev bQ (x:PySem.Str):Prop:=(x == ("__debug__":PySem.Str))=false
abbrev iM (x:PySem.Str):Prop:=(x == ("__classdict__":PySem.Str))=false
namespace L2
open PySem PySem.Spec PyProof.Rows
abbrev Key:=Sum Int Str
def nh:Key->Value->Bool
 | .inl k,v=>Value.isInt k v
 | .inr x,v=>Value.isStrOf x v
def abA (w:World):Key->Int
 | .inl k=>hashInt k
 | .inr x=>hashStr w x
theorem bL:∀ {k:Key}{v:Value},nh k v=true->(∃ i t,k=Sum.inl i/\v=Value.int i t)\/(∃ x t,k=Sum.inr x/\v=Value.str x t)
 | .inl i,v,h=>by
  obtain ⟨t,e⟩:=Value.isInt_shape (k:=i) (v:=v) h
  exact .inl ⟨i,t,rfl,e⟩
 | .inr x,v,h=>by
  obtain ⟨t,e⟩:=Value.isStrOf_shape (x:=x) (v:=v) h
  exact .inr ⟨x,t,rfl,e⟩
theorem yJ (i:Int) (t:Tok):nh (.inl i) (.int i t)=true:=by simp [nh,Value.isInt]
theorem yK (x:Str) (t:Tok):nh (.inr x) (.str x t)=true:=by simp [nh,Value.isStrOf]
theorem NY (a b:Int):decide ((Sum.inl a:Key)=Sum.inl b)=(a == b):=by
 by_cases e:a=b
 ·subst e;simp
 ·have h:¬ (Sum.inl a:Key)=Sum.inl b:=fun q=>e (Sum.inl.inj q)
  rw [decide_eq_false h]
  exact (beq_eq_false_iff_ne.mpr e).symm
theorem NZ (a b:Str):decide ((Sum.inr a:Key)=Sum.inr b)=decide (a=b):=by
 by_cases e:a=b
 ·subst e;simp
 ·have h:¬ (Sum.inr a:Key)=Sum.inr b:=fun q=>e (Sum.inr.inj q)
  rw [decide_eq_false h,decide_eq_false e]
theorem N1 (a:Int) (b:Str):decide ((Sum.inl a:Key)=Sum.inr b)=false:=decide_eq_false (fun q=>nomatch q)
theorem N3 (a:Str) (b:Int):decide ((Sum.inr a:Key)=Sum.inl b)=false:=decide_eq_false (fun q=>nomatch q)
def ck (prog:Program) (w:World):PySem.KeyKind prog w Key where
 is:=nh
 hash:=abA w
 inj:=fun v a b ha hb=>by
  rcases bL ha with ⟨i,t,rfl,rfl⟩ | ⟨x,t,rfl,rfl⟩
  ·rcases bL hb with ⟨j,u,rfl,e⟩ | ⟨y,u,rfl,e⟩
   ·injection e with e1 _;rw [e1]
   ·exact nomatch e
  ·rcases bL hb with ⟨j,u,rfl,e⟩ | ⟨y,u,rfl,e⟩
   ·exact nomatch e
   ·injection e with e1 _;rw [e1]
 byValue:=fun k v h=>by
  rcases bL h with ⟨i,t,rfl,rfl⟩ | ⟨x,t,rfl,rfl⟩<;>rfl
 pyHash:=fun hv h=>by
  rcases bL hv with ⟨i,t,rfl,rfl⟩ | ⟨x,t,rfl,rfl⟩
  ·exact wpAny_pyHash_int h
  ·exact wpAny_pyHash_str h
 eqBool:=fun hu hv h=>by
  rcases bL hu with ⟨i,t,rfl,rfl⟩ | ⟨x,t,rfl,rfl⟩
  ·rcases bL hv with ⟨j,u,rfl,rfl⟩ | ⟨y,u,rfl,rfl⟩
   ·rw [NY] at h;exact wpAny_eqBool_int h
   ·rw [N1] at h;exact SeqAt.EqAt.int_str i t y u _ _ _ _ h
  ·rcases bL hv with ⟨j,u,rfl,rfl⟩ | ⟨y,u,rfl,rfl⟩
   ·rw [N3] at h;exact SeqAt.EqAt.str_int x t j u _ _ _ _ h
   ·rw [NZ] at h;exact wpAny_eqBool_str h
 «strs»:=fun k x t v h=>by
  rcases bL h with ⟨i,u,rfl,e⟩ | ⟨y,u,rfl,e⟩
  ·exact nomatch e
  ·injection e with e1 _
   subst e1
   cases v<;>rfl
theorem qC (prog:Program) (w:World) (i:Int) (t:Tok):(ck prog w).is (.inl i) (.int i t)=true:=yJ i t
theorem qD (prog:Program) (w:World) (x:Str) (t:Tok):(ck prog w).is (.inr x) (.str x t)=true:=yK x t
inductive V where
 | non | bl (b:Bool) | int (i:Int) | str (x:Str) | byt (b:Array UInt8) | flt (b:UInt64) | ref (a:Addr) | ty (n:String)
 deriving DecidableEq
def RelV:V->Value->Prop
 | .non,u=>u=Value.none
 | .bl b,u=>u=Value.bool b
 | .int i,u=>∃ t,u=Value.int i t
 | .str x,u=>∃ t,u=Value.str x t
 | .byt b,u=>∃ t,u=Value.bytes b t
 | .flt b,u=>∃ t,u=Value.float b t
 | .ref a,u=>u=Value.ref a
 | .ty n,u=>u=Value.type n
abbrev Vals:List V->List Value->Prop:=Paired RelV
theorem Vals.length {xs:List V}{us:List Value}(r:Vals xs us):xs.length=us.length:=Paired.length r
theorem Vals.get:∀ {xs:List V}{us:List Value}{i:Nat}{x:V},Vals xs us->xs[i]?=some x->∃ u,us[i]?=some u/\RelV x u
 | _,_,_,_,.nil,e=>by simp at e
 | _,_,0,_,.cons r _,e=>by simp at e;subst e;exact ⟨_,rfl,r⟩
 | _,_,i+1,x,.cons _ t,e=>by
  obtain ⟨u,h1,h2⟩:=Vals.get (i:=i) (x:=x) t (by simpa using e)
  exact ⟨u,by simpa using h1,h2⟩
theorem Vals.set {x:V}{u:Value}(r:RelV x u):∀ {xs:List V}{us:List Value}(i:Nat),Vals xs us->Vals (xs.set i x) (us.set i u)
 | _,_,_,.nil=>.nil
 | _,_,0,.cons _ t=>.cons r t
 | _,_,i+1,.cons q t=>.cons q (Vals.set r i t)
theorem Vals.append:∀ {xs ys:List V}{us ws:List Value},Vals xs us->Vals ys ws->Vals (xs++ys) (us++ws)
 | _,_,_,_,.nil,s=>s
 | _,_,_,_,.cons r t,s=>.cons r (Vals.append t s)
theorem Vals.take:∀ {xs:List V}{us:List Value}(n:Nat),Vals xs us->Vals (xs.take n) (us.take n)
 | _,_,0,_=>.nil
 | _,_,_+1,.nil=>.nil
 | _,_,n+1,.cons r t=>.cons r (Vals.take n t)
theorem Vals.drop:∀ {xs:List V}{us:List Value}(n:Nat),Vals xs us->Vals (xs.drop n) (us.drop n)
 | _,_,0,r=>r
 | _,_,_+1,.nil=>.nil
 | _,_,n+1,.cons _ t=>Vals.drop n t
def i_:Option V->Option Value->Prop
 | some v,some u=>RelV v u
 | none,none=>True
 | _,_=>False
def KV {κ:Type}:List (κ × V)->List (κ × Value)->Prop:=Paired fun (p:κ × V) (q:κ × Value)=>p.1=q.1/\RelV p.2 q.2
def kV:Key->V
 | .inl i=>.int i
 | .inr x=>.str x
inductive HO where
 | lst (xs:List V)
 | tup (xs:List V)
 | dK (a7:List (Key × V)) | dT (a7:List (List Key × V))
 | set (S:Int->Bool) (n:Nat)
 | ins (C dx:Addr) (fs:List (Str × V))
 | own (x:Addr)
 | xd (fs:List (Str × V))
 | met (f x:Addr)
 | mF (lo hi:Int)
 | jM (o:Obj) (u:HO)
 | tbl (ps:Array Value)
 | ext (φ:Heap->Prop)
abbrev Hp:=Addr->Option HO
def upd (H:Hp) (a:Addr) (o:HO):Hp:=fun b=>if b=a then some o else H b
theorem aq {H:Hp}{a:Addr}{o:HO}:upd H a o a=some o:=by unfold upd;rw [if_pos rfl]
theorem au {H:Hp}{a b:Addr}{o:HO}(h:b≠a):upd H a o b=H b:=by unfold upd;rw [if_neg h]
theorem wG {H:Hp}{a:Addr}{o u:HO}:upd (upd H a o) a u=upd H a u:=by
 funext b;unfold upd;split<;>rfl
theorem Uz {H:Hp}{a b:Addr}{o u:HO}(h:H a=some o) (h':H b=some u) (d:o≠u):a≠b:=by
 intro e;subst e;rw [h] at h';exact d (jN.inj h')
theorem aO {H:Hp}{a b:Addr}{o:HO}(h:H a=some o) (h':H b=none):a≠b:=by
 intro e;subst e;rw [h] at h';cases h'
section
variable (P:Program) (w:World)
def bY (H:Hp) (h:Heap) (a:Addr):HO->Prop
 | .lst xs=>xs.length<=sizeLine/\∃ (its:List Value) (n:Nat),Vals xs its/\h.get? a=some { cls:=.type "list", data:=.seq its.toArray n }
 | .tup xs=>xs.length<=sizeLine/\∃ its:List Value,Vals xs its/\IsTup h a its.toArray
 | .dK a7=>a7.length<=sizeLine/\(a == sysModules)=false/\∃ vs,KV a7 vs/\h.DictOf (ck P w) a vs
 | .dT a7=>a7.length<=sizeLine/\(a == sysModules)=false/\∃ xs:List (List Key × Addr × Value),
   Paired (fun (p:List Key × V) (q:List Key × Addr × Value)=>p.1=q.1/\H q.2.1=some (.tup (p.1.map kV))/\RelV p.2 q.2.2) a7 xs /\
   ∃ o es ep,h.get? a=some o/\o.ExactDict/\o.data=.dict es ep/\es.toList=xs.map (entryOfKey (tupleKind (ck P w)))/\(xs.map (·.1)).Nodup
 | .set S n=>h.SetOf (intKind P w) a S n
 | .ins C dx fs=>H dx=some (.own a)/\fs.length<=1000/\dx≠a/\h.get? a=some (qz C dx) /\
   ∃ mA,h.Ns1 dx mA/\(∀ f,i_ (fs.lookup f) (mA f))/\PySem.Within mA (fs.map (·.1))
 | .own _=>∃ o,h.get? a=some o
 | .xd fs=>∃ mA,h.Ns1 a mA/\∀ f,i_ (fs.lookup f) (mA f)
 | .mF lo hi=>∃ t u v,h.get? a=some { cls:=.type "range", data:=.fields #[.int lo t,.int hi u,.int 1 v] }
 | .jM o u=>h.get? a=some o/\bY H h a u
 | .tbl ps=>h.get? a=some { cls:=.none,data:=.fields ps }
 | .met f x=>h.get? a=some (A4 (.ref f) (.ref x))
 | .ext φ=>φ h/\(∃ o,h.get? a=some o)/\∀ h1 h2:Heap,φ h1->(∀ o,h1.get? a=some o->h2.get? a=some o)->φ h2
def iZ (H:Hp) (h:Heap):Prop:=∀ a o,H a=some o->bY P w H h a o
end
variable {C a dx f x:Addr}{A:Around}{b e o:Expr}{h h':Heap}{H H':Hp}{aa:c9}{es:List Expr}{p pos:Pos}{P:Program}{s:Shared}{E:Value->Shared->Prop}{w:World}
section
variable {o:HO}
theorem bY.lt (x:bY P w H h a o):a<h.objs.size:=by
 cases o with
 | lst xs=>obtain ⟨_,_,_,_,e⟩:=x;exact Heap.lt_size e
 | tup xs=>obtain ⟨_,_,_,p⟩:=x;exact p.lt
 | dK a7=>obtain ⟨_,_,_,_,o,_,_,e,_⟩:=x;exact Heap.lt_size e
 | dT a7=>obtain ⟨_,_,_,_,o,_,_,e,_⟩:=x;exact Heap.lt_size e
 | set S n=>obtain ⟨o,_,_,_,e,_⟩:=x;exact Heap.lt_size e
 | ins C dx fs=>obtain ⟨_,_,_,e,_⟩:=x;exact Heap.lt_size e
 | own y=>obtain ⟨_,e⟩:=x;exact Heap.lt_size e
 | xd fs=>obtain ⟨_,⟨_,_,_,e,_⟩,_⟩:=x;exact Heap.lt_size e
 | mF lo hi=>obtain ⟨_,_,_,e⟩:=x;exact Heap.lt_size e
 | jM ob u=>obtain ⟨e,_⟩:=x;exact Heap.lt_size e
 | tbl ps=>exact Heap.lt_size (show h.get? a=some _ from x)
 | met f y=>exact Heap.lt_size (show h.get? a=some _ from x)
 | ext φ=>obtain ⟨_,⟨_,e⟩,_⟩:=x;exact Heap.lt_size e
theorem Paired.N4 {α β:Type}{F G:α->β->Prop}:∀ {l₁:List α}{l₂:List β},Paired F l₁ l₂->(∀ a b,F a b->G a b)->Paired G l₁ l₂
 | _,_,.nil,_=>.nil
 | _,_,.cons r t,f=>.cons (f _ _ r) (Paired.N4 t f)
theorem bY.ug (x:bY P w H h a o) (k:∀ b u,(b=a\/H b=some (.own a))->h.get? b=some u->h'.get? b=some u)
  (ho:∀ b,H b=some (.own a)->H' b=some (.own a)) (ht:∀ b xs,H b=some (.tup xs)->H' b=some (.tup xs)):bY P w H' h' a o:=by
 induction o with
 | lst xs=>obtain ⟨z,its,n,r,e⟩:=x;exact ⟨z,its,n,r,k _ _ (.inl rfl) e⟩
 | tup xs=>obtain ⟨z,its,r,ob,e,c⟩:=x;exact ⟨z,its,r,ob,k _ _ (.inl rfl) e,c⟩
 | dK a7=>obtain ⟨z,y,vs,r,ob,es,ep,e,c⟩:=x;exact ⟨z,y,vs,r,ob,es,ep,k _ _ (.inl rfl) e,c⟩
 | dT a7=>
  obtain ⟨z,y,xs,r,ob,es,ep,e,c⟩:=x
  exact ⟨z,y,xs,Paired.N4 r fun p q z=>⟨z.1,ht _ _ z.2.1,z.2.2⟩,ob,es,ep,k _ _ (.inl rfl) e,c⟩
 | set S n=>obtain ⟨ob,es,ep,t,e,c⟩:=x;exact ⟨ob,es,ep,t,k _ _ (.inl rfl) e,c⟩
 | ins C dx fs=>
  obtain ⟨d,z,ne,e,mA,⟨od,es,ep,e2,c⟩,r⟩:=x
  exact ⟨ho _ d,z,ne,k _ _ (.inl rfl) e,mA,⟨od,es,ep,k _ _ (.inr d) e2,c⟩,r⟩
 | own y=>obtain ⟨ob,e⟩:=x;exact ⟨ob,k _ _ (.inl rfl) e⟩
 | xd fs=>obtain ⟨mA,⟨od,es,ep,e,c⟩,r⟩:=x;exact ⟨mA,⟨od,es,ep,k _ _ (.inl rfl) e,c⟩,r⟩
 | mF lo hi=>obtain ⟨t,u,v,e⟩:=x;exact ⟨t,u,v,k _ _ (.inl rfl) e⟩
 | jM ob u ih=>obtain ⟨e,q⟩:=x;exact ⟨k _ _ (.inl rfl) e,ih q⟩
 | tbl ps=>
  have e:h.get? a=some { cls:=.none,data:=.fields ps }:=x
  show h'.get? a=some { cls:=.none,data:=.fields ps }
  exact k a _ (.inl rfl) e
 | met f y=>
  have e:h.get? a=some (A4 (.ref f) (.ref y)):=x
  show h'.get? a=some (A4 (.ref f) (.ref y))
  exact k a _ (.inl rfl) e
 | ext φ=>obtain ⟨p,⟨o,e⟩,st⟩:=x;exact ⟨st _ _ p fun o q=>k _ _ (.inl rfl) q,⟨o,k _ _ (.inl rfl) e⟩,st⟩
theorem iZ.lt (x:iZ P w H h) (e:H a=some o):a<h.objs.size:=(x a o e).lt
theorem iZ.fresh (x:iZ P w H h) (e:h.objs.size<=a):H a=none:=by
 cases q:H a with
 | none=>rfl
 | some u=>exact absurd (iL (x.lt q) e) (oH _)
theorem iZ.kept (x:iZ P w H h) (k:∀ b u,h.get? b=some u->h'.get? b=some u):iZ P w H h':=fun a o e=>
 (x a o e).ug (fun b u _ q=>k b u q) (fun _ q=>q) fun _ _ q=>q
theorem iZ.laid (x:iZ P w H h) (k:∀ b u,h.get? b=some u->h'.get? b=some u) (hp:h.objs.size<=a) (new:bY P w (upd H a o) h' a o):iZ P w (upd H a o) h':=fun b u e=>by
 have hn:=x.fresh hp
 by_cases hb:b=a
 ·subst hb;rw [aq] at e;cases e;exact new
 ·rw [au hb] at e
  exact (x b u e).ug (fun c v _ q=>k c v q) (fun c q=>by rw [au (aO q hn)];exact q) fun c xs q=>by rw [au (aO q hn)];exact q
end
def Rd (H:Hp) (a:Addr) (u:HO):Prop:=H a=some u\/∃ o,H a=some (.jM o u)
theorem Rd.ok {P:Program}{w:World}{H:Hp}{h:Heap}{a:Addr}{u:HO}(r:Rd H a u) (x:iZ P w H h):bY P w H h a u:=by
 rcases r with r | ⟨o,r⟩
 ·exact x a u r
 ·obtain ⟨_,q⟩:=x a _ r
  exact q
def UA:Option HO->Prop
 | some (.lst _)=>True
 | some (.dK _)=>True
 | some (.dT _)=>True
 | some (.set _ _)=>True
 | some (.ins _ _ _)=>True
 | some (.ext _)=>True
 | _=>False
section
variable {e:Addr}{o':HO}
theorem iZ.write (ok:iZ P w H h) (mu:UA (H x)) (he:e=x\/H e=some (.own x)) (k:∀ b u,b≠e->h.get? b=some u->h'.get? b=some u) (Ud:∃ u,h'.get? e=some u)
  (new:bY P w (upd H x o') h' x o'):iZ P w (upd H x o') h':=fun b u q=>by
 have UB:∀ c y,H c=some (.own y)->c≠x:=fun c y r z=>by subst z;rw [r] at mu;exact mu
 have abB:∀ c xs,H c=some (.tup xs)->c≠x:=fun c xs r z=>by subst z;rw [r] at mu;exact mu
 by_cases hb:b=x
 ·subst hb;rw [aq] at q;cases q;exact new
 ·rw [au hb] at q
  by_cases hbe:b=e
  ·have q':H b=some (.own x):=by
    rcases he with z | z
    ·exact absurd (hbe.trans z) hb
    ·rw [hbe];exact z
   rw [q] at q';cases q'
   obtain ⟨v,hv⟩:=Ud
   exact ⟨v,by rw [hbe];exact hv⟩
  ·refine (ok b u q).ug (fun c v hc r=>k c v ?_ r) (fun c r=>by rw [au (UB c b r)];exact r) fun c xs r=>by rw [au (abB c xs r)];exact r
   rcases hc with rfl | hc
   ·exact hbe
   ·rintro rfl
    rcases he with z | z
    ·exact UB c b hc z
    ·rw [hc] at z;cases z;exact hb rfl
end
structure Un (fs ex:List Addr) (H H':Hp) (h h':Heap):Prop where
 keep:∀ b o,h.get? b=some o->H b=none->b ∉ fs->b ∉ ex->h'.get? b=some o
 slot:∀ b o,h.get? b=some o->H b=none->b∈fs->b ∉ ex->∃ sl,h'.get? b=some { o with slots:=sl }
 free:∀ b o,h.get? b=some o->H b=none->b ∉ ex->H' b=none
 there:∀ b o,h.get? b=some o->b ∉ ex->∃ o',h'.get? b=some o'
 qE:∀ b xs,H b=some (.tup xs)->H' b=some (.tup xs)
 oK:∀ b o u,H b=some (.jM o u)->H' b=some (.jM o u)
 qF:∀ b ps,H b=some (.tbl ps)->∃ more,H' b=some (.tbl (ps++more))
section
variable {fs uh ex ex':List Addr}{H1 H2:Hp}{h1 h2:Heap}{e:Addr}{o:HO}
theorem Un.any (u:Un fs ex H H1 h h1) {b:Addr}{ob:Obj}(q:h.get? b=some ob) (n:H b=none) (hx:b ∉ ex):∃ sl,h1.get? b=some { ob with slots:=sl }:=by
 by_cases hb:b∈fs
 ·exact u.slot b ob q n hb hx
 ·exact ⟨ob.slots,u.keep b ob q n hb hx⟩
theorem Un.kept (k:∀ b u,h.get? b=some u->h'.get? b=some u):Un fs ex H H h h':=
 ⟨fun b ob q _ _ _=>k b ob q,fun b ob q _ _ _=>⟨ob.slots,k b ob q⟩,fun _ _ _ n _=>n,fun b ob q _=>⟨ob,k b ob q⟩,fun _ _ q=>q,fun _ _ _ q=>q,fun _ ps q=>⟨#[],by rw [q];simp⟩⟩
theorem Un.refl:Un fs ex H H h h:=Un.kept fun _ _ q=>q
theorem Un.laid (k:∀ b u,h.get? b=some u->h'.get? b=some u) (hp:h.objs.size<=a) (hn:H a=none):Un fs ex H (upd H a o) h h' where
 keep:=fun b u q _ _ _=>k b u q
 slot:=fun b u q _ _ _=>⟨u.slots,k b u q⟩
 free:=fun b u q n _=>by rw [au (dU (iL (Heap.lt_size q) hp))];exact n
 there:=fun b u q _=>⟨u,k b u q⟩
 qE:=fun b xs q=>by rw [au (aO q hn)];exact q
 oK:=fun b u xs q=>by rw [au (aO q hn)];exact q
 qF:=fun b ps q=>⟨#[],by rw [au (aO q hn),q];simp⟩
theorem Un.write (mu:UA (H x)) (he:e=x\/H e=some (.own x)) (k:∀ b u,b≠e->h.get? b=some u->h'.get? b=some u) (Ud:∃ u,h'.get? e=some u):Un fs ex H (upd H x o) h h':=by
 have hx:∀ b,H b=none->b≠x:=fun b n z=>by subst z;rw [n] at mu;exact mu
 have hb:∀ b,H b=none->b≠e:=fun b n z=>by
  subst z
  rcases he with r | r
  ·exact hx b n r
  ·rw [n] at r;cases r
 have hm:∀ b u,H b=some u->¬ UA (some u)->b≠x:=fun b u q nm z=>by subst z;rw [q] at mu;exact nm mu
 refine ⟨fun b u q n _ _=>k b u (hb b n) q,fun b u q n _ _=>⟨u.slots,k b u (hb b n) q⟩,fun b u q n _=>by rw [au (hx b n)];exact n,fun b u q _=>?_,
  fun b xs q=>by rw [au (hm b _ q fun z=>z)];exact q,fun b u xs q=>by rw [au (hm b _ q fun z=>z)];exact q,fun b ps q=>⟨#[],by rw [au (hm b _ q fun z=>z),q];simp⟩⟩
 by_cases hbe:b=e
 ·subst hbe;exact Ud
 ·exact ⟨u,k b u hbe q⟩
end
def trk (h:Heap) (H:Hp):List Addr:=(gM h.objs.size).filter fun a=>(H a).isSome
def oN (h:Heap) (H:Hp):Heap:=PySem.W.hideAll h (trk h H)
theorem yL (h:Heap) (H:Hp):(oN h H).objs.size=h.objs.size:=PySem.W.hideAll_size _ _
theorem BX {h:Heap}{H:Hp}{b:Addr}{o:Obj}(e:h.get? b=some o) (n:H b=none):(oN h H).get? b=some o:=
 PySem.W.hideAll_get _ e fun hm=>by
  have q:(H b).isSome=true:=(Gu.mp hm).2
  rw [n] at q;simp at q
theorem GG {h:Heap}{H:Hp}{b:Addr}{o:Obj}(e:(oN h H).get? b=some o):h.get? b=some o/\H b=none:=by
 have e':h.get? b=some o:=PySem.W.of_hideAll (trk h H) e
 refine ⟨e',?_⟩
 cases q:H b with
 | none=>rfl
 | some x=>
  have hm:b∈trk h H:=Gu.mpr ⟨Bb.mpr (Heap.lt_size e'),by simp [q]⟩
  have z:(oN h H).get? b=none:=PySem.W.hideAll_none (trk h H) hm
  rw [z] at e;cases e
def GH (g h:Heap) (L:Addr):c9:=(gM h.objs.size).filterMap fun a=>if a=L\/(g.get? a).isSome=true then none else (h.get? a).map fun o=>(a,o)
def rest (g h:Heap) (L d:Addr):c9:=(GH g h L).filter fun p=>decide (p.1≠d)
structure Mod (K:bC) (mg:Str->Option Value) (base:Heap):Prop where
 kin:K.In base
 glob:base.Ns mainGlobals mg
 blt:∃ mb,base.Ns builtinsNs mb/\∀ x:Str,x ≠ "__name__" -> mb x=bootBuiltins x
 nolimit:base.NoLimit
structure Cx where
 prog:Program
 w:World
 K:bC
 mg:Str->Option Value
 base:Heap
 A:Around
 N:List Str
 s₀:Shared
 H₀:Hp
 env:Env
 outer:List Env
 stack:List Env
 ex:List Addr
 fn:Str->Bool
 calm:Bool
 pn:c9
 xe:Value->Shared->Prop
def BY (l:List Env):List Addr:=l.filterMap (·.frame)
abbrev Cx.fs (X:Cx):List Addr:=BY X.outer
def t_ (sc:Scope) (x:Str):Prop:=sc.names.lookup x=some .local\/sc.names.lookup x=some .cell\/sc.names.lookup x=some .free
def Loc (sc:Scope) (x:Str):Prop:=sc.names.lookup x=some .local\/sc.names.lookup x=some .cell
def Look (env:Env) (h:Heap) (m:Str->Option Value) (x:Str) (u:Value):Prop:=
 (env.kindOf x=some .local/\m x=some u)\/((env.kindOf x=some .cell\/env.kindOf x=some .free)/\∃ c,env.cells.lookup x=some c/\h.IsCell c (some u))
structure Cx.Ok (X:Cx):Prop where
 mod:Mod X.K X.mg X.base
 kind:X.env.scope.kind=.function
 glob:X.env.globals=mainGlobals
 blt:X.env.builtins=builtinsNs
 above:X.s₀.heap.objs.size<=X.env.locals
 inj:∀ x y c,X.env.cells.lookup x=some c->X.env.cells.lookup y=some c->x=y
 has:∀ x,(X.env.kindOf x=some .cell\/X.env.kindOf x=some .free)->∃ c,X.env.cells.lookup x=some c
 cab:∀ x c,X.fn x=true->X.env.cells.lookup x=some c->X.s₀.heap.objs.size<=c
 hd:X.calm=true->X.A.handled=none
 frames:X.A.frames=some X.stack
 stk:X.stack=X.outer\/(X.stack=X.env::X.outer/\X.env.frame=some X.env.locals)
 exf:∀ b∈X.ex,b≠X.env.locals/\∀ x c,X.env.cells.lookup x=some c->c≠b
 bs:∀ b o,X.base.get? b=some o->X.s₀.heap.get? b=some o/\X.H₀ b=none
 bsz:X.base.objs.size<=X.s₀.heap.objs.size
 noex:∀ b o,X.base.get? b=some o->b ∉ X.ex
 exfs:∀ b∈X.ex,b ∉ X.fs
 kD:X.s₀.heap.FunFrames X.base X.outer
 frf:∀ b∈X.fs,X.H₀ b=none
structure Inv (X:Cx) (aa:c9) (σ:List (Option V)) (H:Hp) (s:Shared):Prop where
 ok:X.Ok
 os:s.os=X.s₀.os
 bare:AllBare s.gens
 base:Un X.fs X.ex X.H₀ H X.s₀.heap s.heap
 loc:∃ m,s.heap.Ns X.env.locals m/\∀ (i:Nat) (x:Str) (v:V),X.N[i]?=some x->σ[i]?=some (some v)->t_ X.env.scope x->∃ u,RelV v u/\Look X.env s.heap m x u
 cell:∀ x c,X.env.cells.lookup x=some c->∃ v,s.heap.IsCell c v
 free:H X.env.locals=none
 freeC:∀ x c,X.env.cells.lookup x=some c->H c=none
 pin:∀ p∈X.pn++aa,s.heap.get? p.1=some p.2/\H p.1=none/\p.1≠X.env.locals/\p.1 ∉ X.fs/\∀ v,p.2.data≠.cell v
 bW:iZ X.prog X.w H s.heap
 len:σ.length=X.N.length
section
variable {X:Cx}{σ:List (Option V)}
theorem Cx.Ok.abC (ok:X.Ok) {b:Addr}{o:Obj}(e:X.base.get? b=some o):b ∉ X.fs:=fun hb=>by
 have:=(ok.kD.mem hb).1
 rw [e] at this;cases this
theorem Inv.bs (I:Inv X aa σ H s):∀ b o,X.base.get? b=some o->s.heap.get? b=some o/\H b=none:=fun b o e=>
 ⟨I.base.keep b o (I.ok.bs b o e).1 (I.ok.bs b o e).2 (I.ok.abC e) (I.ok.noex b o e),I.base.free b o (I.ok.bs b o e).1 (I.ok.bs b o e).2 (I.ok.noex b o e)⟩
theorem Inv.bk (I:Inv X aa σ H s):∀ b o,X.base.get? b=some o->s.heap.get? b=some o:=fun b o e=>(I.bs b o e).1
theorem Inv.mod (I:Inv X aa σ H s):Mod X.K X.mg X.base:=I.ok.mod
theorem Inv.ja (I:Inv X aa σ H s):X.K.In s.heap:=I.ok.mod.kin.keeps I.bk
theorem Inv.lt (I:Inv X aa σ H s):X.env.locals<s.heap.objs.size:=let ⟨_,hn,_⟩:=I.loc;hn.lt
theorem Inv.sz (I:Inv X aa σ H s):X.s₀.heap.objs.size<=s.heap.objs.size:=gO I.ok.above (BN I.lt)
theorem Inv.abD (I:Inv X aa σ H s) {a:Addr}(h:s.heap.objs.size<=a):a ∉ X.fs:=fun hb=>by
 obtain ⟨_,o,ho,_⟩:=I.ok.kD.mem hb
 exact absurd (iL (Heap.lt_size ho) (gO I.sz h)) (oH _)
theorem Inv.N5 (I:Inv X aa σ H s):∀ x c,X.env.cells.lookup x=some c->c≠X.env.locals:=fun x c e z=>by
 obtain ⟨v,o,ho,hd⟩:=I.cell x c e
 obtain ⟨m,⟨o',es,ep,N6,hd',_⟩,_⟩:=I.loc
 rw [z,N6] at ho;cases ho;rw [hd'] at hd;cases hd
theorem Inv.kD (I:Inv X aa σ H s):s.heap.FunFrames X.base X.outer:=by
 have all:∀ (l:List Env),(∀ b∈BY l,b∈X.fs)->X.s₀.heap.FunFrames X.base l->s.heap.FunFrames X.base l:=by
  intro l
  induction l with
  | nil=>intro _ _;trivial
  | cons env r ih=>
   intro hs hl
   obtain ⟨hk,⟨L,o,hf,hn,ho,hd⟩,hr⟩:=hl
   have hL:L∈X.fs:=hs L (by unfold BY;rw [Bc,hf];exact eE)
   obtain ⟨sl,e⟩:=I.base.slot L o ho (I.ok.frf L hL) hL fun z=>I.ok.exfs L z hL
   exact ⟨hk,⟨L,_,hf,hn,e,hd⟩,ih (fun b hb=>hs b (by unfold BY;rw [Bc,hf];exact eZ _ hb)) hr⟩
 exact all X.outer (fun _ hb=>hb) I.ok.kD
theorem Inv.stack (I:Inv X aa σ H s):s.heap.FunFrames X.base X.stack:=by
 rcases I.ok.stk with e | ⟨e,hf⟩
 ·rw [e];exact I.kD
 ·rw [e]
  obtain ⟨m,hn,_⟩:=I.loc
  refine .cons (by rw [I.ok.kind];decide) hf hn ?_ I.kD
  exact Heap.get?_none_of_le (gO I.ok.bsz I.ok.above)
theorem Inv.oO (I:Inv X aa σ H s):∀ b∈BY X.stack,b∈X.env.locals::X.fs:=fun b hb=>by
 rcases I.ok.stk with e | ⟨e,hf⟩
 ·rw [e] at hb;exact eZ _ hb
 ·rw [e] at hb
  unfold BY at hb
  rw [Bc,hf] at hb
  exact hb
theorem Inv.wH (I:Inv X aa σ H s):∀ b∈BY X.stack,H b=none:=fun b hb=>by
 rcases cA.mp (I.oO b hb) with e | hb
 ·rw [e];exact I.free
 ·obtain ⟨_,o,ho,_⟩:=I.ok.kD.mem hb
  exact I.base.free b o ho (I.ok.frf b hb) fun z=>I.ok.exfs b z hb
theorem Inv.step {g':Array GenState}{t':Nat}{d':Drawn}{ch:List Addr}(I:Inv X aa σ H s)
  (AS:∀ b∈ch,(b∈X.ex\/X.s₀.heap.objs.size<=b)/\b≠X.env.locals/\(∀ x c,X.env.cells.lookup x=some c->c≠b)/\∀ p∈X.pn++aa,p.1≠b)
  (keep:∀ b o,b≠X.env.locals->b ∉ X.fs->b ∉ ch->s.heap.get? b=some o->H b=none->h'.get? b=some o)
  (slot:∀ b o,b≠X.env.locals->b∈X.fs->b ∉ ch->s.heap.get? b=some o->H b=none->∃ sl,h'.get? b=some { o with slots:=sl }) (free:∀ b o,b ∉ ch->s.heap.get? b=some o->H b=none->H' b=none)
  (there:∀ b o,b ∉ ch->s.heap.get? b=some o->∃ o',h'.get? b=some o')
  (qE:∀ b xs,H b=some (.tup xs)->H' b=some (.tup xs)) (oK:∀ b o u,H b=some (.jM o u)->H' b=some (.jM o u)) (qF:∀ b ps,H b=some (.tbl ps)->∃ more,H' b=some (.tbl (ps++more)))
  (ns:∀ m,s.heap.Ns X.env.locals m->h'.Ns X.env.locals m) (bW:iZ X.prog X.w H' h') (hg:AllBare g') :
  Inv X aa σ H' { s with heap:=h',gens:=g',drawn:=d',toks:=t' }:=by
 have neL:∀ b o,X.s₀.heap.get? b=some o->b≠X.env.locals:=fun b o e=>dU (iL (Heap.lt_size e) I.ok.above)
 have neC:∀ b o,X.s₀.heap.get? b=some o->b ∉ X.ex->b ∉ ch:=fun b o e hx hb=>by
  rcases (AS b hb).1 with z | z
  ·exact hx z
  ·exact absurd (iL (Heap.lt_size e) z) (oH _)
 have cellK:∀ x c,X.env.cells.lookup x=some c->∀ v,s.heap.IsCell c v->h'.IsCell c v:=fun x c e v zz=>by
  obtain ⟨o,ho,hd⟩:=zz
  have UC:c ∉ ch:=fun z=>(AS c z).2.2.1 x c e rfl
  by_cases hc:c∈X.fs
  ·obtain ⟨sl,q⟩:=slot c o (I.N5 x c e) hc UC ho (I.freeC x c e)
   exact ⟨_,q,hd⟩
  ·exact ⟨o,keep c o (I.N5 x c e) hc UC ho (I.freeC x c e),hd⟩
 refine ⟨I.ok,I.os,hg,⟨fun b o e n hb hx=>?_,fun b o e n hb hx=>?_,fun b o e n hx=>?_,fun b o e hx=>?_,fun b xs e=>qE b xs (I.base.qE b xs e),fun b o xs e=>oK b o xs (I.base.oK b o xs e),fun b ps e=>?_⟩,?_,fun x c e=>?_,?_,fun x c e=>?_,fun p hp=>?_,bW,I.len⟩
 ·exact keep b o (neL b o e) hb (neC b o e hx) (I.base.keep b o e n hb hx) (I.base.free b o e n hx)
 ·obtain ⟨sl,e1⟩:=I.base.slot b o e n hb hx
  obtain ⟨sl',e2⟩:=slot b _ (neL b o e) hb (neC b o e hx) e1 (I.base.free b o e n hx)
  exact ⟨sl',e2⟩
 ·obtain ⟨o',e1⟩:=I.base.there b o e hx
  exact free b o' (neC b o e hx) e1 (I.base.free b o e n hx)
 ·obtain ⟨o',e1⟩:=I.base.there b o e hx
  exact there b o' (neC b o e hx) e1
 ·obtain ⟨m1,e1⟩:=I.base.qF b ps e
  obtain ⟨m2,e2⟩:=qF b _ e1
  exact ⟨m1++m2,by rw [e2,Array.append_assoc]⟩
 ·obtain ⟨m,hn,hl⟩:=I.loc
  refine ⟨m,ns m hn,fun i x v e1 e2 e3=>?_⟩
  obtain ⟨u,r,l⟩:=hl i x v e1 e2 e3
  refine ⟨u,r,?_⟩
  rcases l with l | ⟨k,c,e,z⟩
  ·exact .inl l
  ·exact .inr ⟨k,c,e,cellK x c e _ z⟩
 ·obtain ⟨v,z⟩:=I.cell x c e
  exact ⟨v,cellK x c e v z⟩
 ·obtain ⟨m,⟨o,_,_,ho,_⟩,_⟩:=I.loc
  exact free _ o (fun z=>(AS _ z).2.1 rfl) ho I.free
 ·obtain ⟨v,o,ho,hd⟩:=I.cell x c e
  exact free c o (fun z=>(AS c z).2.2.1 x c e rfl) ho (I.freeC x c e)
 ·obtain ⟨e,n,ne,nf,d⟩:=I.pin p hp
  have UC:p.1 ∉ ch:=fun z=>(AS p.1 z).2.2.2 p hp rfl
  exact ⟨keep p.1 p.2 ne nf UC e n,free p.1 p.2 UC e n,ne,nf,d⟩
theorem Inv.un {t':Nat}(I:Inv X aa σ H s) (u:Un X.fs [] H H' s.heap h') (bW:iZ X.prog X.w H' h'):Inv X aa σ H' { s with heap:=h',toks:=t' }:=by
 obtain ⟨m,⟨o,es,ep,ho,r⟩,_⟩:=id I.loc
 obtain ⟨sl,hL⟩:=u.any ho I.free (by simp)
 exact I.step (g':=s.gens) (d':=s.drawn) (ch:=[]) (fun _ z=>nomatch z) (fun b o _ hb _ e n=>u.keep b o e n hb (by simp)) (fun b o _ hb _ e n=>u.slot b o e n hb (by simp)) (fun b o _ e n=>u.free b o e n (by simp)) (fun b o _ e=>u.there b o e (by simp)) u.qE u.oK u.qF (fun m' hm=>by
  obtain ⟨o',es',ep',N6,r'⟩:=hm
  rw [ho] at N6;cases N6
  exact ⟨_,es',ep',hL,r'⟩) bW I.bare
theorem Inv.call {g':Array GenState}{t':Nat}{d':Drawn}{ch:List Addr}(I:Inv X aa σ H s) (u:Un (BY X.stack) ch H H' s.heap h') (bW:iZ X.prog X.w H' h') (hg:AllBare g')
  (AS:∀ b∈ch,(b∈X.ex\/X.s₀.heap.objs.size<=b)/\b≠X.env.locals/\(∀ x c,X.env.cells.lookup x=some c->c≠b)/\∀ p∈X.pn++aa,p.1≠b) :
  Inv X aa σ H' { s with heap:=h',gens:=g',drawn:=d',toks:=t' }:=by
 obtain ⟨m,⟨o,es,ep,ho,r⟩,_⟩:=id I.loc
 obtain ⟨sl,hL⟩:=u.any ho I.free fun z=>(AS _ z).2.1 rfl
 exact I.step (ch:=ch) AS (fun b o hL hb hc e n=>u.keep b o e n (fun z=>(cA.mp (I.oO b z)).elim hL hb) hc) (fun b o _ _ hc e n=>u.any e n hc) (fun b o hc e n=>u.free b o e n hc) (fun b o hc e=>u.there b o e hc) u.qE u.oK u.qF (fun m' hm=>by
  obtain ⟨o',es',ep',N6,r'⟩:=hm
  rw [ho] at N6;cases N6
  exact ⟨_,es',ep',hL,r'⟩) bW hg
theorem Inv.turned {t':Nat}{it:Addr}(I:Inv X aa σ H s) (k:∀ b o,b≠it->s.heap.get? b=some o->h'.get? b=some o) (hn:H it=none) (hL:it≠X.env.locals)
  (h1:it∈X.ex\/X.s₀.heap.objs.size<=it) (h2:∀ x c,X.env.cells.lookup x=some c->c≠it) (h3:∀ p∈X.pn++aa,p.1≠it):Inv X aa σ H { s with heap:=h',toks:=t' }:=by
 have nit:∀ b u,H b=some u->b≠it:=fun b u e z=>by rw [z,hn] at e;cases e
 refine I.step (g':=s.gens) (d':=s.drawn) (ch:=[it]) (fun b hb=>?_) (fun b o _ _ hc e _=>k b o (fun z=>hc (by simp [z])) e) (fun b o _ _ hc e _=>⟨o.slots,k b o (fun z=>hc (by simp [z])) e⟩) (fun _ _ _ _ n=>n)
  (fun b o hc e=>⟨o,k b o (fun z=>hc (by simp [z])) e⟩) (fun _ _ e=>e) (fun _ _ _ e=>e) (fun b ps e=>⟨#[],by rw [e];simp⟩) (fun m hm=>?_) (fun b u e=>?_) I.bare
 ·have e:b=it:=by simpa using hb
  subst e
  exact ⟨h1,hL,h2,h3⟩
 ·obtain ⟨o,es,ep,ho,r⟩:=hm
  exact ⟨o,es,ep,k _ o (Ne.symm hL) ho,r⟩
 ·refine (I.bW b u e).ug (fun c v hc q=>k c v ?_ q) (fun _ q=>q) fun _ _ q=>q
  rcases hc with z | z
  ·rw [z];exact nit b u e
  ·exact nit c _ z
theorem Inv.tok (I:Inv X aa σ H s) (t:Nat):Inv X aa σ H { s with toks:=t }:=I.un (h':=s.heap) (t':=t) Un.refl I.bW
theorem Inv.kept {t':Nat}(I:Inv X aa σ H s) (k:∀ b u,s.heap.get? b=some u->h'.get? b=some u):Inv X aa σ H { s with heap:=h',toks:=t' }:=I.un (Un.kept k) (I.bW.kept k)
theorem Inv.laid {a:Addr}{o:HO}{t':Nat}(I:Inv X aa σ H s) (k:∀ b u,s.heap.get? b=some u->h'.get? b=some u) (hp:s.heap.objs.size<=a) (new:bY X.prog X.w (upd H a o) h' a o) :
  Inv X aa σ (upd H a o) { s with heap:=h',toks:=t' }:=I.un (Un.laid k hp (I.bW.fresh hp)) (I.bW.laid k hp new)
theorem Inv.write {x e:Addr}{o:HO}{t':Nat}(I:Inv X aa σ H s) (mu:UA (H x)) (he:e=x\/H e=some (.own x)) (k:∀ b u,b≠e->s.heap.get? b=some u->h'.get? b=some u) (Ud:∃ u,h'.get? e=some u)
  (new:bY X.prog X.w (upd H x o) h' x o):Inv X aa σ (upd H x o) { s with heap:=h',toks:=t' }:=I.un (Un.write mu he k Ud) (I.bW.write mu he k Ud new)
theorem Inv.weak {σ':List (Option V)}(I:Inv X aa σ H s) (hl:σ'.length=σ.length) (w:∀ (i:Nat) v,σ'[i]?=some (some v)->σ[i]?=some (some v)):Inv X aa σ' H s:=
 ⟨I.ok,I.os,I.bare,I.base,let ⟨m,hn,N7⟩:=I.loc;⟨m,hn,fun i x v e1 e2 e3=>N7 i x v e1 (w i v e2) e3⟩,I.cell,I.free,I.freeC,I.pin,I.bW,hl.trans I.len⟩
theorem Inv.wI {L8:c9}(I:Inv X aa σ H s) (h:∀ p∈L8,s.heap.get? p.1=some p.2/\H p.1=none/\p.1≠X.env.locals/\p.1 ∉ X.fs/\∀ v,p.2.data≠.cell v):Inv X L8 σ H s:=
 ⟨I.ok,I.os,I.bare,I.base,I.loc,I.cell,I.free,I.freeC,fun p hp=>(f_.mp hp).elim (fun z=>I.pin p (Ln _ z)) (h p),I.bW,I.len⟩
theorem qG {N:List Str}(hN:N.Nodup) {i j:Nat}{x:Str}(a:N[i]?=some x) (b:N[j]?=some x):i=j:=by
 obtain ⟨h1,e1⟩:=cU.mp a
 obtain ⟨h2,e2⟩:=cU.mp b
 exact (List.getElem_inj hN).mp (e1.trans e2.symm)
theorem nj {M:Model}{A:Around}{E:Value->Shared->Prop}{i:Nat}{x:Str}{v:V}{u:Value}{Q:Unit->Shared->Prop}(I:Inv X aa σ H s) (hN:X.N.Nodup) (hi:X.N[i]?=some x) (hx:Loc X.env.scope x) (r:RelV v u)
  (h:∀ s',Inv X aa (σ.set i (some v)) H s'->(∃ a,Heap.SameBut a s.heap s'.heap/\(a=X.env.locals\/X.env.cells.lookup x=some a))->Q () s') (hf:X.fn x=true\/X.env.scope.names.lookup x=some .local:=by first | exact .inl rfl | exact .inr rfl | assumption):wpAny M A (storeName X.env x u) Q E s:=by
 obtain ⟨m,hn,hl⟩:=id I.loc
 have abE:(X.env.scope.kind == .class || (X.env.scope.kind == .module&&X.env.locals != X.env.globals))=false:=by rw [I.ok.kind];rfl
 have hiσ:i<σ.length:=by rw [I.len];exact (cU.mp hi).1
 have N5:=I.N5
 have tracked:∀ {a:Addr} {h':Heap},(∃ o,s.heap.get? a=some o/\H a=none)->Heap.SameBut a s.heap h'->iZ X.prog X.w H h':=fun {a h'} ha hs b ob e=>by
  obtain ⟨_,_,nk⟩:=ha
  refine (I.bW b ob e).ug (fun c w' hc q=>(hs.2 c ?_).trans q) (fun _ q=>q) fun _ _ q=>q
  rintro rfl
  rcases hc with rfl | hc
  ·rw [nk] at e;cases e
  ·rw [nk] at hc;cases hc
 rcases hx with hk | hk
 ·refine wpAny_storeName_local hk hn (fun h' hn' hs=>?_) abE
  obtain ⟨oL,_,_,hoL,_⟩:=id hn
  refine h _ ⟨I.ok,I.os,I.bare,⟨fun b o e n hb hx=>?_,fun b o e n hb hx=>?_,I.base.free,fun b o e hx=>?_,I.base.qE,I.base.oK,I.base.qF⟩,⟨_,hn',fun j y v' e1 e2 e3=>?_⟩,fun y c e=>?_,I.free,I.freeC,fun p hp=>?_,tracked ⟨oL,hoL,I.free⟩ hs,by simpa using I.len⟩ ⟨_,hs,.inl rfl⟩
  ·exact (hs.2 b (dU (iL (Heap.lt_size e) I.ok.above))).trans (I.base.keep b o e n hb hx)
  ·obtain ⟨sl,e1⟩:=I.base.slot b o e n hb hx
   exact ⟨sl,(hs.2 b (dU (iL (Heap.lt_size e) I.ok.above))).trans e1⟩
  ·obtain ⟨o',e1⟩:=I.base.there b o e hx
   exact ⟨o',(hs.2 b (dU (iL (Heap.lt_size e) I.ok.above))).trans e1⟩
  ·by_cases hj:j=i
   ·subst hj
    rw [hi] at e1;cases e1
    rw [gB hiσ] at e2
    cases e2
    exact ⟨u,r,.inl ⟨hk,by simp⟩⟩
   ·rw [iH (Ne.symm hj)] at e2
    obtain ⟨u',r',q⟩:=hl j y v' e1 e2 e3
    refine ⟨u',r',?_⟩
    rcases q with ⟨k,e⟩ | ⟨k,c,e,z⟩
    ·refine .inl ⟨k,?_⟩
     have:y≠x:=fun e=>hj (qG hN e1 (e ▸ hi))
     simp [this,e]
    ·exact .inr ⟨k,c,e,z.sameBut hs (N5 y c e)⟩
  ·obtain ⟨w',z⟩:=I.cell y c e
   exact ⟨w',z.sameBut hs (N5 y c e)⟩
  ·obtain ⟨e,n,ne,nf,d⟩:=I.pin p hp
   exact ⟨(hs.2 p.1 ne).trans e,n,ne,nf,d⟩
 ·have UD:X.fn x=true:=by
   rcases hf with z | z
   ·exact z
   ·rw [z] at hk;cases hk
  obtain ⟨c,hc⟩:=I.ok.has x (.inl hk)
  obtain ⟨w',z⟩:=I.cell x c hc
  refine wpAny_storeName_cell I.ok.kind hk hc z (fun h' Ue hs=>?_)
  obtain ⟨oc,hoc,abF⟩:=id z
  refine h { s with heap:=h' } ⟨I.ok,I.os,I.bare,⟨fun b o e n hb hx=>?_,fun b o e n hb hx=>?_,I.base.free,fun b o e hx=>?_,I.base.qE,I.base.oK,I.base.qF⟩,⟨m,hn.sameBut hs (Ne.symm (N5 x c hc)),fun j y v' e1 e2 e3=>?_⟩,fun y c' e=>?_,I.free,I.freeC,fun p hp=>?_,tracked ⟨oc,hoc,I.freeC x c hc⟩ hs,by simpa using I.len⟩ ⟨c,hs,.inr hc⟩
  ·exact (hs.2 b (dU (iL (Heap.lt_size e) (I.ok.cab x c UD hc)))).trans (I.base.keep b o e n hb hx)
  ·obtain ⟨sl,e1⟩:=I.base.slot b o e n hb hx
   exact ⟨sl,(hs.2 b (dU (iL (Heap.lt_size e) (I.ok.cab x c UD hc)))).trans e1⟩
  ·obtain ⟨o',e1⟩:=I.base.there b o e hx
   exact ⟨o',(hs.2 b (dU (iL (Heap.lt_size e) (I.ok.cab x c UD hc)))).trans e1⟩
  ·by_cases hj:j=i
   ·subst hj
    rw [hi] at e1;cases e1
    rw [gB hiσ] at e2
    cases e2
    exact ⟨u,r,.inr ⟨.inl hk,c,hc,Ue⟩⟩
   ·rw [iH (Ne.symm hj)] at e2
    obtain ⟨u',r',q⟩:=hl j y v' e1 e2 e3
    refine ⟨u',r',?_⟩
    rcases q with q | ⟨k,c',e,z'⟩
    ·exact .inl q
    ·refine .inr ⟨k,c',e,z'.sameBut hs ?_⟩
     rintro rfl
     exact hj (qG hN e1 (I.ok.inj _ _ _ e hc ▸ hi))
  ·by_cases hcc:c'=c
   ·subst hcc;exact ⟨_,Ue⟩
   ·obtain ⟨w2,z2⟩:=I.cell y c' e
    exact ⟨w2,z2.sameBut hs hcc⟩
  ·obtain ⟨e,n,ne,nf,d⟩:=I.pin p hp
   refine ⟨(hs.2 p.1 ?_).trans e,n,ne,nf,d⟩
   intro q
   rw [q,hoc] at e
   have q':oc=p.2:=jN.inj e
   exact d w' (by rw [<- q'];exact abF)
theorem gP {M:Model}{A:Around}{E:Value->Shared->Prop}{i:Nat}{x:Str}{v:V}{u:Value}{Q:Unit->Shared->Prop}(I:Inv X aa σ H s) (hN:X.N.Nodup) (hi:X.N[i]?=some x) (hx:Loc X.env.scope x) (r:RelV v u)
  (h:∀ s',Inv X aa (σ.set i (some v)) H s'->Q () s') (hf:X.fn x=true\/X.env.scope.names.lookup x=some .local:=by first | exact .inl rfl | exact .inr rfl | assumption):wpAny M A (storeName X.env x u) Q E s:=
 nj I hN hi hx r (fun s' I' _=>h s' I') hf
theorem Inv.UE {s':Shared}{ch:List Addr}(I:Inv X aa σ H s) (ho:s'.os=s.os) (u:Un (BY X.stack) ch H H' s.heap s'.heap) (bW:iZ X.prog X.w H' s'.heap) (hg:AllBare s'.gens)
  (AS:∀ b∈ch,(b∈X.ex\/X.s₀.heap.objs.size<=b)/\b≠X.env.locals/\(∀ x c,X.env.cells.lookup x=some c->c≠b)/\∀ p∈X.pn++aa,p.1≠b):Inv X aa σ H' s':=by
 obtain ⟨h',g',d',t',o'⟩:=s'
 have e:o'=s.os:=ho
 subst e
 exact I.call (g':=g') (t':=t') (d':=d') u bW hg AS
end
abbrev XK:=Value->Option Addr->Hp->Prop
abbrev St:=List (Option V)
abbrev VK:=V->Hp->Prop
abbrev TE:=St->Hp->VK->Prop
abbrev TT:=St->Hp->(Bool->Hp->Prop)->Prop
abbrev TA:=St->Hp->(List V->Hp->Prop)->Prop
structure Ends where
 nx:St->Hp->Prop
 rt:VK
 bk:St->Hp->Prop:=fun _ _=>False
 ct:St->Hp->Prop:=fun _ _=>False
abbrev TS:=Ends->St->Hp->Prop
def EP (X:Cx) (aa:c9) (σ:St) (Q:VK) (u:Value) (s':Shared):Prop:=∃ v H',Inv X aa σ H' s'/\RelV v u/\Q v H'
def TP (X:Cx) (aa:c9) (σ:St) (Q:Bool->Hp->Prop) (b:Bool) (s':Shared):Prop:=∃ H',Inv X aa σ H' s'/\Q b H'
def AP (X:Cx) (aa:c9) (σ:St) (Q:List V->Hp->Prop) (us:List Value) (s':Shared):Prop:=∃ vs H',Inv X aa σ H' s'/\Vals vs us/\Q vs H'
def SP (X:Cx) (aa:c9) (D:Ends) (f:Flow) (s':Shared):Prop:=
 match f with
 | .next=>∃ σ' H',Inv X aa σ' H' s'/\D.nx σ' H'
 | .brk=>∃ σ' H',Inv X aa σ' H' s'/\D.bk σ' H'
 | .cont=>∃ σ' H',Inv X aa σ' H' s'/\D.ct σ' H'
 | .ret u=>∃ v σ' H',Inv X aa σ' H' s'/\RelV v u/\D.rt v H'
def PE (X:Cx) (e:Expr) (t:TE):Prop:=
 ∀ (aa:c9) (s:Shared) (σ:St) (H:Hp) (Q:VK),Inv X aa σ H s->t σ H Q->wpAny (model X.prog X.w) X.A (eval e X.env) (EP X aa σ Q) X.xe s
def PT (X:Cx) (e:Expr) (t:TT):Prop:=
 ∀ (aa:c9) (s:Shared) (σ:St) (H:Hp) (Q:Bool->Hp->Prop),Inv X aa σ H s->t σ H Q->wpAny (model X.prog X.w) X.A (isTrue e X.env (eval e X.env)) (TP X aa σ Q) X.xe s
def PW (X:Cx) (e:Expr) (t:TT):Prop:=
 ∀ (gx:Sem Value) (aa:c9) (s:Shared) (σ:St) (H:Hp) (Q:Bool->Hp->Prop),Inv X aa σ H s->t σ H Q->wpAny (model X.prog X.w) X.A (isTrue e X.env gx) (TP X aa σ Q) X.xe s
theorem PW.pt {X:Cx}{e:Expr}{t:TT}(h:PW X e t):PT X e t:=h _
def PA (X:Cx) (es:List Expr) (t:TA):Prop:=
 ∀ (pos:Pos) (aa:c9) (s:Shared) (σ:St) (H:Hp) (Q:List V->Hp->Prop),Inv X aa σ H s->t σ H Q->wpAny (model X.prog X.w) X.A (spliced (backTo pos (starEach es X.env))) (AP X aa σ Q) X.xe s
def PS (X:Cx) (st:Stmt) (t:TS):Prop:=
 ∀ (aa:c9) (s:Shared) (σ:St) (H:Hp) (D:Ends),Inv X aa σ H s->t D σ H->wpAny (model X.prog X.w) X.A (exec st X.env) (SP X aa D) X.xe s
def jb (X:Cx) (st:List Stmt) (t:TS):Prop:=
 ∀ (aa:c9) (s:Shared) (σ:St) (H:Hp) (D:Ends),Inv X aa σ H s->t D σ H->wpAny (model X.prog X.w) X.A (execs st X.env) (SP X aa D) X.xe s
theorem bS {α:Type}{t:Sem α}{Q Q':α->Shared->Prop}{M:Model}{A:Around}{E:Value->Shared->Prop}{s:Shared}(h:wpAny M A t Q E s) (hQ:∀ a s,Q a s->Q' a s):wpAny M A t Q' E s:=wpAny_mono h hQ fun _ _ x=>x
section
variable {X:Cx}
def qH (i:Nat):TE:=fun σ H Q=>∃ v,σ[i]?=some (some v)/\Q v H
def tC (v:V):TE:=fun _ H Q=>Q v H
theorem dq {i:Nat}{x:Str}{pos:Pos}(hN:X.N[i]?=some x) (hv:t_ X.env.scope x) (hd:bQ x:=by decide) (kE:iM x:=by decide):PE X (.Name x pos) (qH i):=by
 intro aa s σ H Q I h
 obtain ⟨v,e,h⟩:=h
 obtain ⟨m,hn,hl⟩:=I.loc
 obtain ⟨u,r,l⟩:=hl i x v hN e hv
 have fin:EP X aa σ Q u s:=⟨v,H,I,r,h⟩
 rcases l with ⟨hk,hm⟩ | ⟨hk,c,hc,hcell⟩
 ·exact wpAny_Name (wpAny_loadName_local I.ok.kind hk hn hm fin) hd
 ·rcases hk with hk | hk
  ·exact wpAny_Name (wpAny_loadName_cell I.ok.kind hk hc hcell fin) hd
  ·exact wpAny_Name (wpAny_loadName_free I.ok.kind hk hc hcell fin kE) hd
theorem N8 {i j pos}:PE X (.Constant (.int i) j pos) (tC (.int i)):=fun _ _ _ H _ I h=>wpAny_Constant_int ⟨.int i,H,I.tok _,⟨_,rfl⟩,h⟩
theorem UG {b j pos}:PE X (.Constant (.bool b) j pos) (tC (.bl b)):=fun _ _ _ H _ I h=>Constant_bool ⟨.bl b,H,I,rfl,h⟩
theorem N9 {j pos}:PE X (.Constant .none j pos) (tC .non):=fun _ _ _ H _ I h=>Constant_none ⟨.non,H,I,rfl,h⟩
theorem N_ {x j pos}:PE X (.Constant (.str x) j pos) (tC (.str x)):=fun _ _ _ H _ I h=>Calls.Constant_str ⟨.str x,H,I.tok _,⟨_,rfl⟩,h⟩
def Gl (X:Cx) (x:Str):Prop:=X.env.kindOf x=some .globalImplicit
theorem jc {E:Value->Shared->Prop}{aa:c9}{s:Shared}{σ:St}{H:Hp}{x:Str}{u:Value}{pos:Pos}{Q:Value->Shared->Prop}(I:Inv X aa σ H s) (hg:Gl X x) (hm:X.mg x=some u) (h:Q u s)
  (hd:bQ x:=by decide):wpAny (model X.prog X.w) X.A (eval (.Name x pos) X.env) Q E s:=
 Calls.Name_function_global I.ok.kind hg (Calls.loadGlobal_global (by rw [I.ok.glob];exact I.mod.glob.keeps I.bk) hm h) hd
theorem gc {E:Value->Shared->Prop}{aa:c9}{s:Shared}{σ:St}{H:Hp}{x:Str}{u:Value}{pos:Pos}{Q:Value->Shared->Prop}(I:Inv X aa σ H s) (hg:Gl X x) (hm:X.mg x=none) (hv:bootBuiltins x=some u) (h:Q u s)
  (hn:x ≠ "__name__" := by decide) (hd:bQ x:=by decide):wpAny (model X.prog X.w) X.A (eval (.Name x pos) X.env) Q E s:=by
 obtain ⟨mb,h1,h2⟩:=I.mod.blt
 exact Calls.Name_function_global I.ok.kind hg (Calls.loadGlobal_builtin (by rw [I.ok.glob];exact I.mod.glob.keeps I.bk) hm (by rw [I.ok.blt];exact h1.keeps I.bk) ((h2 x hn).trans hv) h) hd
theorem oQ {x:Str}{v:V}{u:Value}{pos:Pos}(hg:Gl X x) (hm:X.mg x=some u) (r:RelV v u) (hd:bQ x:=by decide):PE X (.Name x pos) (tC v):=
 fun _ _ _ H _ I h=>jc I hg hm ⟨v,H,I,r,h⟩ hd
theorem GI {x:Str}{v:V}{u:Value}{pos:Pos}(hg:Gl X x) (hm:X.mg x=none) (hv:bootBuiltins x=some u) (r:RelV v u) (hn:x ≠ "__name__" := by decide) (hd:bQ x:=by decide):PE X (.Name x pos) (tC v):=
 fun _ _ _ H _ I h=>gc I hg hm hv ⟨v,H,I,r,h⟩ hn hd
variable {a:Expr}{ta tb:TE}
def PC (X:Cx) (op:CmpOp) (a b:Expr) (t:TE):Prop:=
 ∀ (aa:c9) (s:Shared) (σ:St) (H:Hp) (Q:VK),Inv X aa σ H s->t σ H Q ->
  wpAny (model X.prog X.w) X.A (eval a X.env) (fun v s₁=>wpAny (model X.prog X.w) X.A (eval b X.env) (fun u s₂=>wpAny (model X.prog X.w) X.A (compareOp op v u) (EP X aa σ Q) X.xe s₂) X.xe s₁) X.xe s
def tB (t:TE):TT:=fun σ H Q=>t σ H fun x H1=>∃ c,x=.bl c/\Q c H1
variable {tA tB':TT}{rest:List Expr}
def abG (t u:TT):TT:=fun σ H Q=>t σ H fun c H1=>if c=true then u σ H1 Q else Q false H1
def tOr (t u:TT):TT:=fun σ H Q=>t σ H fun c H1=>if c=true then Q true H1 else u σ H1 Q
def abH (t:TT):TT:=fun σ H Q=>t σ H fun c H1=>Q (!c) H1
theorem GJ (ha:PT X a tA):PW X (.BoolOp .And [a] pos) tA:=by
 intro wh aa s σ H Q I h
 refine isTrue_and (bS (ha aa s σ H Q I h) fun c s1 e=>?_)
 cases c with
 | true=>exact isTrue_and_nil e
 | false=>exact e
theorem Oa (ha:PT X a tA):PW X (.BoolOp .Or [a] pos) tA:=by
 intro wh aa s σ H Q I h
 refine isTrue_or (bS (ha aa s σ H Q I h) fun c s1 e=>?_)
 cases c with
 | false=>exact isTrue_or_nil e
 | true=>exact e
theorem Oc (ha:PT X a tA) (hb:PW X (.BoolOp .And (b::rest) pos) tB'):PW X (.BoolOp .And (a::b::rest) pos) (abG tA tB'):=by
 intro wh aa s σ H Q I h
 refine isTrue_and (bS (ha aa s σ H _ I h) fun c s1 zz=>?_)
 obtain ⟨H1,I1,q1⟩:=zz
 cases c with
 | true=>exact hb wh aa s1 σ H1 Q I1 q1
 | false=>exact ⟨H1,I1,q1⟩
theorem UH (ha:PT X a tA) (hb:PW X (.BoolOp .Or (b::rest) pos) tB'):PW X (.BoolOp .Or (a::b::rest) pos) (tOr tA tB'):=by
 intro wh aa s σ H Q I h
 refine isTrue_or (bS (ha aa s σ H _ I h) fun c s1 zz=>?_)
 obtain ⟨H1,I1,q1⟩:=zz
 cases c with
 | true=>exact ⟨H1,I1,q1⟩
 | false=>exact hb wh aa s1 σ H1 Q I1 q1
theorem Od (ha:PT X a tA):PT X (.UnaryOp .Not a pos) (abH tA):=by
 intro aa s σ H Q I h
 exact isTrue_not (ha aa s σ H (fun c H1=>Q (!c) H1) I h)
def UI (ta tb:TE):TE:=fun σ H Q=>ta σ H fun x H1=>∃ c,x=.bl c/\if c=true then tb σ H1 Q else Q (.bl false) H1
def abI (ta tb:TE):TE:=fun σ H Q=>ta σ H fun x H1=>∃ c,x=.bl c/\if c=true then Q (.bl true) H1 else tb σ H1 Q
def UJ (ta:TE):TE:=fun σ H Q=>ta σ H fun x H1=>∃ c,x=.bl c/\Q (.bl (!c)) H1
theorem Oe {op}{t:TE}(h:PE X a t):PE X (.BoolOp op [a] pos) t:=fun aa s σ H Q I hw=>BoolOp_one (h aa s σ H Q I hw)
theorem Of (ha:PE X a ta) (hb:PE X (.BoolOp .And (b::rest) pos) tb):PE X (.BoolOp .And (a::b::rest) pos) (UI ta tb):=by
 intro aa s σ H Q I h
 refine BoolOp_and (bS (ha aa s σ H _ I h) fun v s1 zz=>?_)
 obtain ⟨x,H1,I1,r1,q1⟩:=zz
 obtain ⟨c,rfl,q1⟩:=q1
 cases r1
 refine wpAny_truthy_bool ?_
 cases c with
 | true=>exact hb aa s1 σ H1 Q I1 q1
 | false=>exact ⟨.bl false,H1,I1,rfl,q1⟩
theorem UK (ha:PE X a ta) (hb:PE X (.BoolOp .Or (b::rest) pos) tb):PE X (.BoolOp .Or (a::b::rest) pos) (abI ta tb):=by
 intro aa s σ H Q I h
 refine BoolOp_or (bS (ha aa s σ H _ I h) fun v s1 zz=>?_)
 obtain ⟨x,H1,I1,r1,q1⟩:=zz
 obtain ⟨c,rfl,q1⟩:=q1
 cases r1
 refine wpAny_truthy_bool ?_
 cases c with
 | false=>exact hb aa s1 σ H1 Q I1 q1
 | true=>exact ⟨.bl true,H1,I1,rfl,q1⟩
theorem Og (ha:PE X a ta):PE X (.UnaryOp .Not a pos) (UJ ta):=by
 intro aa s σ H Q I h
 refine UnaryOp_ (bS (ha aa s σ H _ I h) fun v s1 zz=>?_)
 obtain ⟨x,H1,I1,r1,q1⟩:=zz
 obtain ⟨c,rfl,q1⟩:=q1
 cases r1
 exact not_of (wpAny_truthy_bool ⟨.bl (!c),H1,I1,rfl,q1⟩)
def tIf (t:TT) (ta tb:TE):TE:=fun σ H Q=>t σ H fun c H1=>if c=true then ta σ H1 Q else tb σ H1 Q
theorem BZ {c:Expr}(hc:PT X c tA) (ha:PE X a ta) (hb:PE X b tb):PE X (.IfExp c a b pos) (tIf tA ta tb):=by
 intro aa s σ H Q I h
 refine wpAny_IfExp (bS (hc aa s σ H _ I h) fun d s1 zz=>?_)
 obtain ⟨H1,I1,q1⟩:=zz
 cases d with
 | true=>exact ha aa s1 σ H1 Q I1 q1
 | false=>exact hb aa s1 σ H1 Q I1 q1
end
def du (K:bC) (H:Hp) (a:Addr) (xs:List V):Prop:=
 Rd H a (.lst xs) \/
  ∃ (o:Obj) (its:Array Value) (n:Nat),K.lookup a=some o/\o.cls=.type "list" /\ o.dict=none/\o.data=.seq its n/\its.size<=sizeLine/\Vals xs its.toList
def j_ (K:bC) (H:Hp) (a:Addr) (xs:List V):Prop:=
 Rd H a (.tup xs) \/
  ∃ (o:Obj) (its:Array Value) (n:Nat),K.lookup a=some o/\o.cls=.type "tuple" /\ o.data=.seq its n/\its.size<=sizeLine/\Vals xs its.toList
def abJ:Value->Option V
 | .none=>some .non
 | .bool b=>some (.bl b)
 | .int i _=>some (.int i)
 | .str x _=>some (.str x)
 | .bytes b _=>some (.byt b)
 | .float b _=>some (.flt b)
 | .ref a=>some (.ref a)
 | .type n=>some (.ty n)
 | _=>none
theorem RelV.abs {x:V}{u:Value}(r:RelV x u):abJ u=some x:=by
 cases x with
 | non=>cases r;rfl
 | bl _=>cases r;rfl
 | int _=>obtain ⟨t,rfl⟩:=r;rfl
 | str _=>obtain ⟨t,rfl⟩:=r;rfl
 | byt _=>obtain ⟨t,rfl⟩:=r;rfl
 | flt _=>obtain ⟨t,rfl⟩:=r;rfl
 | ref _=>cases r;rfl
 | ty _=>cases r;rfl
theorem RelV.inj {x y:V}{u:Value}(r:RelV x u) (q:RelV y u):x=y:=jN.inj (r.abs.symm.trans q.abs)
theorem Vals.inj:∀ {xs ys:List V}{us:List Value},Vals xs us->Vals ys us->xs=ys
 | _,_,_,.nil,.nil=>rfl
 | _,_,_,.cons r t,.cons r' t'=>by rw [r.inj r',Vals.inj t t']
section
variable {X:Cx}{σ:St}{xs ys:List V}
theorem du.of {K:bC}(h:H a=some (.lst xs)):du K H a xs:=.inl (.inl h)
theorem j_.of {K:bC}(h:H a=some (.tup xs)):j_ K H a xs:=.inl (.inl h)
theorem Inv.list (I:Inv X aa σ H s) (h:du X.K H a xs):∃ its:List Value,Vals xs its/\PlainL s.heap a its.toArray/\xs.length<=sizeLine:=by
 rcases h with h | ⟨o,its,n,hk,hc,hd,hs,hz,r⟩
 ·obtain ⟨z,its,n,r,e⟩:=h.ok I.bW
  exact ⟨its,r,⟨_,n,e,rfl,rfl,rfl⟩,z⟩
 ·refine ⟨its.toList,r,⟨o,n,I.ja a o hk,hc,hd,by simpa using hs⟩,?_⟩
  have e:=r.length
  simp only [Array.length_toList] at e
  omega
theorem Inv.tuple (I:Inv X aa σ H s) (h:j_ X.K H a xs):∃ its:List Value,Vals xs its/\IsTup s.heap a its.toArray/\xs.length<=sizeLine:=by
 rcases h with h | ⟨o,its,n,hk,hc,hs,hz,r⟩
 ·obtain ⟨z,its,r,p⟩:=h.ok I.bW
  exact ⟨its,r,p,z⟩
 ·refine ⟨its.toList,r,⟨o,I.ja a o hk,hc,n,by simpa using hs⟩,?_⟩
  have e:=r.length
  simp only [Array.length_toList] at e
  omega
theorem Inv.B0 (I:Inv X aa σ H s) (h:du X.K H a xs) (h':du X.K H a ys):xs=ys:=by
 obtain ⟨its,r,⟨o,n,e,_,_,d⟩,_⟩:=I.list h
 obtain ⟨its',r',⟨o',n',e',_,_,d'⟩,_⟩:=I.list h'
 rw [e] at e';cases e'
 rw [d] at d'
 injection d' with d1 _
 have:its=its':=by simpa using congrArg Array.toList d1
 subst this
 exact r.inj r'
theorem Inv.nq (I:Inv X aa σ H s) (h:j_ X.K H a xs) (h':j_ X.K H a ys):xs=ys:=by
 obtain ⟨its,r,⟨o,e,_,n,d⟩,_⟩:=I.tuple h
 obtain ⟨its',r',⟨o',e',_,n',d'⟩,_⟩:=I.tuple h'
 rw [e] at e';cases e'
 rw [d] at d'
 injection d' with d1 _
 have:its=its':=by simpa using congrArg Array.toList d1
 subst this
 exact r.inj r'
end
abbrev Cx.mL (X:Cx) (E:Value->Shared->Prop):Cx:={ X with xe:=E }
abbrev Cx.L_ (X:Cx):Cx:=X.mL fun _ _=>False
theorem Cx.Ok.mL {X:Cx}(ok:X.Ok) (E:Value->Shared->Prop):(X.mL E).Ok:=
 ⟨ok.mod,ok.kind,ok.glob,ok.blt,ok.above,ok.inj,ok.has,ok.cab,ok.hd,ok.frames,ok.stk,ok.exf,ok.bs,ok.bsz,ok.noex,ok.exfs,ok.kD,ok.frf⟩
theorem Cx.Ok.gQ {X:Cx}{E:Value->Shared->Prop}(ok:(X.mL E).Ok):X.Ok:=
 ⟨ok.mod,ok.kind,ok.glob,ok.blt,ok.above,ok.inj,ok.has,ok.cab,ok.hd,ok.frames,ok.stk,ok.exf,ok.bs,ok.bsz,ok.noex,ok.exfs,ok.kD,ok.frf⟩
section
variable {X:Cx}{σ:St}
theorem Inv.mL (I:Inv X aa σ H s) (E:Value->Shared->Prop):Inv (X.mL E) aa σ H s:=⟨I.ok.mL E,I.os,I.bare,I.base,I.loc,I.cell,I.free,I.freeC,I.pin,I.bW,I.len⟩
theorem Inv.gQ (I:Inv (X.mL E) aa σ H s):Inv X aa σ H s:=⟨I.ok.gQ,I.os,I.bare,I.base,I.loc,I.cell,I.free,I.freeC,I.pin,I.bW,I.len⟩
theorem SP.gQ {D:Ends}{f:Flow}{s':Shared}(h:SP (X.mL E) aa D f s'):SP X aa D f s':=by
 cases f with
 | next=>obtain ⟨σ',H',I,q⟩:=h;exact ⟨σ',H',I.gQ,q⟩
 | brk=>obtain ⟨σ',H',I,q⟩:=h;exact ⟨σ',H',I.gQ,q⟩
 | cont=>obtain ⟨σ',H',I,q⟩:=h;exact ⟨σ',H',I.gQ,q⟩
 | ret u=>obtain ⟨v,σ',H',I,r,q⟩:=h;exact ⟨v,σ',H',I.gQ,r,q⟩
theorem jb.L_ {st:List Stmt}{t:TS}(h:jb X.L_ st t):jb X st t:=fun aa s σ H D I hw=>
 wpAny_mono (h aa s σ H D (I.mL _) hw) (fun _ _ q=>q.gQ) fun _ _ z=>False.elim z
end
section
variable {X:Cx}{st:Stmt}{rest:List Stmt}{t u:TS}{te:TE}
def B3:TS:=fun D σ H=>D.nx σ H
def UL (t u:TS):TS:=fun D σ H=>t { D with nx:=u D } σ H
theorem wJ:jb X [] B3:=fun _ _ σ H _ I h=>wpAny_execs_nil ⟨σ,H,I,h⟩
theorem qI (h1:PS X st t) (h2:jb X rest u):jb X (st::rest) (UL t u):=by
 intro aa s σ H D I h
 refine wpAny_execs_cons (bS (h1 aa s σ H { D with nx:=u D } I h) fun f s1 q=>?_)
 cases f with
 | next=>
  obtain ⟨σ',H',I',q⟩:=q
  exact h2 aa s1 σ' H' D I' q
 | ret v=>exact q
 | brk=>exact q
 | cont=>exact q
theorem wK (h1:PS X st t):jb X [st] t:=by
 intro aa s σ H D I h
 refine wpAny_execs_cons (bS (h1 aa s σ H D I h) fun f s1 q=>?_)
 cases f with
 | next=>exact wpAny_execs_nil q
 | ret v=>exact q
 | brk=>exact q
 | cont=>exact q
def Oh:TS:=fun D σ H=>D.bk σ H
def UM:TS:=fun D σ H=>D.ct σ H
theorem GK:PS X (.Pass pos) B3:=fun _ _ σ H _ I h=>wpAny_Pass ⟨σ,H,I,h⟩
theorem B4:PS X (.Break pos) Oh:=fun _ _ σ H _ I h=>wpAny_Break ⟨σ,H,I,h⟩
theorem qJ:PS X (.Continue pos) UM:=fun _ _ σ H _ I h=>wpAny_Continue ⟨σ,H,I,h⟩
theorem Inv.quiet {aa:c9}{σ:St}{H:Hp}{s:Shared}(I:Inv X aa σ H s):interactive X.env=false:=by simp [interactive,I.ok.kind]
def UN (te:TE):TS:=fun D σ H=>te σ H fun _ H1=>D.nx σ H1
theorem oR (he:PE X e te) (hs:swapsWith e none pos.line X.env=pure false:=by rfl):PS X (.Expr e pos) (UN te):=by
 intro aa s σ H D I h
 exact wpAny_Expr_any (bS (he aa s σ H _ I h) fun v s1 ⟨x,H1,I1,r1,q1⟩=>⟨σ,H1,I1,q1⟩) I.quiet hs
def abK (te:TE):TS:=fun D σ H=>te σ H D.rt
theorem Oi (he:PE X e te):PS X (.Return (some e) pos) (abK te):=by
 intro aa s σ H D I h
 exact wpAny_Return_some (bS (he aa s σ H _ I h) fun v s1 ⟨x,H1,I1,r1,q1⟩=>⟨x,σ,H1,I1,r1,q1⟩)
def UO:TS:=fun D _ H=>D.rt .non H
theorem GL:PS X (.Return none pos) UO:=fun _ _ σ H _ I h=>wpAny_Return_none ⟨.non,σ,H,I,rfl,h⟩
def abL (c:TT) (t u:TS):TS:=fun D σ H=>c σ H fun b H1=>if b=true then t D σ H1 else u D σ H1
theorem UP {c:Expr}{a b:List Stmt}{tc:TT}(hc:PT X c tc) (ha:jb X a t) (hb:jb X b u):PS X (.If c a b pos) (abL tc t u):=by
 intro aa s σ H D I h
 refine wpAny_If (bS (hc aa s σ H _ I h) fun d s1 zz=>?_)
 obtain ⟨H1,I1,q1⟩:=zz
 cases d with
 | true=>exact ha aa s1 σ H1 D I1 q1
 | false=>exact hb aa s1 σ H1 D I1 q1
end
abbrev TG:=V->St->Hp->(St->Hp->Prop)->Prop
abbrev Ma:=List V->St->Hp->(St->Hp->Prop)->Prop
def PG (X:Cx) (target:Expr) (t:TG):Prop:=
 ∀ (aa:c9) (s:Shared) (σ:St) (H:Hp) (v:V) (u:Value) (Q:St->Hp->Prop),Inv X aa σ H s->RelV v u->t v σ H Q ->
  wpAny (model X.prog X.w) X.A (assign target X.env u) (fun _ s'=>∃ σ' H',Inv X aa σ' H' s'/\Q σ' H') X.xe s
def UQ (X:Cx) (ts:List Expr) (t:Ma):Prop:=
 ∀ (aa:c9) (s:Shared) (σ:St) (H:Hp) (vs:List V) (us:List Value) (Q:St->Hp->Prop),Inv X aa σ H s->Vals vs us->t vs σ H Q ->
  wpAny (model X.prog X.w) X.A (assignInOrder ((assignEach ts X.env).map (·.2)) us) (fun _ s'=>∃ σ' H',Inv X aa σ' H' s'/\Q σ' H') X.xe s
abbrev abM:=V->V->V->Hp->(Hp->Prop)->Prop
def abN (X:Cx) (t:abM):Prop:=
 ∀ (aa:c9) (s:Shared) (σ:St) (H:Hp) (o i v:V) (ov iv u:Value) (Q:Hp->Prop),Inv X aa σ H s->RelV o ov->RelV i iv->RelV v u->t o i v H Q ->
  wpAny (model X.prog X.w) X.A (setItem ov iv u) (fun _ s'=>∃ H',Inv X aa σ H' s'/\Q H') X.xe s
abbrev TIp:=V->V->Hp->VK->Prop
def PIp (X:Cx) (op:Operator) (t:TIp):Prop:=
 ∀ (aa:c9) (s:Shared) (σ:St) (H:Hp) (x y:V) (v u:Value) (Q:VK),Inv X aa σ H s->RelV x v->RelV y u->t x y H Q ->
  wpAny (model X.prog X.w) X.A (inplaceOp op v u) (EP X aa σ Q) X.xe s
section
variable {X:Cx}
def wL (i:Nat):TG:=fun v σ H Q=>Q (σ.set i (some v)) H
theorem oS {i:Nat}{x:Str}(hN:X.N.Nodup) (hi:X.N[i]?=some x) (hx:Loc X.env.scope x) (hf:X.fn x=true\/X.env.scope.names.lookup x=some .local:=by first | exact .inl rfl | exact .inr rfl | assumption):PG X (.Name x pos) (wL i):=by
 intro aa s σ H v u Q I r h
 exact wpAny_assign_Name (gP I hN hi hx r (fun s' I'=>⟨_,H,I',h⟩) hf)
def UR:Ma:=fun vs σ H Q=>vs=[]/\Q σ H
def Mb (t:TG) (u:Ma):Ma:=fun vs σ H Q=>∃ v r,vs=v::r/\t v σ H fun σ' H'=>u r σ' H' Q
theorem GN:UQ X [] UR:=by
 intro aa s σ H vs us Q I r h
 obtain ⟨e,h⟩:=h
 subst e
 cases r
 exact assignInOrder_nil ⟨σ,H,I,h⟩
theorem B5 {e:Expr}{es:List Expr}{t:TG}{u:Ma}(h1:PG X e t) (h2:UQ X es u)
  (hs:(assignEach (e::es) X.env).map (·.2)=assign e X.env::(assignEach es X.env).map (·.2):=by rfl):UQ X (e::es) (Mb t u):=by
 intro aa s σ H vs us Q I r h
 obtain ⟨v,vr,e1,h⟩:=h
 subst e1
 cases r with
 | cons r rr=>
  rw [hs]
  refine assignInOrder_cons (bS (h1 aa s σ H _ _ _ I r h) fun _ s1 zz=>?_)
  obtain ⟨σ1,H1,I1,q1⟩:=zz
  exact h2 aa s1 σ1 H1 _ _ Q I1 rr q1
def Oj (K:bC) (n:Nat) (t:Ma):TG:=fun v σ H Q=>∃ a xs,v=.ref a/\j_ K H a xs/\xs.length=n/\t xs σ H Q
theorem B6 {es:List Expr}{k:Nat}{t:Ma}{n:Nat}(hc:X.calm=true) (h:UQ X es t)
  (hn:(assignEach es X.env).length=n:=by rfl) (hst:(assignEach es X.env).findIdx? (·.1)=none:=by rfl):PG X (.Tuple es k pos) (Oj X.K n t):=by
 intro aa s σ H v u Q I r hw
 obtain ⟨a,xs,e1,hq,hl,hw⟩:=hw
 subst e1
 cases r
 obtain ⟨its,rv,ht,hz⟩:=I.tuple hq
 refine assign_Tuple_tuple (I.ok.hd hc) ht (by simp [hn,<- hl,rv.length]) hst fun h' hx=>?_
 have I1:Inv X aa σ H { s with heap:=h' }:=I.kept (t':=s.toks) fun b o e=>hx b o (dU (Heap.lt_size e)) e
 exact h aa _ σ H xs _ Q I1 (by simpa using rv) hw
def US (te:TE) (g:TG):TS:=fun D σ H=>te σ H fun x H1=>g x σ H1 D.nx
theorem Ol {tg e:Expr}{te:TE}{g:TG}(he:PE X e te) (hg:PG X tg g) (hs:swapsWithSole [tg] e pos.line X.env=pure false:=by rfl) (hw:swappedStores [tg] e X.env=pure none:=by rfl)
  (h1:(assignEach [tg] X.env).map (·.2)=[assign tg X.env]:=by rfl):PS X (.Assign [tg] e pos) (US te g):=by
 intro aa s σ H D I h
 refine wpAny_Assign_stores (bS (he aa s σ H _ I h) fun v s1 ⟨x,H1,I1,r1,q1⟩=>?_) hs hw
 rw [h1]
 exact bS (hg aa s1 σ H1 x v _ I1 r1 q1) fun _ s2 q=>q
theorem oU {i:Nat}{x:Str}{e:Expr}{te:TE}{bR:Pos}(hN:X.N.Nodup) (hi:X.N[i]?=some x) (hx:Loc X.env.scope x) (he:PE X e te) (hs:swapsWith e (some (.Name x bR)) pos.line X.env=pure false:=by rfl) (hf:X.fn x=true\/X.env.scope.names.lookup x=some .local:=by first | exact .inl rfl | exact .inr rfl | assumption) :
  PS X (.Assign [.Name x bR] e pos) (US te (wL i)):=by
 intro aa s σ H D I h
 refine wpAny_Assign_Name (bS (he aa s σ H _ I h) fun v s1 ⟨y,H1,I1,r1,q1⟩=>?_) hs
 exact gP I1 hN hi hx r1 (fun s2 I2=>⟨_,H1,I2,q1⟩) hf
def abO (i j:Nat) (ta:TA):TS:=fun D σ H=>ta σ H fun vs H1=>∃ v w,vs=[v,w]/\D.nx ((σ.set i (some v)).set j (some w)) H1
theorem Om {i j:Nat}{x y:Str}{a b:Expr}{ta:TA}{px py pt:Pos}{kt k2 pt2}(hc:X.calm=true) (hN:X.N.Nodup) (hi:X.N[i]?=some x) (hj:X.N[j]?=some y) (hij:i≠j)
  (hx:X.env.scope.names.lookup x=some .local) (hy:X.env.scope.names.lookup y=some .local) (ha:PA X [a,b] ta)
  (hw:swappedStores [.Tuple [.Name x px,.Name y py] kt pt] (.Tuple [a,b] k2 pt2) X.env=pure (some [x,y]))
  (hs:swapsWithSole [.Tuple [.Name x px,.Name y py] kt pt] (.Tuple [a,b] k2 pt2) pos.line X.env=pure false:=by rfl) :
  PS X (.Assign [.Tuple [.Name x px,.Name y py] kt pt] (.Tuple [a,b] k2 pt2) pos) (abO i j ta):=by
 intro aa s σ H D I h
 rw [exec_Assign_arm]
 refine wpAny_bind (wpAny_standAt ?_)
 rw [hs]
 refine wpAny_bind (wpAny_pure ?_)
 rw [if_neg (by decide)]
 refine wpAny_bind (Tuple_ (bS (ha _ aa s σ H _ I h) fun us s1 zz=>?_))
 obtain ⟨vs,H1,I1,r1,q1⟩:=zz
 obtain ⟨v,w,e1,q1⟩:=q1
 subst e1
 obtain ⟨u1,u2,rfl,rv,GO⟩:∃ u1 u2,us=[u1,u2]/\RelV v u1/\RelV w u2:=by
  cases r1 with
  | cons p q=>
   cases q with
   | cons p' q'=>
    cases q'
    exact ⟨_,_,rfl,p,p'⟩
 refine wpAny_newObj_type ?_ (by show 2<=sizeLine;decide)
 have I2:Inv X aa σ H1 { s1 with heap:=s1.heap.push { cls:=.type "tuple", data:=.seq [u1,u2].toArray } }:=I1.kept (t':=s1.toks) fun b o e=>Heap.get?_push_of_some _ e
 rw [hw]
 refine wpAny_bind (wpAny_pure ?_)
 show wpAny (model X.prog X.w) X.A (do rule "assign.swapped-stores";let items <- unpackItems (.ref s1.heap.objs.size) 2 none;assignInOrder [fun v=>bindName X.env y v,fun v=>bindName X.env x v] items.reverse;pure Flow.next) _ _ _
 refine wpAny_bind (wpAny_rule (wpAny_bind (unpackItems_tuple (items:=#[u1,u2]) (I.ok.hd hc) (IsTup.new s1.heap _) fun h' B7=>?_)))
 have I3:=I2.kept (h':=h') (t':=s1.toks) fun b o e=>B7 b o (dU (Heap.lt_size e)) e
 show wpAny _ _ (assignInOrder [fun v=>bindName X.env y v,fun v=>bindName X.env x v] [u2,u1] >>= fun _=>pure Flow.next) _ _ _
 refine wpAny_bind (assignInOrder_cons (wpAny_bindName (gP I3 hN hj (.inl hy) GO (fun s2 I4=>?_) (.inr hy))))
 refine assignInOrder_cons (wpAny_bindName (gP I4 hN hi (.inl hx) rv (fun s3 I5=>assignInOrder_nil (wpAny_pure ?_)) (.inr hx)))
 rw [List.set_comm _ _ (Ne.symm hij)] at I5
 exact ⟨_,H1,I5,q1⟩
def abP (i:Nat) (te:TE) (ti:TIp):TS:=fun D σ H=>∃ x,σ[i]?=some (some x)/\te σ H fun y H1=>ti x y H1 fun z H2=>D.nx (σ.set i (some z)) H2
theorem Oo {i:Nat}{x:Str}{e:Expr}{te:TE}{op:Operator}{ti:TIp}{bR:Pos}(hN:X.N.Nodup) (hi:X.N[i]?=some x) (hx:Loc X.env.scope x) (he:PE X e te) (ho:PIp X op ti) (hf:X.fn x=true\/X.env.scope.names.lookup x=some .local:=by first | exact .inl rfl | exact .inr rfl | assumption) :
  PS X (.AugAssign (.Name x bR) op e pos) (abP i te ti):=by
 intro aa s σ H D I h
 obtain ⟨v,e1,h⟩:=h
 obtain ⟨m,hn,hl⟩:=I.loc
 have vis:t_ X.env.scope x:=by rcases hx with k | k;exact .inl k;exact .inr (.inl k)
 obtain ⟨u,r,l⟩:=hl i x v hi e1 vis
 refine wpAny_AugAssign_Name ?_
 have go:wpAny (model X.prog X.w) X.A (eval e X.env) (fun w s₂=>wpAny (model X.prog X.w) X.A (inplaceOp op u w) (fun r s₃=>wpAny (model X.prog X.w) X.A (storeName X.env x r) (fun _=>SP X aa D .next) X.xe s₃) X.xe s₂) X.xe s:=by
  refine bS (he aa s σ H _ I h) fun w s1 zz=>?_
  obtain ⟨y,H1,I1,r1,q1⟩:=zz
  refine bS (ho aa s1 σ H1 v y u w _ I1 r r1 q1) fun z s2 zz=>?_
  obtain ⟨zv,H2,I2,r2,q2⟩:=zz
  exact gP I2 hN hi hx r2 (fun s3 I3=>⟨_,H2,I3,q2⟩) hf
 rcases l with ⟨hk,hm⟩ | ⟨hk,c,hc,hcell⟩
 ·exact wpAny_loadName_local I.ok.kind hk hn hm go
 ·rcases hk with hk | hk
  ·exact wpAny_loadName_cell I.ok.kind hk hc hcell go
  ·rcases hx with k | k
   ·have:X.env.scope.names.lookup x=some .free:=hk
    rw [k] at this;cases this
   ·have:X.env.scope.names.lookup x=some .free:=hk
    rw [k] at this;cases this
def ipI (f:Int->Int->Int):TIp:=fun x y H Q=>∃ i j,x=.int i/\y=.int j/\Q (.int (f i j)) H
theorem Oq:PIp X .Add (ipI fun i j=>i+j):=by
 intro aa s σ H x y v u Q I r1 r2 h
 obtain ⟨i,j,e1,e2,q⟩:=h
 subst e1;subst e2
 obtain ⟨t,rfl⟩:=r1
 obtain ⟨t',rfl⟩:=r2
 exact iadd_int ⟨.int _,H,I.tok _,⟨_,rfl⟩,q⟩
end
section
variable {X:Cx}
def Ot (c:TT) (tb:TS):TS:=fun D σ H=>∃ W:Nat->St->Hp->Prop,(∃ m,W m σ H)/\∀ m σ H,W m σ H ->
 c σ H fun b H1=>if b=true then ∃ N:St->Hp->Prop,(∀ σ' H',N σ' H'->∃ m',m'<m/\W m' σ' H')/\tb { D with nx:=N,ct:=N,bk:=D.nx } σ H1 else D.nx σ H1
theorem B8 {c:Expr}{body:List Stmt}{tc:TT}{tb:TS}(hp:PassesOwn (model X.prog X.w) X.A X.env X.xe) (hc:PT X c tc) (hb:jb X body tb):PS X (.While c body [] pos) (Ot tc tb):=by
 intro aa s σ H D I h
 obtain ⟨W,⟨m0,w0⟩,turn⟩:=h
 refine wpAny_While (codeAny_whileLoop (fun n s'=>∃ σ' H',Inv X aa σ' H' s'/\W n σ' H') ?_ m0 ⟨σ,H,I,w0⟩)
 rintro n s1 ⟨σ1,H1,I1,w1⟩
 refine wpAny_passesOwn hp (bS (hc aa s1 σ1 H1 _ I1 (turn n σ1 H1 w1)) fun b s2 zz=>?_)
 obtain ⟨H2,I2,q2⟩:=zz
 cases b with
 | true=>
  obtain ⟨N,hN,q2⟩:=q2
  rw [if_pos rfl]
  refine wpAny_passesOwn hp (bS (hb aa s2 σ1 H2 _ I2 q2) fun f s3 q3=>?_)
  cases f with
  | next=>
   obtain ⟨σ3,H3,I3,n3⟩:=q3
   obtain ⟨m',hm,w3⟩:=hN σ3 H3 n3
   exact ⟨m',hm,σ3,H3,I3,w3⟩
  | cont=>
   obtain ⟨σ3,H3,I3,n3⟩:=q3
   obtain ⟨m',hm,w3⟩:=hN σ3 H3 n3
   exact ⟨m',hm,σ3,H3,I3,w3⟩
  | brk=>exact q3
  | ret v=>exact q3
 | false=>
  rw [if_neg eK]
  exact wpAny_execs_nil ⟨σ1,H2,I2,q2⟩
end
structure It where
 go:Nat->Hp->Prop
 yld:Nat->Hp->V->Hp->Prop
 stop:Nat->Hp->Prop
def lg (X:Cx) (aa:c9) (H:Hp) (b:Addr):Prop:=
 H b=none/\b≠X.env.locals/\b ∉ X.fs/\(b∈X.ex\/X.s₀.heap.objs.size<=b)/\(∀ x c,X.env.cells.lookup x=some c->c≠b)/\∀ p∈X.pn++aa,p.1≠b
theorem Inv.um {X:Cx}{aa:c9}{σ:St}{H H':Hp}{s:Shared}{b:Addr}(I:Inv X aa σ H s) (hb:s.heap.objs.size<=b) (hn:H' b=none):lg X aa H' b:=by
 refine ⟨hn,GD (iL I.lt hb),I.abD hb,.inr (gO I.sz hb),fun x c e z=>?_,fun p hp z=>?_⟩
 ·obtain ⟨v,q⟩:=I.cell x c e
  exact absurd (iL q.lt (by rw [z];exact hb)) (oH _)
 ·exact absurd (iL (Heap.lt_size (I.pin p hp).1) (by rw [z];exact hb)) (oH _)
structure Turn (P:Program) (w:World) (K:bC) (tg:Expr) (J:It) (fp:List Addr) (it:Addr) (tn:Nat->Heap->Prop):Prop where
 mem:it∈fp
 obj:∀ i h,tn i h->∀ b∈fp,∃ o,h.get? b=some o/\∀ v,o.data≠.cell v
 keep:∀ i h h',tn i h->(∀ b∈fp,∀ o,h.get? b=some o->h'.get? b=some o)->tn i h'
 item:∀ (X:Cx),X.prog=P->X.w=w->X.K=K->X.calm=true->∀ (i:Nat) (aa:c9) (s:Shared) (σ:St) (H:Hp) (E:Value->Shared->Prop),Inv X aa σ H s->(∀ b∈fp,lg X aa H b)->tn i s.heap->J.go i H ->
  wpAny (model P w) X.A (pyNext (.ref it)) (fun r s1=>∃ u,r=some u /\
   wpAny (model P w) X.A (letOwnedTupleGo tg (.ref it) u) (fun _ s2=>∃ x H',Inv X aa σ H' s2/\RelV x u/\J.yld i H x H'/\tn (i+1) s2.heap/\∀ b∈fp,H' b=none) E s1) E s
 done:∀ (X:Cx),X.prog=P->X.w=w->X.K=K->X.calm=true->∀ (i:Nat) (aa:c9) (s:Shared) (σ:St) (H:Hp) (E:Value->Shared->Prop),Inv X aa σ H s->(∀ b∈fp,lg X aa H b)->tn i s.heap->J.stop i H ->
  wpAny (model P w) X.A (pyNext (.ref it)) (fun r s1=>r=none/\Inv X aa σ H s1) E s
 self:∀ (A:Around) (i:Nat) (s:Shared) (Q:Value->Shared->Prop) (E:Value->Shared->Prop),tn i s.heap->Q (.ref it) s->wpAny (model P w) A (pyIter (.ref it)) Q E s
abbrev TI:=St->Hp->(It->Hp->Prop)->Prop
def PIE (X:Cx) (aa:c9) (σ:St) (tg:Expr) (R:It->Hp->Prop) (itv:Value) (s2:Shared):Prop:=
 ∃ (it:Addr) (fp:List Addr) (tn:Nat->Heap->Prop) (J:It) (H':Hp),itv=.ref it/\Inv X aa σ H' s2/\Turn X.prog X.w X.K tg J fp it tn/\tn 0 s2.heap/\(∀ b∈fp,lg X aa H' b)/\R J H'
def PI (X:Cx) (tg iter:Expr) (wi:TI):Prop:=
 ∀ (aa:c9) (s:Shared) (σ:St) (H:Hp) (R:It->Hp->Prop),Inv X aa σ H s->wi σ H R ->
  wpAny (model X.prog X.w) X.A (eval iter X.env) (fun v s1=>wpAny (model X.prog X.w) X.A (pyIter v) (PIE X aa σ tg R) X.xe s1) X.xe s
theorem B9 {M:Model}{A:Around}{E:Value->Shared->Prop}{s:Shared}{tg:Expr}{it:Addr}{u:Value}{o:Obj}{n:String}{vs:Array Value}{Q:Unit->Shared->Prop}(ho:s.heap.get? it=some o) (hc:o.cls=.type n) (hd:o.data=.fields vs)
  (hn:["enumerate", "zip", "dict_itemiterator", "dict_reverseitemiterator", "odict_iterator", "itertools.zip_longest", "itertools.pairwise"].contains n=false) (hQ:Q () s):wpAny M A (letOwnedTupleGo tg (.ref it) u) Q E s:=by
 unfold letOwnedTupleGo
 cases tg<;>first
  | exact wpAny_pure hQ
  | (cases u<;>first
    | exact wpAny_pure hQ
    | (refine wpAny_bind (wpAny_load ho ?_)
       rw [hc,hd]
       show wpAny M A (if (["enumerate", "zip", "dict_itemiterator", "dict_reverseitemiterator", "odict_iterator", "itertools.zip_longest", "itertools.pairwise"].contains n&&vs[0]? == some (rawInt _))=true then _ else _) Q E s
       rw [if_neg (by intro h;rw [hn,BE] at h;cases h)]
       exact wpAny_pure hQ))
def Itl (K:bC) (a:Addr):It:=
 ⟨fun i H=>∃ xs x,du K H a xs/\xs[i]?=some x,fun i H x H'=>H'=H/\∀ xs,du K H a xs->xs[i]?=some x,fun i H=>∃ xs,du K H a xs/\xs.length<=i⟩
def Itt (K:bC) (a:Addr):It:=
 ⟨fun i H=>∃ xs x,j_ K H a xs/\xs[i]?=some x,fun i H x H'=>H'=H/\∀ xs,j_ K H a xs->xs[i]?=some x,fun i H=>∃ xs,j_ K H a xs/\xs.length<=i⟩
def UT (lo:Int) (n:Nat):It:=⟨fun i _=>i<n,fun i H x H'=>H'=H/\x=.int (lo+i),fun i _=>n<=i⟩
theorem yM {P:Program}{w:World}{K:bC}{tg:Expr}(a it:Addr):Turn P w K tg (Itl K a) [it] it (fun i h=>h.IsListIter it a i) where
 mem:=by simp
 obj:=fun i h st b hb=>by
  have e:b=it:=by simpa using hb
  subst e
  obtain ⟨o,e,c,d⟩:=st
  exact ⟨o,e,fun v z=>by rw [d] at z;cases z⟩
 keep:=fun i h h' st k=>st.at fun o e=>k it (by simp) o e
 item:=by
  intro X hP hw hK hc i aa s σ H E I hf st hg
  subst hP hw hK
  obtain ⟨xs,x,hq,hx⟩:=hg
  obtain ⟨its,rv,p,hz⟩:=I.list hq
  obtain ⟨u,hu,ru⟩:=rv.get hx
  obtain ⟨f0,f1,f2,f3,f4,f5⟩:=hf it (by simp)
  refine wpAny_pyNext_list_item st p.isList (x:=u) (by simpa using hu) fun h' AU sb=>?_
  have I1:Inv X aa σ H { s with heap:=h' }:=I.turned (t':=s.toks) (fun b o hb e=>(sb.2 b hb).trans e) f0 f1 f3 f4 f5
  obtain ⟨o,e,c,d⟩:=id AU
  exact ⟨u,rfl,B9 (s:={ s with heap:=h' }) e c d (by decide) ⟨x,H,I1,ru,⟨rfl,fun ys hy=>by rw [I.B0 hy hq];exact hx⟩,AU,fun b hb=>(hf b hb).1⟩⟩
 done:=by
  intro X hP hw hK hc i aa s σ H E I hf st hg
  subst hP hw hK
  obtain ⟨xs,hq,hx⟩:=hg
  obtain ⟨its,rv,p,hz⟩:=I.list hq
  obtain ⟨f0,f1,f2,f3,f4,f5⟩:=hf it (by simp)
  have hl:=rv.length
  exact wpAny_pyNext_list_end (I.ok.hd hc) st p.isList (by simp;omega) fun h' eb=>⟨rfl,I.turned (t':=s.toks) (fun b o hb e=>eb b o hb e) f0 f1 f3 f4 f5⟩
 self:=fun _ _ _ _ _ st h=>wpAny_pyIter_listiter st h
theorem uo {P:Program}{w:World}{K:bC}{tg:Expr}(a it:Addr):Turn P w K tg (Itt K a) [it] it (fun i h=>h.IsTupleIter it a i) where
 mem:=by simp
 obj:=fun i h st b hb=>by
  have e:b=it:=by simpa using hb
  subst e
  obtain ⟨o,e,c,d⟩:=st
  exact ⟨o,e,fun v z=>by rw [d] at z;cases z⟩
 keep:=fun i h h' st k=>st.at fun o e=>k it (by simp) o e
 item:=by
  intro X hP hw hK hc i aa s σ H E I hf st hg
  subst hP hw hK
  obtain ⟨xs,x,hq,hx⟩:=hg
  obtain ⟨its,rv,p,hz⟩:=I.tuple hq
  obtain ⟨u,hu,ru⟩:=rv.get hx
  obtain ⟨f0,f1,f2,f3,f4,f5⟩:=hf it (by simp)
  refine wpAny_pyNext_tuple_item st (show s.heap.IsTuple a its.toArray from p) (x:=u) (by simpa using hu) fun h' AU sb=>?_
  have I1:Inv X aa σ H { s with heap:=h' }:=I.turned (t':=s.toks) (fun b o hb e=>(sb.2 b hb).trans e) f0 f1 f3 f4 f5
  obtain ⟨o,e,c,d⟩:=id AU
  exact ⟨u,rfl,B9 (s:={ s with heap:=h' }) e c d (by decide) ⟨x,H,I1,ru,⟨rfl,fun ys hy=>by rw [I.nq hy hq];exact hx⟩,AU,fun b hb=>(hf b hb).1⟩⟩
 done:=by
  intro X hP hw hK hc i aa s σ H E I hf st hg
  subst hP hw hK
  obtain ⟨xs,hq,hx⟩:=hg
  obtain ⟨its,rv,p,hz⟩:=I.tuple hq
  obtain ⟨f0,f1,f2,f3,f4,f5⟩:=hf it (by simp)
  have hl:=rv.length
  exact wpAny_pyNext_tuple_end (I.ok.hd hc) st (show s.heap.IsTuple a its.toArray from p) (by simp;omega) fun h' eb=>⟨rfl,I.turned (t':=s.toks) (fun b o hb e=>eb b o hb e) f0 f1 f3 f4 f5⟩
 self:=fun _ _ _ _ _ st h=>wpAny_pyIter_tupleiter st h
theorem uq {P:Program}{w:World}{K:bC}{tg:Expr}(it:Addr) (lo:Int) (n:Nat):Turn P w K tg (UT lo n) [it] it (fun i h=>IsRangeIter h it (lo+(i:Nat)*1) ((n:Int)-(i:Nat)) 1) where
 mem:=by simp
 obj:=fun i h st b hb=>by
  have e:b=it:=by simpa using hb
  subst e
  exact ⟨_,st,fun v z=>by
   have z':Data.fields _=Data.cell v:=z
   cases z'⟩
 keep:=fun i h h' st k=>k it (by simp) _ st
 item:=by
  intro X hP hw hK hc i aa s σ H E I hf st hg
  subst hP hw hK
  obtain ⟨f0,f1,f2,f3,f4,f5⟩:=hf it (by simp)
  have W:=Walks.range (prog:=X.prog) (w:=X.w) (I.ok.hd hc) it lo 1 n
  refine W.item i s _ _ hg st fun v h' tk hv AU kk=>?_
  obtain ⟨t,rfl⟩:=hv
  have I1:Inv X aa σ H { s with heap:=h',toks:=tk }:=I.turned (fun b o hb e=>kk b o (by simpa using hb) e) f0 f1 f3 f4 f5
  refine ⟨_,rfl,B9 (s:={ s with heap:=h',toks:=tk }) (n := "range_iterator") AU rfl rfl (by decide) ⟨.int (lo+i),H,I1,⟨t,?_⟩,⟨rfl,rfl⟩,AU,fun b hb=>(hf b hb).1⟩⟩
  rw [Int.mul_one]
 done:=by
  intro X hP hw hK hc i aa s σ H E I hf st hg
  subst hP hw hK
  obtain ⟨f0,f1,f2,f3,f4,f5⟩:=hf it (by simp)
  exact wpAny_pyNext_range_end (I.ok.hd hc) st (by have:n<=i:=hg;omega) fun h' eb=>⟨rfl,I.turned (t':=s.toks) (fun b o hb e=>eb b o hb e) f0 f1 f3 f4 f5⟩
 self:=fun _ _ _ _ _ st h=>wpAny_pyIter_rangeiter st h
section
variable {X:Cx}{tg:Expr}
def UU (K:bC) (tl:TE):TI:=fun σ H R=>tl σ H fun x H1=>∃ a,x=.ref a/\(∃ xs,du K H1 a xs)/\R (Itl K a) H1
def abQ (K:bC) (tl:TE):TI:=fun σ H R=>tl σ H fun x H1=>∃ a,x=.ref a/\(∃ xs,j_ K H1 a xs)/\R (Itt K a) H1
theorem GP {l:Expr}{tl:TE}(hl:PE X l tl):PI X tg l (UU X.K tl):=by
 intro aa s σ H R I h
 refine bS (hl aa s σ H _ I h) fun v s1 zz=>?_
 obtain ⟨x,H1,I1,r1,q1⟩:=zz
 obtain ⟨a,e,⟨xs,hq⟩,q⟩:=q1
 subst e
 cases r1
 obtain ⟨its,rv,p,hz⟩:=I1.list hq
 refine wpAny_pyIter_list p.isList ?_
 refine ⟨s1.heap.objs.size,[s1.heap.objs.size],_,_,H1,rfl,I1.kept (t':=s1.toks) fun b o e=>Heap.get?_push_of_some _ e,yM a _,⟨_,Heap.get?_push_size _ rfl,rfl,rfl⟩,fun b hb=>?_,q⟩
 have e:b=s1.heap.objs.size:=by simpa using hb
 subst e
 exact I1.um (dS _) (I1.bW.fresh (dS _))
theorem Ou {l:Expr}{tl:TE}(hl:PE X l tl):PI X tg l (abQ X.K tl):=by
 intro aa s σ H R I h
 refine bS (hl aa s σ H _ I h) fun v s1 zz=>?_
 obtain ⟨x,H1,I1,r1,q1⟩:=zz
 obtain ⟨a,e,⟨xs,hq⟩,q⟩:=q1
 subst e
 cases r1
 obtain ⟨its,rv,p,hz⟩:=I1.tuple hq
 refine wpAny_pyIter_tuple (show s1.heap.IsTuple a its.toArray from p) ?_
 refine ⟨s1.heap.objs.size,[s1.heap.objs.size],_,_,H1,rfl,I1.kept (t':=s1.toks) fun b o e=>Heap.get?_push_of_some _ e,uo a _,⟨_,Heap.get?_push_size _ rfl,rfl,rfl⟩,fun b hb=>?_,q⟩
 have e:b=s1.heap.objs.size:=by simpa using hb
 subst e
 exact I1.um (dS _) (I1.bW.fresh (dS _))
theorem qK {aa:c9}{σ:St}{H:Hp}{s:Shared}{R:It->Hp->Prop}{E:Value->Shared->Prop}{lo hi:Int}{t u v:Tok}{tk:Nat}(I:Inv X aa σ H s) (h1:-(2 ^ 62)<=lo) (h2:lo<2 ^ 62) (h3:-(2 ^ 62)<=hi) (h4:hi<2 ^ 62)
  (q:R (UT lo (hi-lo).toNat) H):wpAny (model X.prog X.w) X.A (pyIter (.ref s.heap.objs.size)) (PIE X aa σ tg R) E { s with heap:=s.heap.push { cls:=.type "range", data:=.fields #[.int lo t,.int hi u,.int 1 v] },toks:=tk }:=by
 refine wpAny_pyIter_range (IsRange.new ..) (small_one h1 h2 h3 h4) ?_
 have I1:Inv X aa σ H { s with heap:=s.heap.push { cls:=.type "range", data:=.fields #[.int lo t,.int hi u,.int 1 v] },toks:=tk }:=I.kept fun b o e=>Heap.get?_push_of_some _ e
 refine ⟨(s.heap.push { cls:=.type "range", data:=.fields #[.int lo t,.int hi u,.int 1 v] }).objs.size,[(s.heap.push { cls:=.type "range", data:=.fields #[.int lo t,.int hi u,.int 1 v] }).objs.size],_,_,H,rfl,
  I1.kept (t':=tk) fun b o e=>Heap.get?_push_of_some _ e,uq _ lo (hi-lo).toNat,?_,fun b hb=>?_,q⟩
 ·have e1:lo+((0:Nat):Int)*1=lo:=by simp
  have e2:(((hi-lo).toNat:Nat):Int)-((0:Nat):Int)=Builtin.Range.rangeSize lo hi 1:=by rw [rangeSize_one];split<;>omega
  show IsRangeIter _ _ (lo+((0:Nat):Int)*1) ((((hi-lo).toNat:Nat):Int)-((0:Nat):Int)) 1
  rw [e1,e2]
  exact Heap.get?_push_size _ rfl
 ·have e:b=(s.heap.push { cls:=.type "range", data:=.fields #[.int lo t,.int hi u,.int 1 v] }).objs.size:=by simpa using hb
  subst e
  exact I1.um (dS _) (I1.bW.fresh (dS _))
def UW (ta:TA):TI:=fun σ H R=>ta σ H fun vs H1=>∃ j:Int,vs=[.int j]/\-(2 ^ 62)<=j/\j<2 ^ 62/\R (UT 0 j.toNat) H1
def UX (ta:TA):TI:=fun σ H R=>ta σ H fun vs H1=>∃ i j:Int,vs=[.int i,.int j]/\(-(2 ^ 62)<=i/\i<2 ^ 62/\-(2 ^ 62)<=j/\j<2 ^ 62)/\R (UT i (j-i).toNat) H1
theorem yN {a:Expr}{ta:TA}{p pos:Pos}(hg:Gl X "range") (hm:X.mg "range" = none) (ha:PA X [a] ta) (hs:starEach [a] X.env=[(false,eval a X.env)]:=by rfl):PI X tg (.Call (.Name "range" p) [a] [] pos) (UW ta):=by
 intro aa s σ H R I h
 refine Call_ (gc I hg hm boot_range (BU (bS (ha pos aa s σ H _ I h) fun us s1 ⟨vs,H1,I1,r1,q1⟩=>?_) hs rfl))
 obtain ⟨j,e,q1,q2,q⟩:=q1
 subst e
 cases r1 with
 | cons r rr=>
  cases rr
  obtain ⟨t,rfl⟩:=r
  exact call_range_1 (qK I1 (by omega) (by omega) q1 q2 (by simpa using q))
theorem Ug {a b:Expr}{ta:TA}{p pos:Pos}(hg:Gl X "range") (hm:X.mg "range" = none) (ha:PA X [a,b] ta) (hs:starEach [a,b] X.env=[(false,eval a X.env),(false,eval b X.env)]:=by rfl) (AV:starEach [b] X.env=[(false,eval b X.env)]:=by rfl) :
  PI X tg (.Call (.Name "range" p) [a,b] [] pos) (UX ta):=by
 intro aa s σ H R I h
 refine Call_ (gc I hg hm boot_range (BU (bS (ha pos aa s σ H _ I h) fun us s1 ⟨vs,H1,I1,r1,q1⟩=>?_) (by rw [hs,AV]) (by rw [AV];rfl)))
 obtain ⟨i,j,e,⟨q1,q2,q3,q4⟩,q⟩:=q1
 subst e
 cases r1 with
 | cons r rr=>
  cases rr with
  | cons r' rr=>
   cases rr
   obtain ⟨t,rfl⟩:=r
   obtain ⟨t',rfl⟩:=r'
   exact call_range_2 (qK I1 q1 q2 q3 q4 q)
def abR (wi:TI) (g:TG) (tb:TS):TS:=fun D σ H=>wi σ H fun J H1=>∃ W:Nat->Nat->St->Hp->Prop,(∃ m,W 0 m σ H1)/\∀ i m σ H,W i m σ H ->
 (J.stop i H/\D.nx σ H)\/(J.go i H/\∃ N:St->Hp->Prop,(∀ σ' H',N σ' H'->∃ m',m'<m/\W (i+1) m' σ' H')/\∀ x H',J.yld i H x H'->g x σ H' fun σ2 H2=>tb { D with nx:=N,ct:=N,bk:=D.nx } σ2 H2)
def lh (fp:List Addr) (h:Heap):c9:=fp.filterMap fun b=>(h.get? b).map fun o=>(b,o)
theorem gf {fp:List Addr}{h:Heap}{b:Addr}{o:Obj}(hb:b∈fp) (e:h.get? b=some o):(b,o)∈lh fp h:=Bj.mpr ⟨b,hb,by rw [e];rfl⟩
theorem yO {fp:List Addr}{h:Heap}{p:Addr × Obj}(hp:p∈lh fp h):p.1∈fp/\h.get? p.1=some p.2:=by
 obtain ⟨b,hb,e⟩:=Bj.mp hp
 cases q:h.get? b with
 | none=>rw [q] at e;cases e
 | some o=>
  rw [q] at e
  have e':(b,o)=p:=jN.inj e
  subst e'
  exact ⟨hb,q⟩
theorem Inv.pinned {aa:c9}{σ:St}{H:Hp}{s:Shared}{fp:List Addr}(I:Inv X aa σ H s) (hf:∀ b∈fp,lg X aa H b) (ho:∀ b∈fp,∃ o,s.heap.get? b=some o/\∀ v,o.data≠.cell v):Inv X (aa++lh fp s.heap) σ H s:=
 I.wI fun p hp=>(f_.mp hp).elim (fun z=>I.pin p (k_ _ z)) fun z=>by
  obtain ⟨hb,e⟩:=yO z
  obtain ⟨f0,f1,f2,_⟩:=hf p.1 hb
  obtain ⟨o,e',d⟩:=ho p.1 hb
  rw [e] at e';cases e'
  exact ⟨e,f0,f1,f2,d⟩
theorem Inv.jd {aa pl:c9}{σ:St}{H:Hp}{s:Shared}(I:Inv X (aa++pl) σ H s):Inv X aa σ H s:=I.wI fun p hp=>I.pin p (k_ _ (Ln _ hp))
theorem Ov {iter:Expr}{body:List Stmt}{wi:TI}{g:TG}{tb:TS}{pos:Pos}(hp:PassesOwn (model X.prog X.w) X.A X.env X.xe) (hc:X.calm=true) (hi:PI X tg iter wi) (hg:PG X tg g) (hb:jb X body tb)
  (hs:∀ x,foldedSetIterable iter X.env x=pure x:=by intro _;rfl):PS X (.For tg iter body [] pos) (abR wi g tb):=by
 intro aa s σ H D I h
 refine wpAny_For (bS (hi aa s σ H _ I h) fun v s1 h1=>bS h1 fun itv s2 h2=>?_) hs
 obtain ⟨it,fp,tn,J,H2,e,I2,T,UY,f2,W,⟨m0,w0⟩,turn⟩:=h2
 subst e
 have ur:∀ {H':Hp},(∀ b∈fp,H' b=none)->∀ b∈fp,lg X aa H' b:=fun hn b hb=>⟨hn b hb,(f2 b hb).2⟩
 refine codeAny_forLoop_any (fun n s'=>∃ i σ' H',Inv X aa σ' H' s'/\tn i s'.heap/\(∀ b∈fp,H' b=none)/\W i n σ' H') ?_ m0 ⟨0,σ,H2,I2,UY,fun b hb=>(f2 b hb).1,w0⟩
 rintro n s3 ⟨i,σ3,H3,I3,st3,fr3,w3⟩
 rcases turn i n σ3 H3 w3 with ⟨stop,qn⟩ | ⟨go,N,hN,step⟩
 ·refine wpAny_passesOwn hp (bS (T.done X rfl rfl rfl hc i aa s3 σ3 H3 X.xe I3 (ur fr3) st3 stop) fun r s4 zz=>?_)
  obtain ⟨hr,I4⟩:=zz
  subst hr
  exact wpAny_execs_nil ⟨σ3,H3,I4,qn⟩
 ·refine wpAny_passesOwn hp (bS (T.item X rfl rfl rfl hc i aa s3 σ3 H3 X.xe I3 (ur fr3) st3 go) fun r s4 zz=>?_)
  obtain ⟨u,hr,h4⟩:=zz
  subst hr
  refine wpAny_passesOwn hp (bS h4 fun _ s5 zz=>?_)
  obtain ⟨x,H5,I5,r5,y5,GQ,fr5⟩:=zz
  have I5':=I5.pinned (ur fr5) (T.obj _ _ GQ)
  refine wpAny_passesOwn hp (bS (hg _ s5 σ3 H5 x u _ I5' r5 (step x H5 y5)) fun _ s6 zz=>?_)
  obtain ⟨σ6,H6,I6,q6⟩:=zz
  refine wpAny_passesOwn hp (bS (hb _ s6 σ6 H6 _ I6 q6) fun f s7 q7=>?_)
  have again:∀ {σ7:St} {H7:Hp},Inv X (aa++lh fp s5.heap) σ7 H7 s7->N σ7 H7->∃ m,m<n/\∃ i σ' H',Inv X aa σ' H' s7/\tn i s7.heap/\(∀ b∈fp,H' b=none)/\W i m σ' H':=fun {σ7 H7} I7 n7=>by
   obtain ⟨m',hm,w7⟩:=hN σ7 H7 n7
   refine ⟨m',hm,i+1,σ7,H7,I7.jd,T.keep _ _ _ GQ fun b hb o e=>(I7.pin (b,o) (k_ _ (k_ _ (gf hb e)))).1,fun b hb=>?_,w7⟩
   obtain ⟨o,e,d⟩:=T.obj _ _ GQ b hb
   exact (I7.pin (b,o) (k_ _ (k_ _ (gf hb e)))).2.1
  cases f with
  | next=>obtain ⟨σ7,H7,I7,n7⟩:=q7;exact again I7 n7
  | cont=>obtain ⟨σ7,H7,I7,n7⟩:=q7;exact again I7 n7
  | brk=>obtain ⟨σ7,H7,I7,q7⟩:=q7;exact ⟨σ7,H7,I7.jd,q7⟩
  | ret v=>obtain ⟨x7,σ7,H7,I7,r7,q7⟩:=q7;exact ⟨x7,σ7,H7,I7.jd,r7,q7⟩
end
abbrev R2:=V->V->Hp->VK->Prop
def fj (X:Cx) (f:Value->Value->Sem Value) (r:R2):Prop:=
 ∀ (aa:c9) (s:Shared) (σ:St) (H:Hp) (x y:V) (v u:Value) (Q:VK),Inv X aa σ H s->RelV x v->RelV y u->r x y H Q ->
  wpAny (model X.prog X.w) X.A (f v u) (EP X aa σ Q) X.xe s
def UnR (X:Cx) (f:Value->Sem Value) (r:V->Hp->VK->Prop):Prop:=
 ∀ (aa:c9) (s:Shared) (σ:St) (H:Hp) (x:V) (v:Value) (Q:VK),Inv X aa σ H s->RelV x v->r x H Q ->
  wpAny (model X.prog X.w) X.A (f v) (EP X aa σ Q) X.xe s
def fk (X:Cx) (f:Value) (r:List V->Hp->VK->Prop):Prop:=
 ∀ (aa:c9) (s:Shared) (σ:St) (H:Hp) (xs:List V) (us:List Value) (Q:VK),Inv X aa σ H s->Vals xs us->r xs H Q ->
  wpAny (model X.prog X.w) X.A (call f us) (EP X aa σ Q) X.xe s
def abS (X:Cx) (r:V->Hp->(Bool->Hp->Prop)->Prop):Prop:=
 ∀ (aa:c9) (s:Shared) (σ:St) (H:Hp) (x:V) (v:Value) (Q:Bool->Hp->Prop),Inv X aa σ H s->RelV x v->r x H Q ->
  wpAny (model X.prog X.w) X.A (truthy v) (TP X aa σ Q) X.xe s
def F9 (r:R2) (ta tb:TE):TE:=fun σ H Q=>ta σ H fun x H1=>tb σ H1 fun y H2=>r x y H2 Q
def tUn (r:V->Hp->VK->Prop) (ta:TE):TE:=fun σ H Q=>ta σ H fun x H1=>r x H1 Q
def rI (C:Int->Int->Prop) (g:Int->Int->V):R2:=fun x y H Q=>∃ i j,x=.int i/\y=.int j/\C i j/\Q (g i j) H
def AW (g:Int->Int->V):R2:=fun x y H Q=>∃ i j,x=.int i/\y=.int j/\Q (g i j) H
def rU (g:Int->V):V->Hp->VK->Prop:=fun x H Q=>∃ i,x=.int i/\Q (g i) H
section
variable {X:Cx}{a c:Expr}{ta tb tc:TE}
theorem Ow (ha:PE X a ta) (hb:PE X b tb) {aa:c9}{s:Shared}{σ:St}{H:Hp}{R:V->V->Hp->Prop}(I:Inv X aa σ H s)
  (h:ta σ H fun x H1=>tb σ H1 fun y H2=>R x y H2) {Q:Value->Shared->Prop} {f:Value->Value->Sem Value}
  (hf:∀ v u s2 x y H2,Inv X aa σ H2 s2->RelV x v->RelV y u->R x y H2->wpAny (model X.prog X.w) X.A (f v u) Q X.xe s2) :
  wpAny (model X.prog X.w) X.A (eval a X.env) (fun v s₁=>wpAny (model X.prog X.w) X.A (eval b X.env) (fun u s₂=>wpAny (model X.prog X.w) X.A (f v u) Q X.xe s₂) X.xe s₁) X.xe s:=by
 refine bS (ha aa s σ H _ I h) fun v s1 zz=>?_
 obtain ⟨x,H1,I1,r1,q1⟩:=zz
 refine bS (hb aa s1 σ H1 _ I1 q1) fun u s2 zz=>?_
 obtain ⟨y,H2,I2,r2,q2⟩:=zz
 exact hf v u s2 x y H2 I2 r1 r2 q2
theorem nt {op:Operator}{r:R2}(ho:fj X (binaryOp op) r) (ha:PE X a ta) (hb:PE X b tb):PE X (.BinOp a op b pos) (F9 r ta tb):=by
 intro aa s σ H Q I h
 exact wpAny_BinOp (Ow ha hb I h fun v u s2 x y H2 I2 rx ry q=>ho aa s2 σ H2 x y v u Q I2 rx ry q)
theorem UZ {op:UnaryOp}{r:V->Hp->VK->Prop}(ho:UnR X (unaryOp op) r) (ha:PE X a ta):PE X (.UnaryOp op a pos) (tUn r ta):=by
 intro aa s σ H Q I h
 exact UnaryOp_ (bS (ha aa s σ H _ I h) fun v s1 ⟨x,H1,I1,r1,q1⟩=>ho aa s1 σ H1 x v Q I1 r1 q1)
theorem opI {f:Value->Value->Sem Value}{C:Int->Int->Prop}{g:Int->Int->Int}
  (rule:∀ (i j:Int) (t u:Tok) (s:Shared) (Q:Value->Shared->Prop) (E:Value->Shared->Prop),C i j->Q (.int (g i j) s.toks) { s with toks:=s.toks+1 }->wpAny (model X.prog X.w) X.A (f (.int i t) (.int j u)) Q E s) :
  fj X f (rI C fun i j=>.int (g i j)):=by
 intro aa s σ H x y v u Q I rx ry h
 obtain ⟨i,j,rfl,rfl,hc,q⟩:=h
 obtain ⟨t,rfl⟩:=rx
 obtain ⟨t',rfl⟩:=ry
 exact rule i j t t' s _ _ hc ⟨.int (g i j),H,I.tok _,⟨_,rfl⟩,q⟩
theorem U0 {f:Value->Value->Sem Value}{g:Int->Int->Int}
  (rule:∀ (i j:Int) (t u:Tok) (s:Shared) (Q:Value->Shared->Prop) (E:Value->Shared->Prop),Q (.int (g i j) s.toks) { s with toks:=s.toks+1 }->wpAny (model X.prog X.w) X.A (f (.int i t) (.int j u)) Q E s) :
  fj X f (AW fun i j=>.int (g i j)):=by
 intro aa s σ H x y v u Q I rx ry h
 obtain ⟨i,j,rfl,rfl,q⟩:=h
 obtain ⟨t,rfl⟩:=rx
 obtain ⟨t',rfl⟩:=ry
 exact rule i j t t' s _ _ ⟨.int (g i j),H,I.tok _,⟨_,rfl⟩,q⟩
theorem GR {f:Value->Value->Sem Value}{g:Int->Int->Bool}
  (rule:∀ (i j:Int) (t u:Tok) (s:Shared) (Q:Value->Shared->Prop) (E:Value->Shared->Prop),Q (.bool (g i j)) s->wpAny (model X.prog X.w) X.A (f (.int i t) (.int j u)) Q E s) :
  fj X f (AW fun i j=>.bl (g i j)):=by
 intro aa s σ H x y v u Q I rx ry h
 obtain ⟨i,j,rfl,rfl,q⟩:=h
 obtain ⟨t,rfl⟩:=rx
 obtain ⟨t',rfl⟩:=ry
 exact rule i j t t' s _ _ ⟨.bl (g i j),H,I,rfl,q⟩
def U1 (i j:Int):Prop:=0<j/\j<1073741824
def U3 (i j:Int):Prop:=0<=j/\j<=1000000/\i.natAbs<2 ^ 64
def Ox (i j:Int):Prop:=(-(2 ^ 64)<i/\i<2 ^ 64)\/(-(2 ^ 64)<j/\j<2 ^ 64)
theorem Ox.ok {i j:Int}(h:Ox i j):IntMulOk i j:=by
 rcases h with ⟨h1,h2⟩ | ⟨h1,h2⟩
 ·exact .of_left (intBits_le_64 h1 h2)
 ·exact .of_right (intBits_le_64 h1 h2)
theorem Oz:fj X (binaryOp .Add) (AW fun i j=>.int (i+j)):=U0 fun _ _ _ _ _ _ _ q=>add_int q
theorem OA:fj X (binaryOp .Sub) (AW fun i j=>.int (i-j)):=U0 fun _ _ _ _ _ _ _ q=>sub_int q
theorem GS:fj X (binaryOp .FloorDiv) (rI U1 fun i j=>.int (i/j)):=opI fun i j _ _ _ _ _ hc q=>by
 have h1:(0:Int)<j:=hc.1
 have h2:j<1073741824:=hc.2
 exact floordiv_int (by omega) (by rw [Int.fdiv_eq_ediv_of_nonneg i (by omega)];exact q) (.inl (PyProof.noPylong_small (by omega)))
theorem OB:fj X (binaryOp .Mod) (rI (fun _ j=>0<j) fun i j=>.int (i % j)):=opI fun i j _ _ _ _ _ hc q=>by
 have h1:(0:Int)<j:=hc
 exact mod_int' (by omega) (by rw [Int.fmod_eq_emod_of_nonneg i (by omega)];exact q)
theorem OC:fj X (binaryOp .Pow) (rI U3 fun i j=>.int (i ^ j.toNat)):=opI fun _ _ _ _ _ _ _ hc q=>pow_int_small hc.1 hc.2.1 hc.2.2 q
theorem unI {f:Value->Sem Value}{g:Int->Int}
  (rule:∀ (i:Int) (t:Tok) (s:Shared) (Q:Value->Shared->Prop) (E:Value->Shared->Prop),Q (.int (g i) s.toks) { s with toks:=s.toks+1 }->wpAny (model X.prog X.w) X.A (f (.int i t)) Q E s) :
  UnR X f (rU fun i=>.int (g i)):=by
 intro aa s σ H x v Q I rx h
 obtain ⟨i,rfl,q⟩:=h
 obtain ⟨t,rfl⟩:=rx
 exact rule i t s _ _ ⟨.int (g i),H,I.tok _,⟨_,rfl⟩,q⟩
theorem OD:UnR X (unaryOp .USub) (rU fun i=>.int (-i)):=unI fun _ _ _ _ _ q=>neg_int q
end
section
variable {X:Cx}{a c:Expr}{ta tb tc:TE}
theorem gR {aa:c9}{σ:St}{H:Hp}{s:Shared}{Q:VK}{k k':Bool}(I:Inv X aa σ H s) (q:Q (.bl k) H) (e:k=k'):EP X aa σ Q (.bool k') s:=by
 subst e
 exact ⟨.bl k,H,I,rfl,q⟩
theorem U4:fj X (compareOp .Lt) (AW fun i j=>.bl (decide (i<j))):=GR fun _ _ _ _ _ _ _ q=>lt_int q
theorem U5:fj X (compareOp .LtE) (AW fun i j=>.bl (decide (i<=j))):=GR fun _ _ _ _ _ _ _ q=>le_int q
theorem U6:fj X (compareOp .Gt) (AW fun i j=>.bl (decide (j<i))):=GR fun _ _ _ _ _ _ _ q=>gt_int q
theorem U7:fj X (compareOp .GtE) (AW fun i j=>.bl (decide (j<=i))):=GR fun _ _ _ _ _ _ _ q=>ge_int q
theorem yP:fj X (compareOp .In) (fun x y H Q=>∃ i j,x=.str i/\y=.str j/\Q (.bl (!(Builtin.Str.occurrences j i 0 j.length 1).isEmpty)) H):=by
 intro aa s σ H x y v u Q I rx ry h
 obtain ⟨i,j,rfl,rfl,q⟩:=h
 obtain ⟨t,rfl⟩:=rx
 obtain ⟨t',rfl⟩:=ry
 exact in_str (gR I q rfl)
theorem OE:fj X (compareOp .Is) (fun x y H Q=>y=.non/\Q (.bl (decide (x=.non))) H):=by
 intro aa s σ H x y v u Q I rx ry h
 obtain ⟨rfl,q⟩:=h
 cases ry
 refine is_none_gen (gR I q ?_)
 cases x<;>first
  | (cases rx;rfl)
  | (obtain ⟨t,rfl⟩:=rx;rfl)
theorem abz:fj X (compareOp .IsNot) (fun x y H Q=>y=.non/\Q (.bl (!decide (x=.non))) H):=by
 intro aa s σ H x y v u Q I rx ry h
 obtain ⟨rfl,q⟩:=h
 cases ry
 refine isnot_none_gen (gR I q ?_)
 cases x<;>first
  | (cases rx;rfl)
  | (obtain ⟨t,rfl⟩:=rx;rfl)
theorem oV:fj X (compareOp .NotIn) (fun x y H Q=>∃ i j,x=.str i/\y=.str j/\Q (.bl (!(!(Builtin.Str.occurrences j i 0 j.length 1).isEmpty))) H):=by
 intro aa s σ H x y v u Q I rx ry h
 obtain ⟨i,j,rfl,rfl,q⟩:=h
 obtain ⟨t,rfl⟩:=rx
 obtain ⟨t',rfl⟩:=ry
 exact notIn_str (gR I q rfl)
theorem fj.or {f:Value->Value->Sem Value}{r r':R2}(h:fj X f r) (h':fj X f r'):fj X f (fun x y H Q=>r x y H Q\/r' x y H Q):=by
 intro aa s σ H x y v u Q I rx ry q
 rcases q with q | q
 ·exact h aa s σ H x y v u Q I rx ry q
 ·exact h' aa s σ H x y v u Q I rx ry q
theorem kQ {op:CmpOp}{r:R2}(ho:fj X (compareOp op) r) (ha:PE X a ta) (hb:PE X b tb) (hm:behindInMarks op b=false):PE X (.Compare a [op] [b] pos) (F9 r ta tb):=by
 intro aa s σ H Q I h
 exact wpAny_Compare1 (Ow ha hb I h fun v u s2 x y H2 I2 rx ry q=>ho aa s2 σ H2 x y v u Q I2 rx ry q) hm
def U8 (t:TE):TT:=fun σ H Q=>t σ H fun x H'=>∃ k,x=.bl k/\Q k H'
theorem kR {op:CmpOp}{r:R2}(ho:fj X (compareOp op) r) (ha:PE X a ta) (hb:PE X b tb) (hm:behindInMarks op b=false):PT X (.Compare a [op] [b] pos) (U8 (F9 r ta tb)):=by
 intro aa s σ H Q I h
 refine wpAny_isTrue_Compare1 (bS (ha aa s σ H _ I h) fun v s1 ⟨x,H1,I1,r1,q1⟩=>bS (hb aa s1 σ H1 _ I1 q1) fun u s2 ⟨y,H2,I2,r2,q2⟩=>
  bS (ho aa s2 σ H2 x y v u _ I2 r1 r2 q2) fun c s3 ⟨z,H3,I3,r3,k,e,q3⟩=>?_) hm
 subst e
 cases r3
 exact wpAny_truthy_bool ⟨H3,I3,q3⟩
def OF (K:bC) (x:V) (H:Hp) (k:Bool):Prop:=
 match x with
 | .non=>k=false
 | .bl b=>k=b
 | .int i=>k=(i != 0)
 | .str y=>y.length<=sizeLine/\k=((y.length:Int) != 0)
 | .byt y=>y.size<=sizeLine/\k=((y.size:Int) != 0)
 | .ref p=>(∃ xs,du K H p xs/\k=!xs.isEmpty)\/(∃ xs,j_ K H p xs/\k=!xs.isEmpty)\/∃ a7,H p=some (.dK a7)/\k=!a7.isEmpty
 | _=>False
theorem uu {κ:Type}{a7:List (κ × V)}{vs:List (κ × Value)}(r:KV a7 vs):(!vs.isEmpty)=!a7.isEmpty:=by
 cases r<;>rfl
theorem lj {xs:List V}{its:List Value}(r:Vals xs its):(!its.toArray.isEmpty)=!xs.isEmpty:=by
 cases r<;>simp
theorem jO:(sizeLine:Nat)<2 ^ 63:=by rw [sizeLine_eq];decide
theorem OG:abS X (fun x H Q=>∃ k,OF X.K x H k/\Q k H):=by
 intro aa s σ H x v Q I rx h
 obtain ⟨k,e,q⟩:=h
 have hl:=jO
 have hs:sizeLine=16777216:=sizeLine_eq
 cases x with
 | non=>
  cases rx
  have e':k=false:=e
  subst e'
  exact truthy_none ⟨H,I,q⟩
 | bl b=>
  cases rx
  have e':k=b:=e
  subst e'
  exact wpAny_truthy_bool ⟨H,I,q⟩
 | int i=>
  obtain ⟨t,rfl⟩:=rx
  have e':k=(i != 0):=e
  subst e'
  exact PySem.P.truthy_int ⟨H,I,q⟩
 | str y=>
  obtain ⟨t,rfl⟩:=rx
  obtain ⟨hy,e'⟩:y.length<=sizeLine/\k=((y.length:Int) != 0):=e
  subst e'
  exact PySem.P.truthy_str (by omega) ⟨H,I.tok _,q⟩
 | byt y=>
  obtain ⟨t,rfl⟩:=rx
  obtain ⟨hy,e'⟩:y.size<=sizeLine/\k=((y.size:Int) != 0):=e
  subst e'
  exact PySem.W.truthy_bytes (by omega) ⟨H,I.tok _,q⟩
 | ref p=>
  cases rx
  have e':(∃ xs,du X.K H p xs/\k=!xs.isEmpty)\/(∃ xs,j_ X.K H p xs/\k=!xs.isEmpty)\/∃ a7,H p=some (.dK a7)/\k=!a7.isEmpty:=e
  rcases e' with ⟨xs,hx,e'⟩ | ⟨xs,hx,e'⟩ | ⟨a7,hx,e'⟩
  ·subst e'
   obtain ⟨its,r,pl,hz⟩:=I.list hx
   have cW:=r.length
   exact wpAny_truthy_list pl.isList (by simp only [fQ];omega) ⟨H,I.tok _,by rw [lj r];exact q⟩
  ·subst e'
   obtain ⟨its,r,pl,hz⟩:=I.tuple hx
   have cW:=r.length
   exact truthy_tuple pl (by simp only [fQ];omega) ⟨H,I.tok _,by rw [lj r];exact q⟩
  ·subst e'
   obtain ⟨hz,hS,vs,r,m⟩:a7.length<=sizeLine/\(p == sysModules)=false/\∃ vs,KV a7 vs/\s.heap.DictOf (ck X.prog X.w) p vs:=I.bW p _ hx
   have cW:a7.length=vs.length:=Paired.length r
   exact wpAny_truthy_dict hS m (by omega) ⟨H,I.tok _,by rw [uu r];exact q⟩
 | _=>exact (show False from e).elim
theorem B_ (ha:PE X a ta) (he:∀ gx,isTrue a X.env gx=(do let v <- gx;standAt a.pos;holding [v] (truthy v))) :
  PT X a (fun σ H Q=>ta σ H fun x H'=>∃ k,OF X.K x H' k/\Q k H'):=by
 intro aa s σ H Q I h
 exact isTrue_plain (bS (ha aa s σ H _ I h) fun v s1 ⟨x,H1,I1,r1,q1⟩=>OG aa s1 σ H1 x v Q I1 r1 q1) (he _)
theorem uv:fj X (binaryOp .Add) (fun x y H Q=>∃ i j,x=.str i/\y=.str j/\i.length+j.length<=sizeLine/\Q (.str (i++j)) H):=by
 intro aa s σ H x y v u Q I rx ry h
 obtain ⟨i,j,rfl,rfl,hz,q⟩:=h
 obtain ⟨t,rfl⟩:=rx
 obtain ⟨t',rfl⟩:=ry
 exact add_str (fun t' tk=>⟨.str (i++j),H,I.tok _,⟨_,rfl⟩,q⟩) hz
theorem vals1 {x:V}{us:List Value}(r:Vals [x] us):∃ u,us=[u]/\RelV x u:=by
 cases r with
 | cons r1 r2=>cases r2;exact ⟨_,rfl,r1⟩
theorem vals2 {x y:V}{us:List Value}(r:Vals [x,y] us):∃ u w',us=[u,w']/\RelV x u/\RelV y w':=by
 cases r with
 | cons r1 r2=>
  cases r2 with
  | cons r3 r4=>cases r4;exact ⟨_,_,rfl,r1,r3⟩
theorem Ca:fk X (.builtin "abs") (fun xs H Q=>∃ i,xs=[.int i]/\Q (.int (if i<0 then -i else i)) H):=by
 intro aa s σ H xs us Q I r h
 obtain ⟨i,rfl,q⟩:=h
 obtain ⟨u,rfl,t,rfl⟩:=vals1 r
 exact call_abs_int fun u tk=>⟨.int (if i<0 then -i else i),H,I.tok _,⟨_,rfl⟩,q⟩
theorem oW:fk X (.type "str") (fun xs H Q=>∃ i,xs=[.int i]/\i.natAbs.log2<1920/\Q (.str (toString i)) H):=by
 intro aa s σ H xs us Q I r h
 obtain ⟨i,rfl,hz,q⟩:=h
 obtain ⟨u,rfl,t,rfl⟩:=vals1 r
 exact PySem.P.str_of_int hz ⟨.str _,H,I.tok _,⟨_,rfl⟩,q⟩
def U9 (K:bC) (x:V) (H:Hp) (n:Nat):Prop:=
 match x with
 | .str y=>y.length<=sizeLine/\n=y.length
 | .byt y=>y.size<=sizeLine/\n=y.size
 | .ref p=>(∃ xs,du K H p xs/\n=xs.length)\/∃ xs,j_ K H p xs/\n=xs.length
 | _=>False
theorem qL:fk X (.builtin "len") (fun xs H Q=>∃ x n,xs=[x]/\U9 X.K x H n/\Q (.int n) H):=by
 intro aa s σ H xs us Q I r h
 obtain ⟨x,n,rfl,e,q⟩:=h
 obtain ⟨u,rfl,rx⟩:=vals1 r
 have hl:=jO
 have hs:sizeLine=16777216:=sizeLine_eq
 cases x with
 | str y=>
  obtain ⟨t,rfl⟩:=rx
  obtain ⟨hy,e'⟩:y.length<=sizeLine/\n=y.length:=e
  subst e'
  exact len_str (by omega) ⟨.int _,H,I.tok _,⟨_,rfl⟩,q⟩
 | byt y=>
  obtain ⟨t,rfl⟩:=rx
  obtain ⟨hy,e'⟩:y.size<=sizeLine/\n=y.size:=e
  subst e'
  exact PySem.W.len_bytes (by omega) ⟨.int _,H,I.tok _,⟨_,rfl⟩,q⟩
 | ref p=>
  cases rx
  have e':(∃ xs,du X.K H p xs/\n=xs.length)\/∃ xs,j_ X.K H p xs/\n=xs.length:=e
  rcases e' with ⟨xs,hx,e'⟩ | ⟨xs,hx,e'⟩
  ·subst e'
   obtain ⟨its,r',pl,hz⟩:=I.list hx
   have cW:=r'.length
   exact Calls.call_len_list pl.isList (by simp only [fQ];omega) ⟨.int xs.length,H,I.tok _,⟨_,by simp only [fQ];rw [cW]⟩,q⟩
  ·subst e'
   obtain ⟨its,r',pl,hz⟩:=I.tuple hx
   have cW:=r'.length
   exact len_tuple pl (by simp only [fQ];omega) ⟨.int xs.length,H,I.tok _,⟨_,by simp only [fQ];rw [cW]⟩,q⟩
 | _=>exact (show False from e).elim
end
structure uw (h:Heap) (x dx C:Addr) (mA:Str->Option Value):Prop where
 obj:h.get? x=some (qz C dx)
 ns:h.Ns1 dx mA
 ne:dx≠x
theorem yQ {h:Heap}{dx:Addr}{mA:Str->Option Value}(n:h.Ns1 dx mA):∃ od,h.get? dx=some od/\∀ name,Gk name od=some (mA name):=by
 obtain ⟨o,es,ep,ho,hd,hk,_,hm⟩:=n
 refine ⟨o,ho,fun name=>?_⟩
 have e:=hm name
 unfold nsFind findBy at e
 rw [<- Array.find?_toList] at e
 unfold Gk
 rw [hd]
 dsimp only
 split
 ·rename_i y q
  rw [q] at e
  exact congrArg some e
 ·rename_i q
  rw [q] at e
  have a:es.toList.any (·.refKey)=false:=by
   rw [List.any_eq_false]
   intro y hy
   obtain ⟨z,t,abT⟩:=hk y (Array.mem_toList_iff.mp hy)
   simp [DictEntry.refKey,abT]
  have a':¬ es.toList.any (·.refKey)=true:=by rw [a];exact eK
  rw [if_neg a']
  exact congrArg some e
theorem uw.look {h:Heap}{x dx C:Addr}{mA:Str->Option Value}(I:uw h x dx C mA):∃ od,PySem.W.InstAt h x (qz C dx) C (some od)/\∀ name,Gk name od=some (mA name):=
 let ⟨od,ho,hl⟩:=yQ I.ns
 ⟨od,⟨I.obj,rfl,rfl,ho⟩,hl⟩
section
variable {prog:Program}{K:bC}{mA:Str->Option Value}{name:Str}{v:Value}
theorem get_map {expr:Bool}{Q:Value->Shared->Prop}(X:K.In s.heap) (I:uw s.heap x dx C mA) (hg:A1 K C name=true) (hh:Gn K C=true)
  (ha:fH K (.ref C) name=some none) (hv:mA name=some v) (hv':Lf v=true) (h:Q v { s with toks:=s.toks+1 }) :
  wpAny (model prog w) A (getAttr (.ref x) name expr) Q E s:=by
 obtain ⟨od,J,hl⟩:=I.look
 exact PySem.W.get_value X J (A5 hg).1 (PySem.W.findObj_own hh ha rfl (by rw [hl,hv])) hv' h
theorem Cb {pl:Sem Bool}{Q:Value × List Value->Shared->Prop}(X:K.In s.heap) (I:uw s.heap x dx C mA) (hg:A1 K C name=true)
  (hf:fH K (.ref C) name=some (some (.ref f))) (ht:A2 K (.ref f)=true) (hv:mA name=none) (h:Q (.ref f,[.ref x]) s) :
  wpAny (model prog w) A (getMethod (.ref x) name pl) Q E s:=by
 obtain ⟨od,J,hl⟩:=I.look
 exact PySem.W.method_fn X J (A5 hg).1 (A5 hg).2 hf (beq_iff_eq.mp ht) (by show (Gk name od).map (·.isSome)=some false;rw [hl,hv];rfl) h
theorem GU {ns:List Str}{Q:Unit->Shared->Prop}(X:K.In s.heap) (I:uw s.heap x dx C mA)
  (hs:fH K (.ref C) "__setattr__" = some (some (.builtin "object.__setattr__"))) (hp:A6 K C=true) (ht:A7 K C name=some none) (hh:Gn K C=true)
  (hw:PySem.Within mA ns) (hsz:ns.length<=sizeLine)
  (h:∀ h',uw h' x dx C (fun y=>if y=name then some v else mA y)->Heap.SameBut dx s.heap h'->Q () { s with heap:=h',toks:=s.toks+2 }) :
  wpAny (model prog w) A (setAttr (.ref x) name v) Q E s:=by
 obtain ⟨od,J,hl⟩:=I.look
 refine PySem.W.set_plain X J hs (PySem.W.osa_open (s:={ s with toks:=s.toks+1 }) (r:=none) X J hp ht fun b=>?_)
 obtain ⟨cd,hc,hd'⟩:=PySem.W.any_some hh
 have hx:s.heap.get? x=some ⟨.ref C,some dx,.plain,#[]⟩:=I.obj
 refine wpAny_bind (wpAny_pure (wpAny_bind (wpAny_bind (wpAny_loadPart hx (wpAny_bind (PySem.W.Looks.here (s:={ s with toks:=s.toks+1 }) (PySem.W.looks_clsIn X hc) ?_))))))
 rw [hd']
 refine wpAny_pure (a:=some dx) (wpAny_bind (wpAny_pure (wpAny_bind ?_)))
 refine wpAny_nsSet1 (s:={ s with toks:=s.toks+1 }) I.ns fun h' hn2 AV=>?_
 obtain ⟨oD,esD,epD,hoD,hdD,hcD⟩:=hn2.count (PySem.Within.cons name v hw)
 refine wpAny_bind (wpAny_lookBehind hoD (by rw [hdD];exact pastItsLine_dict (gO hcD (by rw [cQ];omega))) ?_)
 exact wpAny_pure (h _ ⟨(AV.2 _ (Ne.symm I.ne)).trans I.obj,hn2,I.ne⟩ AV)
theorem Cc {R:Result->Shared->Prop}{vs:List Value}{kw:List (Str × Value)}(X:K.In s.heap) (hm:A3 K C=true)
  (hi:fH K (.ref C) "__init__" = some (some (.ref f))) (hf:PySem.W.typeIn K (.ref f)=some (.type "function"))
  (h:codeAny (model prog w) (A.under (.builtin "type.__call__" ⟨.ref C::vs,kw⟩)) (.call (.ref f) ⟨.ref (s.heap.objs.size+1)::vs,kw⟩) (PySem.W.InitBack (s.heap.objs.size+1) R)
   { s with heap:=(s.heap.push oz).push (qz C s.heap.objs.size) }) :
  codeAny (model prog w) A (.call (.ref C) ⟨vs,kw⟩) R s:=by
 obtain ⟨hh,g,d,t,os⟩:=s
 exact PySem.W.make_core (PySem.W.makes_of X hm) (PySem.W.looks_findIn X hi) (fun self=>PySem.W.bind_fn X self hf) (.inl rfl) h
end
def dW (f:Str) (v:V):List (Str × V)->List (Str × V)
 | []=>[(f,v)]
 | (g,x)::r=>if g=f then (g,v)::r else (g,x)::dW f v r
theorem kc (f g:Str) (v:V):∀ fs:List (Str × V),(dW f v fs).lookup g=if g=f then some v else fs.lookup g
 | []=>by
  show kr g [(f,v)]=_
  by_cases h:g=f
  ·have hb:(g == f)=true:=beq_iff_eq.mpr h
   simp only [kr,hb,if_pos h]
  ·have hb:(g == f)=false:=beq_eq_false_iff_ne.mpr h
   simp only [kr,hb,if_neg h]
 | (k,x)::r=>by
  have ih:=kc f g v r
  rw [show dW f v ((k,x)::r)=(if k=f then (k,v)::r else (k,x)::dW f v r) from rfl]
  by_cases hk:k=f
  ·rw [if_pos hk]
   by_cases h:g=k
   ·have hb:(g == k)=true:=beq_iff_eq.mpr h
    simp only [kr,hb,if_pos (h.trans hk)]
   ·have hb:(g == k)=false:=beq_eq_false_iff_ne.mpr h
    simp only [kr,hb,if_neg (fun e:g=f=>h (e.trans hk.symm))]
  ·rw [if_neg hk]
   by_cases h:g=k
   ·have hb:(g == k)=true:=beq_iff_eq.mpr h
    simp only [kr,hb,if_neg (fun e:g=f=>hk (h.symm.trans e))]
   ·have hb:(g == k)=false:=beq_eq_false_iff_ne.mpr h
    simp only [kr,hb]
    exact ih
theorem jP (f:Str) (v:V):∀ fs:List (Str × V),f∈(dW f v fs).map (·.1)/\∀ g,g∈fs.map (·.1)->g∈(dW f v fs).map (·.1)
 | []=>⟨by simp [dW],fun g h=>by simp at h⟩
 | (k,x)::r=>by
  obtain ⟨i1,i2⟩:=jP f v r
  rw [show dW f v ((k,x)::r)=(if k=f then (k,v)::r else (k,x)::dW f v r) from rfl]
  by_cases hk:k=f
  ·rw [if_pos hk]
   subst hk
   exact ⟨by simp,fun g h=>by simpa using h⟩
  ·rw [if_neg hk]
   refine ⟨?_,fun g h=>?_⟩
   ·rw [fR]
    exact eZ _ i1
   ·rw [fR] at h ⊢
    rcases cA.mp h with e | e
    ·exact cA.mpr (.inl e)
    ·exact eZ _ (i2 g e)
theorem kg (f:Str) (v:V):∀ fs:List (Str × V),(dW f v fs).length<=fs.length+1
 | []=>by simp [dW]
 | (k,x)::r=>by
  have ih:=kg f v r
  rw [show dW f v ((k,x)::r)=(if k=f then (k,v)::r else (k,x)::dW f v r) from rfl]
  by_cases hk:k=f
  ·rw [if_pos hk,cQ,cQ];omega
  ·rw [if_neg hk,cQ,cQ];omega
theorem i_.some_of {v:V}{o:Option Value}(r:i_ (some v) o):∃ u,o=some u/\RelV v u:=by
 cases o with
 | none=>exact (show False from r).elim
 | some u=>exact ⟨u,rfl,r⟩
theorem i_.none_of {o:Option Value}(r:i_ none o):o=none:=by
 cases o with
 | none=>rfl
 | some u=>exact (show False from r).elim
theorem yR {v:V}{u:Value}(r:RelV v u):Lf u=true:=by
 cases v with
 | non=>cases (show u=Value.none from r);rfl
 | bl b=>cases (show u=Value.bool b from r);rfl
 | int i=>obtain ⟨t,e⟩:=(show ∃ t,u=Value.int i t from r);cases e;rfl
 | str x=>obtain ⟨t,e⟩:=(show ∃ t,u=Value.str x t from r);cases e;rfl
 | byt b=>obtain ⟨t,e⟩:=(show ∃ t,u=Value.bytes b t from r);cases e;rfl
 | flt b=>obtain ⟨t,e⟩:=(show ∃ t,u=Value.float b t from r);cases e;rfl
 | ref a=>cases (show u=Value.ref a from r);rfl
 | ty n=>cases (show u=Value.type n from r);rfl
section
variable {fs uh:List (Str × V)}
theorem je (bW:iZ P w H h) (e:H a=some (.ins C dx fs)):∃ mA,uw h a dx C mA/\(∀ f,i_ (fs.lookup f) (mA f))/\PySem.Within mA (fs.map (·.1))/\fs.length<=1000/\H dx=some (.own a):=by
 obtain ⟨d,z,ne,ob,mA,n,r,q⟩:=(show bY P w H h a (.ins C dx fs) from bW a _ e)
 exact ⟨mA,⟨ob,n,ne⟩,r,q,z,d⟩
end
structure oX (K:bC) (C:Addr):Prop where
 pg:A1 K C Str.empty=true
 hd:Gn K C=true
 po:A6 K C=true
 sa:fH K (.ref C) "__setattr__" = some (some (.builtin "object.__setattr__"))
theorem oX.get {K:bC}{C:Addr}(c:oX K C) (f:Str):A1 K C f=true:=c.pg
def eQ (K:bC) (C:Addr) (f:Str):Prop:=fH K (.ref C) f=some none
theorem eQ.U_ {K:bC}{C:Addr}{f:Str}(n:eQ K C f):A7 K C f=some none:=by
 unfold A7
 rw [show fH K (.ref C) f=some none from n]
 rfl
structure Meth (K:bC) (C:Addr) (m:Str) (f:Addr):Prop where
 at_:fH K (.ref C) m=some (some (.ref f))
 fn:A2 K (.ref f)=true
 kp:mH K (.ref f)=true
section
variable {X:Cx}{σ:St}{fs:List (Str × V)}{f:Str}{v:V}
theorem ux {b:Bool}{Q:Value->Shared->Prop}(I:Inv X aa σ H s) (e:H a=some (.ins C dx fs)) (c:oX X.K C) (n:eQ X.K C f) (l:fs.lookup f=some v)
  (h:∀ u s',Inv X aa σ H s'->RelV v u->Q u s'):wpAny (model X.prog X.w) A (getAttr (.ref a) f b) Q E s:=by
 obtain ⟨mA,O,r,_,_,_⟩:=je I.bW e
 obtain ⟨u,hu,ru⟩:=i_.some_of (v:=v) (o:=mA f) (by rw [<- l];exact r f)
 exact get_map I.ja O (c.get f) c.hd n hu (yR ru) (h u _ (I.tok _) ru)
theorem lq {m:Str}{g:Addr}{pl:Sem Bool}{Q:Value × List Value->Shared->Prop}(I:Inv X aa σ H s) (e:H a=some (.ins C dx fs)) (c:oX X.K C) (k:Meth X.K C m g) (l:fs.lookup m=none)
  (h:Q (.ref g,[.ref a]) s):wpAny (model X.prog X.w) A (getMethod (.ref a) m pl) Q E s:=by
 obtain ⟨mA,O,r,_,_,_⟩:=je I.bW e
 have hn:mA m=none:=i_.none_of (by rw [<- l];exact r m)
 exact Cb I.ja O (c.get m) k.at_ k.fn hn h
theorem uy {y:V}{u:Value}{Q:Unit->Shared->Prop}(I:Inv X aa σ H s) (e:H a=some (.ins C dx fs)) (c:oX X.K C) (n:eQ X.K C f) (hl:fs.length<1000) (ry:RelV y u)
  (h:∀ s',Inv X aa σ (upd H a (.ins C dx (dW f y fs))) s'->Q () s'):wpAny (model X.prog X.w) A (setAttr (.ref a) f u) Q E s:=by
 obtain ⟨mA,O,r,wi,_,ho⟩:=je I.bW e
 have hz:(fs.map (·.1)).length<=sizeLine:=by rw [cT,sizeLine_eq];omega
 refine GU I.ja O c.sa c.po n.U_ c.hd wi hz fun h' O' sb=>h _ ?_
 have hd:∃ o,h'.get? dx=some o:=let ⟨o,_,_,e',_⟩:=O'.ns;⟨o,e'⟩
 refine I.write (x:=a) (e:=dx) (by rw [e];exact True.intro) (.inr ho) (fun b q hb z=>(sb.2 b hb).trans z) hd ?_
 refine ⟨by rw [au O.ne];exact ho,?_,O.ne,O'.obj,_,O'.ns,fun g=>?_,fun g hg=>?_⟩
 ·have:=kg f y fs;omega
 ·show i_ ((dW f y fs).lookup g) (if g=f then some u else mA g)
  rw [kc]
  by_cases q:g=f
  ·rw [if_pos q,if_pos q];exact ry
  ·rw [if_neg q,if_neg q];exact r g
 ·by_cases q:g=f
  ·rw [q];exact (jP f y fs).1
  ·refine (jP f y fs).2 g (wi g fun z=>hg ?_)
   show (if g=f then some u else mA g)=none
   rw [if_neg q];exact z
theorem Inv.made (I:Inv X aa σ H s):Inv X aa σ (upd (upd H s.heap.objs.size (.own (s.heap.objs.size+1))) (s.heap.objs.size+1) (.ins C s.heap.objs.size []))
  { s with heap:=(s.heap.push oz).push (qz C s.heap.objs.size) }:=by
 have e1:(s.heap.push oz).get? s.heap.objs.size=some oz:=Heap.get?_push_size s.heap rfl
 have e2:((s.heap.push oz).push (qz C s.heap.objs.size)).get? (s.heap.objs.size+1)=some (qz C s.heap.objs.size):=by
  have:=Heap.get?_push_size (s.heap.push oz) (o:=qz C s.heap.objs.size) rfl
  rwa [Heap.size_push] at this
 have e3:(s.heap.push oz).Ns s.heap.objs.size (fun _=>none):=⟨oz,#[],_,e1,rfl,(fun e he=>absurd he (by simp)),fun _=>rfl⟩
 have I1:=I.laid (a:=s.heap.objs.size) (o:=.own (s.heap.objs.size+1)) (h':=s.heap.push oz) (t':=s.toks) (fun b u q=>Heap.get?_push_of_some _ q) (dS _) ⟨_,e1⟩
 refine I1.laid (a:=s.heap.objs.size+1) (o:=.ins C s.heap.objs.size []) (t':=s.toks) (fun b u q=>Heap.get?_push_of_some _ q) (GF (Heap.size_push _ _)) ?_
 have ne:s.heap.objs.size≠s.heap.objs.size+1:=dU (yI _)
 refine ⟨by rw [au ne,aq],gD _,ne,e2,fun _=>none,(Heap.Ns1.of_empty e3).at fun o q=>Heap.get?_push_of_some _ q,fun _=>True.intro,fun y hy=>absurd rfl hy⟩
theorem GV {prog:Program}{w:World}{env:Env}{e:Expr}{f:Str}{pos:Pos}{s:Shared}{Q:Value->Shared->Prop}(hb:attributeBase e f env (eval e env)=eval e env)
  (h:wpAny (model prog w) A (eval e env) (fun o s₁=>wpAny (model prog w) A (getAttr o f true) Q E s₁) E s):wpAny (model prog w) A (eval (.Attribute e f pos) env) Q E s:=
 Attribute_any_ h (by rw [arm_eval_Attribute,hb])
end
def abU (K:bC) (ta:TE) (f:Str):TE:=fun σ H Q=>ta σ H fun x H1=>∃ a C dx fs v,x=.ref a/\H1 a=some (.ins C dx fs)/\oX K C/\eQ K C f/\fs.lookup f=some v/\Q v H1
def Va (K:bC) (ta tv:TE) (f:Str):TS:=fun D σ H=>tv σ H fun y H1=>ta σ H1 fun x H2=>∃ a C dx fs,x=.ref a/\H2 a=some (.ins C dx fs)/\oX K C/\eQ K C f/\fs.length<1000 /\
 D.nx σ (upd H2 a (.ins C dx (dW f y fs)))
section
variable {X:Cx}{value:Expr}{f:Str}{bR lr:Pos}{ta tv:TE}
theorem Cd (he:PE X e ta) (hb:attributeBase e f X.env (eval e X.env)=eval e X.env):PE X (.Attribute e f pos) (abU X.K ta f):=by
 intro aa s σ H Q I h
 refine GV hb (bS (he aa s σ H _ I h) fun u s1 zz=>?_)
 obtain ⟨x,H1,I1,rx,a,C,dx,fs,v,ex,ea,c,n,l,q⟩:=zz
 subst ex
 obtain rfl:u=Value.ref a:=rx
 exact ux I1 ea c n l fun u' s2 I2 ru=>⟨v,H1,I2,ru,q⟩
theorem uz (ha:PE X o ta) (hv:PE X value tv) (hs:swapsWith value (some (.Attribute o f bR)) pos.line X.env=pure false):PS X (.Assign [.Attribute o f bR] value pos) (Va X.K ta tv f):=by
 intro aa s σ H D I h
 refine plainObj_wpAny_Assign_Attribute (bS (hv aa s σ H _ I h) fun u s1 ⟨y,H1,I1,ry,q⟩=>bS (ha aa s1 σ H1 _ I1 q) fun ov s2 ⟨x,H2,I2,rx,a,C,dx,fs,ex,ea,c,n,l,q2⟩=>?_) hs
 subst ex
 obtain rfl:ov=Value.ref a:=rx
 exact uy I2 ea c n l ry fun s3 I3=>⟨σ,_,I3,q2⟩
end
section
variable {X:Cx}{σ:St}{Q:Value->Shared->Prop}{c:Value}{b:Bool}
inductive iz (K:bC) (H:Hp):V->Value->Prop where
 | non:iz K H .non (.type "NoneType")
 | bl (x:Bool):iz K H (.bl x) (.type "bool")
 | int (i:Int):iz K H (.int i) (.type "int")
 | str (x:Str):iz K H (.str x) (.type "str")
 | flt (x:UInt64):iz K H (.flt x) (.type "float")
 | lst {a:Addr} {xs:List V} (e:H a=some (.lst xs)):iz K H (.ref a) (.type "list")
 | jM {a:Addr} {o:Obj} {xs:List V} (e:H a=some (.jM o (.lst xs))):iz K H (.ref a) (.type "list")
 | tup {a:Addr} {xs:List V} (e:j_ K H a xs):iz K H (.ref a) (.type "tuple")
 | dK {a:Addr} {a7:List (Key × V)} (e:H a=some (.dK a7)):iz K H (.ref a) (.type "dict")
 | dT {a:Addr} {a7:List (List Key × V)} (e:H a=some (.dT a7)):iz K H (.ref a) (.type "dict")
 | ins {a C dx:Addr} {fs:List (Str × V)} (e:H a=some (.ins C dx fs)) (cl:oX K C) (ha:fH K (.ref C) "__class__" = some (some (.builtin "object.__class__")))
   (hn:Gp K (.builtin "object.__class__") "__get__" = some (some (.builtin "getset_descriptor.__get__"))) (htk:Gq K (.builtin "object.__class__")=some true)
   (hm:Gs K C (.type "object")=some true):iz K H (.ref a) (.ref C)
theorem nu {x:V}{u t:Value}(I:Inv X aa σ H s) (rx:RelV x u) (ty:iz X.K H x t) (e:oB X.K t c=some b) (h:∀ tk,Q (.bool b) { s with toks:=tk }) :
  wpAny (model X.prog X.w) A (call (.builtin "isinstance") [u,c]) Q E s:=by
 cases ty with
 | non=>cases (show u=Value.none from rx);exact k9 PySem.W.kitx_none I.ja True.intro e (fun z=>nomatch z) h
 | bl y=>cases (show u=Value.bool y from rx);exact k9 PySem.W.kitx_bool I.ja True.intro e (fun z=>nomatch z) h
 | int i=>obtain ⟨t,q⟩:=(show ∃ t,u=Value.int i t from rx);cases q;exact k9 PySem.W.kitx_int I.ja True.intro e (fun z=>nomatch z) h
 | str y=>obtain ⟨t,q⟩:=(show ∃ t,u=Value.str y t from rx);cases q;exact k9 PySem.W.kitx_str I.ja True.intro e (fun z=>nomatch z) h
 | flt y=>obtain ⟨t,q⟩:=(show ∃ t,u=Value.float y t from rx);cases q;exact k9 PySem.W.kitx_float I.ja True.intro e (fun z=>nomatch z) h
 | @lst a xs ea=>
  cases (show u=Value.ref a from rx)
  obtain ⟨_,_,n,_,h1⟩:=(show bY X.prog X.w H s.heap a (.lst xs) from I.bW a _ ea)
  exact k9 Lg I.ja ⟨_,h1,rfl⟩ e (fun z=>nomatch z) h
 | @jM a ob xs ea=>
  cases (show u=Value.ref a from rx)
  obtain ⟨_,_,_,n,_,h1⟩:=(show bY X.prog X.w H s.heap a (.jM ob (.lst xs)) from I.bW a _ ea)
  exact k9 Lg I.ja ⟨_,h1,rfl⟩ e (fun z=>nomatch z) h
 | @tup a xs ea=>
  cases (show u=Value.ref a from rx)
  obtain ⟨_,_,p,_⟩:=I.tuple ea
  obtain ⟨o,h1,h2,_⟩:=p
  exact k9 PySem.W.kitx_tuple I.ja ⟨o,h1,h2⟩ e (fun z=>nomatch z) h
 | @dK a a7 ea=>
  cases (show u=Value.ref a from rx)
  obtain ⟨_,_,vs,_,p⟩:=(show bY X.prog X.w H s.heap a (.dK a7) from I.bW a _ ea)
  obtain ⟨o,es,ep,h1,h2,_⟩:=p
  exact k9 Lh I.ja ⟨o,h1,h2.1⟩ e (fun z=>nomatch z) h
 | @dT a a7 ea=>
  cases (show u=Value.ref a from rx)
  obtain ⟨_,_,xs,_,o,es,ep,h1,h2,_⟩:=(show bY X.prog X.w H s.heap a (.dT a7) from I.bW a _ ea)
  exact k9 Lh I.ja ⟨o,h1,h2.1⟩ e (fun z=>nomatch z) h
 | @ins a C dx fs ea cl ha hn htk hm=>
  cases (show u=Value.ref a from rx)
  obtain ⟨mA,O,_⟩:=je I.bW ea
  obtain ⟨od,J,_⟩:=O.look
  exact k9 (Li (cl.get _) cl.hd ha hn htk hm) I.ja J e (fun z=>nomatch z) h
end
structure bO (k:Nat) (A:Around):Prop where
 hd:A.handled=none
 dp:A.depth+3*k+5<recursionLimit
 un:A.units+16*k+200<cLine
theorem bO.mono {j k:Nat}{A:Around}(r:bO k A) (h:j<=k):bO j A:=⟨r.hd,by have:=r.dp;omega,by have:=r.un;omega⟩
theorem bO.deeper {k:Nat}{A:Around}(r:bO (k+1) A) (env:Env):bO k (A.deeper env):=
 ⟨r.hd,by have:=r.dp;show A.depth+1+3*k+5<_;omega,by have:=r.un;show A.units+3+16*k+200<_;omega⟩
theorem uA {A:Around}{C:Addr}{us:List Value}{kw:List (Str × Value)}:(A.under (.builtin "type.__call__" ⟨.ref C::us,kw⟩)).depth=A.depth+1:=by
 first | rfl | simp [Around.under,Code.weight,Code.isCreation,Code.isGuard,Code.isCaller,Code.frames,Code.isFrame,guardIds]
theorem uB {A:Around}{C:Addr}{us:List Value}{kw:List (Str × Value)}:(A.under (.builtin "type.__call__" ⟨.ref C::us,kw⟩)).units=A.units+1:=by
 first | rfl | simp [Around.under,Code.cUnits,Code.frames,Code.isFrame]
theorem bO.make {k:Nat}{A:Around}(r:bO (k+1) A) (C:Addr) (us:List Value) (kw:List (Str × Value)):bO k (A.under (.builtin "type.__call__" ⟨.ref C::us,kw⟩)):=
 ⟨r.hd,by have:=r.dp;rw [uA];omega,by have:=r.un;rw [uB];omega⟩
theorem bO.depth {k:Nat}{A:Around}(r:bO k A):A.depth<recursionLimit:=by have:=r.dp;omega
theorem bO.units {k:Nat}{A:Around}(r:bO k A):A.units+64<cLine:=by have:=r.un;omega
def Ce:TA:=fun _ H Q=>Q [] H
def Mc (ta:TE) (tr:TA):TA:=fun σ H Q=>ta σ H fun x H1=>tr σ H1 fun xs H2=>Q (x::xs) H2
section
variable {X:Cx}{te:TE}{t:TA}
theorem eu:PA X [] Ce:=fun _ _ _ _ H Q I h=>Calls.spliced_nil ⟨[],H,I,.nil,h⟩
theorem bZ (ha:PE X e te) (hr:PA X es t) (hs:starEach (e::es) X.env=(false,eval e X.env)::starEach es X.env:=by rfl):PA X (e::es) (Mc te t):=by
 intro pos aa s σ H Q I h
 rw [hs]
 show wpAny _ _ (spliced ((false,eval e X.env)::backTo pos (starEach es X.env))) _ _ s
 refine Calls.spliced_cons (bS (ha aa s σ H _ I h) fun u s1 zz=>?_)
 obtain ⟨x,H1,I1,r1,q1⟩:=zz
 exact bS (hr pos aa s1 σ H1 _ I1 q1) fun us s2 ⟨xs,H2,I2,r2,q2⟩=>⟨x::xs,H2,I2,.cons r1 r2,q2⟩
def abV (t:TA):TE:=fun σ H Q=>t σ H fun xs H1=>xs.length<=sizeLine/\∀ p,H1 p=none->Q (.ref p) (upd H1 p (.tup xs))
def abW (t:TA):TE:=fun σ H Q=>t σ H fun xs H1=>xs.length<=sizeLine/\∀ p,H1 p=none->Q (.ref p) (upd H1 p (.lst xs))
theorem Cf {x1}(h:PA X es t):PE X (.Tuple es x1 pos) (abV t):=by
 intro aa s σ H Q I hq
 refine wpAny_Tuple_spliced (bS (h pos aa s σ H _ I hq) fun us s1 ⟨xs,H1,I1,r,z,q⟩=>⟨by rw [<- r.length];exact z,?_⟩)
 have hf:H1 s1.heap.objs.size=none:=I1.bW.fresh (dS _)
 refine ⟨.ref s1.heap.objs.size,upd H1 s1.heap.objs.size (.tup xs),I1.laid (t':=s1.toks) (fun b u e=>Heap.get?_push_of_some _ e) (dS _) ?_,rfl,q _ hf⟩
 exact ⟨z,us,r,⟨_,Heap.get?_push_size _ rfl,rfl,_,rfl⟩⟩
theorem Cg (h:PA X es t):PE X (.List es pos) (abW t):=by
 intro aa s σ H Q I hq
 refine wpAny_List_spliced (bS (h pos aa s σ H _ I hq) fun us s1 ⟨xs,H1,I1,r,z,q⟩=>⟨by rw [<- r.length];exact z,?_⟩)
 have hf:H1 s1.heap.objs.size=none:=I1.bW.fresh (dS _)
 refine ⟨.ref s1.heap.objs.size,upd H1 s1.heap.objs.size (.lst xs),I1.laid (t':=s1.toks) (fun b u e=>Heap.get?_push_of_some _ e) (dS _) ?_,rfl,q _ hf⟩
 exact ⟨z,us,0,r,Heap.get?_push_size _ rfl⟩
end
abbrev Sp:=List V->Hp->VK->XK->Prop
abbrev Ci:=List Env->Hp->Shared->XK->Value->Shared->Prop
structure uC (P:Program) (w:World) (K:bC) (mg:Str->Option Value) (base:Heap) (A:Around) (outer:List Env) (s:Shared) (H:Hp):Prop where
 frames:A.frames=some outer
 mod:Mod K mg base
 bs:∀ b o,base.get? b=some o->s.heap.get? b=some o/\H b=none
 bsz:base.objs.size<=s.heap.objs.size
 kD:s.heap.FunFrames base outer
 frf:∀ b∈BY outer,H b=none
 bW:iZ P w H s.heap
 bare:AllBare s.gens
def CE (outer:List Env) (P:Program) (w:World) (H:Hp) (s:Shared) (Q:VK) (u:Value) (s':Shared):Prop:=
 ∃ v H',s'.os=s.os/\AllBare s'.gens/\Un (BY outer) [] H H' s.heap s'.heap/\iZ P w H' s'.heap/\RelV v u/\Q v H'
def CR (CX:Ci) (outer:List Env) (P:Program) (w:World) (H:Hp) (s:Shared) (Q:VK) (E:XK) (r:Result) (s':Shared):Prop:=
 match r with
 | .ok (.ret u)=>CE outer P w H s Q u s'
 | .ok _=>False
 | .error e=>CX outer H s E e s'
structure dc (P:Program) (w:World) (K:bC) (mg:Str->Option Value) (base:Heap) (CX:Ci) (k:Nat) (f:Addr) (fd:FuncData) (ps:List Str) (sp:Sp):Prop where
 len:∀ vs H Q E,sp vs H Q E->vs.length=ps.length
 run:∀ (A:Around) (outer:List Env) (s:Shared) (H:Hp) (args:Args) (us:List Value) (vs:List V) (Q:VK) (E:XK),bO k A->uC P w K mg base A outer s H->BindsTo s fd args (ps.zip us)->Vals vs us->sp vs H Q E ->
  codeAny (model P w) A (.call (.ref f) args) (CR CX outer P w H s Q E) s
theorem dc.imp {P:Program}{w:World}{K:bC}{mg:Str->Option Value}{base:Heap}{CX:Ci}{k:Nat}{f:Addr}{fd:FuncData}{ps:List Str}{sp sp':Sp}(F:dc P w K mg base CX k f fd ps sp)
  (h:∀ vs H Q E,sp' vs H Q E->sp vs H Q E):dc P w K mg base CX k f fd ps sp':=
 ⟨fun vs H Q E q=>F.len vs H Q E (h _ _ _ _ q),fun A outer s H args us vs Q E hr he hb hv hs=>F.run A outer s H args us vs Q E hr he hb hv (h _ _ _ _ hs)⟩
theorem uC.make {P:Program}{w:World}{K:bC}{mg:Str->Option Value}{base:Heap}{A:Around}{outer:List Env}{s:Shared}{H:Hp}(e:uC P w K mg base A outer s H) (C:Addr) (us:List Value) (kw:List (Str × Value)) :
  uC P w K mg base (A.under (.builtin "type.__call__" ⟨.ref C::us,kw⟩)) outer s H:=⟨by first | exact e.frames | (simpa [Around.under,Code.envs,Code.isFrame,pushEnvs] using e.frames),e.mod,e.bs,e.bsz,e.kD,e.frf,e.bW,e.bare⟩
section
variable {X:Cx}{σ:St}{s':Shared}
theorem Inv.Vb (I:Inv X aa σ H s):uC X.prog X.w X.K X.mg X.base X.A X.stack s H:=
 ⟨I.ok.frames,I.ok.mod,I.bs,gO I.ok.bsz I.sz,I.stack,I.wH,I.bW,I.bare⟩
theorem Inv.after {Q:VK}{u:Value}(I:Inv X aa σ H s) (h:CE X.stack X.prog X.w H s Q u s'):EP X aa σ Q u s':=by
 obtain ⟨v,H',os,bare,un,bW,r,q⟩:=h
 obtain ⟨hh,g,d,t,os'⟩:=s'
 obtain rfl:os'=s.os:=os
 exact ⟨v,H',I.call (h':=hh) (g':=g) (d':=d) (t':=t) (ch:=[]) un bW bare (fun b z=>absurd z (by simp)),r,q⟩
end
def Me (sp:Sp) (i6:List V) (E:XK) (t:TA):TE:=fun σ H Q=>t σ H fun vs H1=>sp (vs++i6) H1 Q E
def wM (C:Addr) (m:Str) (sp:Sp) (i6:List V) (E:XK) (ta:TE) (t:TA):TE:=fun σ H Q=>ta σ H fun x H1=>∃ a dx fs,x=.ref a/\H1 a=some (.ins C dx fs)/\fs.lookup m=none /\
 t σ H1 fun vs H2=>sp (x::(vs++i6)) H2 Q E
def Vc (C:Addr) (sp:Sp) (i6:List V) (E:XK) (t:TA):TE:=fun σ H Q=>t σ H fun vs H1=>∀ x dx,H1 x=none->H1 dx=none->dx≠x ->
 sp (.ref x::(vs++i6)) (upd (upd H1 dx (.own x)) x (.ins C dx [])) (fun v H2=>v=.non/\Q (.ref x) H2) E
def Binds (K:bC) (fd:FuncData) (ps:List Str) (ds:List Value):Prop:=
 ∀ (s:Shared) (us:List Value),K.In s.heap->(us++ds).length=ps.length->BindsTo s fd ⟨us,[]⟩ (ps.zip (us++ds))
theorem Binds.all {K:bC}{fd:FuncData}{ps:List Str}(h:∀ us:List Value,us.length=ps.length->bindArgs fd ⟨us,[]⟩=pure (ps.zip us)):Binds K fd ps []:=fun s us _ hl=>by
 rw [dH] at hl ⊢
 exact .of_eq (h us hl)
def Passes (CX:Ci) (X:Cx) (E:XK):Prop:=∀ (aa:c9) (σ:St) (H:Hp) (s:Shared) (e:Value) (s':Shared),Inv X aa σ H s->CX X.stack H s E e s'->X.xe e s'
section
variable {X:Cx}{CX:Ci}{k:Nat}{fd:FuncData}{ps:List Str}{sp:Sp}{i6:List V}{ds:List Value}{E:XK}{x m:Str}{cP:Pos}{ta:TE}{t:TA}
theorem oY {aa:c9}{σ:St}{H:Hp}{s:Shared}{Q:VK}{us:List Value}{vs:List V}(F:dc X.prog X.w X.K X.mg X.base CX k f fd ps sp) (hr:bO k X.A) (hb:Binds X.K fd ps ds) (hd:Vals i6 ds) (hx:Passes CX X E)
  (I:Inv X aa σ H s) (r:Vals vs us) (h:sp (vs++i6) H Q E):wpAny (model X.prog X.w) X.A (call (.ref f) us) (EP X aa σ Q) X.xe s:=by
 have r2:Vals (vs++i6) (us++ds):=r.append hd
 have hl:(us++ds).length=ps.length:=by rw [<- r2.length];exact F.len _ _ _ _ h
 refine wpAny_call (codeAny_mono (F.run X.A X.stack s H ⟨us,[]⟩ (us++ds) (vs++i6) Q E hr I.Vb (hb s us I.ja hl) r2 h) fun r s' hq=>?_)
 cases r with
 | error e=>exact hx aa σ H s e s' I hq
 | ok fl=>
  cases fl with
  | ret u=>exact I.after hq
  | next=>exact False.elim hq
  | brk=>exact False.elim hq
  | cont=>exact False.elim hq
theorem oZ (F:dc X.prog X.w X.K X.mg X.base CX k f fd ps sp) (hr:bO k X.A) (hg:Gl X x) (hm:X.mg x=some (.ref f)) (hk:mH X.K (.ref f)=true) (hb:Binds X.K fd ps ds) (hd:Vals i6 ds) (hx:Passes CX X E)
  (ha:PA X (e::es) t) (jQ:bQ x:=by decide) (he:starEach (e::es) X.env=(false,eval e X.env)::starEach es X.env:=by rfl) (hpl:(backTo pos (starEach es X.env)).any (·.1)=false:=by rfl) :
  PE X (.Call (.Name x p) (e::es) [] pos) (Me sp i6 E t):=by
 intro aa s σ H Q I h
 refine wpAny_Call_Name_kw (jc I hg hm ?_ jQ)
 refine A8 (h₀:=X.base) I.ok.mod.kin hk (bS (ha pos aa s σ H _ I h) fun us s1 ⟨vs,H1,I1,r,q⟩=>⟨I1.ja,?_⟩) he hpl
 exact oY F hr hb hd hx I1 r q
theorem Cj (F:dc X.prog X.w X.K X.mg X.base CX k f fd ps sp) (hr:bO k X.A) (hg:Gl X x) (hm:X.mg x=some (.ref f)) (hk:mH X.K (.ref f)=true) (hb:Binds X.K fd ps ds) (hd:Vals i6 ds) (hx:Passes CX X E)
  (jQ:bQ x:=by decide):PE X (.Call (.Name x p) [] [] pos) (Me sp i6 E Ce):=by
 intro aa s σ H Q I h
 refine wpAny_Call_Name_kw (jc I hg hm ?_ jQ)
 exact A9 I.ja hk (oY (us:=[]) F hr hb hd hx I .nil h)
theorem GW {pl:Sem Bool}(he:PE X o ta) (c:oX X.K C) (hm:Meth X.K C m f) (F:dc X.prog X.w X.K X.mg X.base CX k f fd ps sp) (hr:bO k X.A) (hb:Binds X.K fd ps ds) (hd:Vals i6 ds) (hx:Passes CX X E) (ha:PA X (e::es) t)
  (hst:starEach (e::es) X.env=(false,eval e X.env)::starEach es X.env:=by rfl) (hpl:(backTo pos (starEach es X.env)).any (·.1)=false:=by rfl)
  (ht:eval (.Call (.Attribute o m cP) (e::es) [] pos) X.env=(do
   let ov <- eval o X.env
   standAt cP.atName
   let (f,first) <- holding [ov] (getMethod ov m pl)
   callWith pos f first (backTo pos (starEach (e::es) X.env)) (backToKw pos (keywordEach [] X.env))):=by rfl) :
  PE X (.Call (.Attribute o m cP) (e::es) [] pos) (wM C m sp i6 E ta t):=by
 intro aa s σ H Q I h
 refine Lj (pl:=pl) (bS (he aa s σ H _ I h) fun u s1 ⟨x,H1,I1,rx,a,dx,fs,ex,ea,l,q⟩=>?_) ht
 subst ex
 obtain rfl:u=Value.ref a:=rx
 refine lq I1 ea c hm l ?_
 refine A8 (first:=[.ref a]) (h₀:=X.base) I.ok.mod.kin hm.kp (bS (ha pos aa s1 σ H1 _ I1 q) fun us s2 ⟨vs,H2,I2,r,q2⟩=>⟨I2.ja,?_⟩) hst hpl
 exact oY (us:=.ref a::us) (vs:=.ref a::vs) F hr hb hd hx I2 (.cons rfl r) q2
theorem Cm {pl:Sem Bool}(he:PE X o ta) (c:oX X.K C) (hm:Meth X.K C m f) (F:dc X.prog X.w X.K X.mg X.base CX k f fd ps sp) (hr:bO k X.A) (hb:Binds X.K fd ps ds) (hd:Vals i6 ds) (hx:Passes CX X E)
  (ht:eval (.Call (.Attribute o m cP) [] [] pos) X.env=(do
   let ov <- eval o X.env
   standAt cP.atName
   let (f,first) <- holding [ov] (getMethod ov m pl)
   callWith pos f first (backTo pos (starEach [] X.env)) (backToKw pos (keywordEach [] X.env))):=by rfl) :
  PE X (.Call (.Attribute o m cP) [] [] pos) (wM C m sp i6 E ta Ce):=by
 intro aa s σ H Q I h
 refine Lj (pl:=pl) (bS (he aa s σ H _ I h) fun u s1 ⟨x,H1,I1,rx,a,dx,fs,ex,ea,l,q⟩=>?_) ht
 subst ex
 obtain rfl:u=Value.ref a:=rx
 refine lq I1 ea c hm l ?_
 exact A9 (first:=[.ref a]) I1.ja hm.kp (oY (us:=[.ref a]) (vs:=[.ref a]) F hr hb hd hx I1 (.cons rfl .nil) q)
structure Mk (K:bC) (C f:Addr):Prop where
 makes:A3 K C=true
 init:fH K (.ref C) "__init__" = some (some (.ref f))
 fn:A2 K (.ref f)=true
 kp:mH K (.ref C)=true
theorem Cn {aa:c9}{σ:St}{H:Hp}{s:Shared}{Q:VK}{us:List Value}{vs:List V}(M:Mk X.K C f) (F:dc X.prog X.w X.K X.mg X.base CX k f fd ps sp) (hr:bO (k+1) X.A) (hb:Binds X.K fd ps ds) (hd:Vals i6 ds)
  (hx:Passes CX X E) (I:Inv X aa σ H s) (r:Vals vs us)
  (h:∀ x dx,H x=none->H dx=none->dx≠x->sp (.ref x::(vs++i6)) (upd (upd H dx (.own x)) x (.ins C dx [])) (fun v H2=>v=.non/\Q (.ref x) H2) E) :
  wpAny (model X.prog X.w) X.A (call (.ref C) us) (EP X aa σ Q) X.xe s:=by
 have hq:=h (s.heap.objs.size+1) s.heap.objs.size (I.bW.fresh (Nat.le_succ _)) (I.bW.fresh (dS _)) (dU (yI _))
 have I2:=Inv.made (C:=C) I
 have r2:Vals (V.ref (s.heap.objs.size+1)::(vs++i6)) (Value.ref (s.heap.objs.size+1)::(us++ds)):=.cons rfl (r.append hd)
 have hl:(Value.ref (s.heap.objs.size+1)::us++ds).length=ps.length:=by
  have e:=r2.length
  rw [F.len _ _ _ _ hq] at e
  exact e.symm
 refine wpAny_call (Cc (f:=f) I.ja M.makes M.init (beq_iff_eq.mp M.fn) (codeAny_mono (F.run _ X.stack _ _ ⟨Value.ref (s.heap.objs.size+1)::us,[]⟩ (Value.ref (s.heap.objs.size+1)::(us++ds)) _ _ E (hr.make C us [])
  (I2.Vb.make C us []) (hb _ (Value.ref (s.heap.objs.size+1)::us) I2.ja hl) r2 hq) fun r s' Vd=>?_))
 cases r with
 | error e=>exact hx aa σ _ _ e s' I2 Vd
 | ok fl=>
  cases fl with
  | ret u=>
   obtain ⟨v,H',I3,rv,ev,q3⟩:=I2.after Vd
   subst ev
   exact ⟨rv,⟨V.ref (s.heap.objs.size+1),H',I3,rfl,q3⟩⟩
  | next=>exact False.elim Vd
  | brk=>exact False.elim Vd
  | cont=>exact False.elim Vd
theorem o8 (M:Mk X.K C f) (F:dc X.prog X.w X.K X.mg X.base CX k f fd ps sp) (hr:bO (k+1) X.A) (hg:Gl X x) (hm:X.mg x=some (.ref C)) (hb:Binds X.K fd ps ds) (hd:Vals i6 ds) (hx:Passes CX X E)
  (ha:PA X (e::es) t) (jQ:bQ x:=by decide) (he:starEach (e::es) X.env=(false,eval e X.env)::starEach es X.env:=by rfl) (hpl:(backTo pos (starEach es X.env)).any (·.1)=false:=by rfl) :
  PE X (.Call (.Name x p) (e::es) [] pos) (Vc C sp i6 E t):=by
 intro aa s σ H Q I h
 refine wpAny_Call_Name_kw (jc I hg hm ?_ jQ)
 refine A8 (h₀:=X.base) I.ok.mod.kin M.kp (bS (ha pos aa s σ H _ I h) fun us s1 ⟨vs,H1,I1,r,q⟩=>⟨I1.ja,?_⟩) he hpl
 exact Cn M F hr hb hd hx I1 r q
end
section
variable {X:Cx}{CX:Ci}{k:Nat}{fd:FuncData}{ps ks:List Str}{sp:Sp}{E:XK}{x m:Str}{cP aef:Pos}{kws:List Keyword}{te ta:TE}{t tk:TA}{nm:Option Str}
variable {g:List Value->List Value->List Value}{gV:List V->List V->List V}
end
structure gh (N P:List Str) (sc:Scope):Prop where
 kind:sc.kind=.function
 co:sc.isCoroutine=false
 gen:sc.isGenerator=false
 nd:N.Nodup
 pre:N.take P.length=P
 par:∀ x∈P,sc.names.lookup x=some .local\/sc.names.lookup x=some .cell
 nofree:∀ y∈sc.names,y.2≠.free
theorem ny {kindOf:Str->Option NameKind}{x:Str}:∀ {binds:List (Str × Value)}{m:Str->Option Value},(∀ v,(x,v) ∉ binds)->bindL kindOf binds m x=m x
 | [],_,_=>rfl
 | (n,v)::r,m,h=>by
  unfold bindL
  rw [ny fun w hw=>h w (eZ _ hw)]
  split
  ·have:x≠n:=by rintro rfl;exact h v eE
   simp [this]
  ·rfl
theorem nz {kindOf:Str->Option NameKind}{x:Str}:∀ {binds:List (Str × Value)}{m:Str->Option Value},(∀ v,(x,v) ∉ binds)->bindC kindOf binds m x=m x
 | [],_,_=>rfl
 | (n,v)::r,m,h=>by
  unfold bindC
  rw [nz fun w hw=>h w (eZ _ hw)]
  split
  ·rfl
  ·have:x≠n:=by rintro rfl;exact h v eE
   simp [this]
theorem nA {kindOf:Str->Option NameKind}{x:Str}{v:Value}:∀ {P:List Str}{vs:List Value}{i:Nat}{m:Str->Option Value},P.Nodup->P[i]?=some x->vs[i]?=some v->kindOf x=some .local ->
  bindL kindOf (P.zip vs) m x=some v
 | [],_,_,_,_,h,_,_=>by simp at h
 | _::_,[],_,_,_,_,h,_=>by simp at h
 | p::P,w::vs,0,m,nd,h1,h2,hk=>by
  simp at h1 h2;subst h1;subst h2
  show bindL kindOf ((p,w)::P.zip vs) m p=_
  unfold bindL
  rw [ny fun v hv=>(ku.mp nd).1 (Bk hv).1,if_pos hk]
  simp
 | p::P,w::vs,i+1,m,nd,h1,h2,hk=>by
  show bindL kindOf ((p,w)::P.zip vs) m x=_
  unfold bindL
  exact nA (i:=i) (ku.mp nd).2 (by simpa using h1) (by simpa using h2) hk
theorem nB {kindOf:Str->Option NameKind}{x:Str}{v:Value}:∀ {P:List Str}{vs:List Value}{i:Nat}{m:Str->Option Value},P.Nodup->P[i]?=some x->vs[i]?=some v->kindOf x≠some .local ->
  bindC kindOf (P.zip vs) m x=some v
 | [],_,_,_,_,h,_,_=>by simp at h
 | _::_,[],_,_,_,_,h,_=>by simp at h
 | p::P,w::vs,0,m,nd,h1,h2,hk=>by
  simp at h1 h2;subst h1;subst h2
  show bindC kindOf ((p,w)::P.zip vs) m p=_
  unfold bindC
  rw [nz fun v hv=>(ku.mp nd).1 (Bk hv).1,if_neg hk]
  simp
 | p::P,w::vs,i+1,m,nd,h1,h2,hk=>by
  show bindC kindOf ((p,w)::P.zip vs) m x=_
  unfold bindC
  exact nB (i:=i) (ku.mp nd).2 (by simpa using h1) (by simpa using h2) hk
def start (N:List Str) (vs:List V):St:=vs.map some++ed (N.length-vs.length) none
def mO (CX:Ci) (P:Program) (w:World) (K:bC) (mg:Str->Option Value) (base:Heap) (N:List Str) (qual:Str) (scope:Scope) (f:Addr) (cd:Value) (A:Around) (outer:List Env) (s:Shared) (H:Hp) (E:XK):Cx where
 prog:=P
 w:=w
 K:=K
 mg:=mg
 base:=base
 A:=A.deeper (envOfC qual scope s.heap.objs.size f cd)
 N:=N
 s₀:=s
 H₀:=H
 env:=envOfC qual scope s.heap.objs.size f cd
 outer:=outer
 stack:=envOfC qual scope s.heap.objs.size f cd::outer
 ex:=[]
 calm:=true
 fn:=fun _=>true
 pn:=[]
 xe:=fun e s'=>wpAny (model P w) (A.deeper (envOfC qual scope s.heap.objs.size f cd)) (leaving (envOfC qual scope s.heap.objs.size f cd) e) (fun _ Ve=>CX outer H s E e Ve) (fun e' Ve=>CX outer H s E e' Ve) s'
theorem qM {sc:Scope}{n:Nat}{x:Str}(h:sc.names.lookup x=some .cell):∃ c,(cellsFrom n sc.names []).lookup x=some c:=by
 have q:=Ll sc.names n [] (.inl h)
 exact BQ.mp q
theorem yS {CX:Ci}{P:Program}{w:World}{K:bC}{mg:Str->Option Value}{base:Heap}{N ps:List Str}{qual:Str}{scope:Scope}{f:Addr}{cd:Value}{A:Around}{outer:List Env}{s s1:Shared}{H:Hp}{E:XK}{us:List Value}{vs:List V}
  (S:gh N ps scope) (hd:A.handled=none) (e0:uC P w K mg base A outer s H) (hl:vs.length=ps.length) (r:Vals vs us)
  (x:InCallC s s.heap.objs.size (bindL (envOfC qual scope s.heap.objs.size f cd).kindOf (ps.zip us) fun _=>none) (cellsFrom (s.heap.objs.size+1) scope.names []) (bindC (envOfC qual scope s.heap.objs.size f cd).kindOf (ps.zip us) fun _=>none) s1) :
  Inv (mO CX P w K mg base N qual scope f cd A outer s H E) [] (start N vs) H s1:=by
 have hpl:ps.length<=N.length:=by have:=congrArg List.length S.pre;rw [yE] at this;omega
 obtain ⟨h1,tk,rfl,hk⟩:=x.done
 have Vf:∀ b:Addr,b ∉ (mO CX P w K mg base N qual scope f cd A outer s H E).ex:=fun b z=>absurd (show b∈([]:List Addr) from z) (by simp)
 refine ⟨⟨e0.mod,S.kind,rfl,rfl,dS _,fun y z c h1 h2=>?_,fun y hy=>?_,fun y c _ h=>?_,fun _=>hd,Around.frames_deeper e0.frames,.inr ⟨rfl,rfl⟩,fun b z=>absurd z (Vf b),e0.bs,e0.bsz,fun b _ _=>Vf b,fun b z=>absurd z (Vf b),e0.kD,e0.frf⟩,
  rfl,e0.bare,Un.kept hk,⟨_,x.toInCall.ns,fun i y v h1 h2 h3=>?_⟩,fun y c h=>⟨_,x.cell y c h⟩,e0.bW.fresh (dS _),fun y c h=>?_,fun p hp=>absurd (show p∈([]:c9) from hp) (by simp),e0.bW.kept hk,?_⟩
 ·exact name_of_addr x.apart (PySem.mem_of_lookup h1) (PySem.mem_of_lookup h2)
 ·have hy:scope.names.lookup y=some .cell\/scope.names.lookup y=some .free:=hy
  rcases hy with hy | hy
  ·exact qM hy
  ·exact absurd rfl (S.nofree _ (PySem.mem_of_lookup hy))
 ·exact BN (x.above y c (PySem.mem_of_lookup h))
 ·have hi:i<vs.length:=by
   unfold start at h2
   by_cases hi:i<vs.length
   ·exact hi
   ·rw [fJ (by simpa using hi)] at h2
    rw [Bd] at h2
    split at h2<;>cases h2
  have ha:vs[i]?=some v:=by
   unfold start at h2
   rw [iI (by simpa using hi),gb] at h2
   cases e:vs[i]? with
   | none=>rw [e] at h2;cases h2
   | some a=>rw [e] at h2;cases h2;rfl
  obtain ⟨u,hu,rv⟩:=r.get ha
  have hp:ps[i]?=some y:=by
   rw [<- S.pre,List.getElem?_take_of_lt (by omega)];exact h1
  have ndP:ps.Nodup:=by rw [<- S.pre];exact S.nd.sublist (List.take_sublist _ _)
  refine ⟨u,rv,?_⟩
  rcases S.par y (iJ hp) with k | k
  ·exact .inl ⟨k,nA ndP hp hu k⟩
  ·obtain ⟨c,e⟩:=qM (n:=s.heap.objs.size+1) k
   refine .inr ⟨.inl k,c,e,?_⟩
   have q:=x.cell y c e
   rw [nB ndP hp hu (by show scope.names.lookup y≠_;rw [k];decide)] at q
   exact q
 ·exact e0.bW.fresh (BN (x.above y c (PySem.mem_of_lookup h)))
 ·unfold start
  show _=N.length
  rw [bJ,cT,yF]
  omega
theorem Vg {CX:Ci}{P:Program}{w:World}{K:bC}{mg:Str->Option Value}{base:Heap}{k:Nat}{f:Addr}{name qual:Str}{params:Arguments}{body:List Stmt}{scope:Scope}{dV kV doc pm il ct oc:Value}{an od:Option Addr}
  {yT:Array (Option Value)} {N ps:List Str} {sp:Sp} (lk:K.lookup f=some ⟨oc,od,.func (yD name qual params body scope dV kV doc pm an il ct),yT⟩) (kE:A_ K il qual=true) (S:gh N ps scope)
  (len:∀ vs H Q E,sp vs H Q E->vs.length=ps.length)
  (Co:∀ (A:Around) (outer:List Env) (s:Shared) (H:Hp) (vs:List V) (Q:VK) (E:XK),bO k (A.deeper (envOfC qual scope s.heap.objs.size f il))->sp vs H Q E ->
   ∃ t,jb (mO CX P w K mg base N qual scope f il A outer s H E) body t/\t { nx:=fun _ H'=>Q .non H',rt:=Q } (start N vs) H) :
  dc P w K mg base CX (k+1) f (yD name qual params body scope dV kV doc pm an il ct) ps sp:=by
 refine ⟨len,fun A outer s H args us vs Q E hr e0 hb r Uh=>?_⟩
 have hl:=len _ _ _ _ Uh
 have KX:K.In s.heap:=e0.mod.kin.keeps fun b o e=>(e0.bs b o e).1
 have lim:s.heap.NoLimit:=e0.mod.nolimit.keeps fun b o e=>(e0.bs b o e).1
 have Vh:∀ y∈ps.zip us,scope.names.lookup y.1=some .local\/(scope.names.lookup y.1=some .cell/\((cellsFrom (s.heap.objs.size+1) scope.names []).lookup y.1).isSome=true):=fun ⟨n,v⟩ hy=>by
  rcases S.par n (Bk hy).1 with q | q
  ·exact .inl q
  ·exact .inr ⟨q,Ll _ _ _ (.inl q)⟩
 refine codeAny_call_function hr.depth (KX _ _ lk) rfl S.co S.gen rfl (PySem.W.codeRec_of KX kE) (hb _ _ _ _ ?_)
 refine wpAny_newFunctionEnv_cells S.kind Vh fun env he s1 x=>?_
 subst he
 refine ⟨lim.keeps x.toInCall.keep,codeAny_func ?_⟩
 obtain ⟨t,ht,hq⟩:=Co A outer s H vs Q E (hr.deeper _) Uh
 have I:Inv (mO CX P w K mg base N qual scope f il A outer s H E) [] (start N vs) H s1:=yS S hr.hd e0 hl r x
 refine wpAny_mono (ht [] s1 (start N vs) H _ I hq) (fun fl s' hs=>?_) fun e s' hs=>hs
 have fin:∀ {σ':St} {H':Hp} {v:V} {u:Value},Inv (mO CX P w K mg base N qual scope f il A outer s H E) [] σ' H' s'->RelV v u->Q v H'->CE outer P w H s Q u s':=
  fun {σ' H' v u} J rv q=>⟨v,H',J.os,J.bare,J.base,J.bW,rv,q⟩
 cases fl with
 | ret u=>
  obtain ⟨v,σ',H',J,rv,q⟩:=hs
  exact fin J rv q
 | next=>
  obtain ⟨σ',H',J,q⟩:=hs
  exact fin (v:=V.non) (u:=Value.none) J rfl q
 | brk=>
  obtain ⟨_,_,_,q⟩:=hs
  exact False.elim q
 | cont=>
  obtain ⟨_,_,_,q⟩:=hs
  exact False.elim q
section
variable {X:Cx}{x:Str}{t:TA}{id T:String}{r:List V->Hp->VK->Prop}
def tCB (r:List V->Hp->VK->Prop) (t:TA):TE:=fun σ H Q=>t σ H fun vs H1=>r vs H1 Q
theorem gS (hc:fk X (.builtin id) r) (hg:Gl X x) (hm:X.mg x=none) (hv:bootBuiltins x=some (.builtin id)) (ha:PA X (e::es) t) (hn:x ≠ "__name__" := by decide) (jQ:bQ x:=by decide)
  (he:starEach (e::es) X.env=(false,eval e X.env)::starEach es X.env:=by rfl) (hpl:(backTo pos (starEach es X.env)).any (·.1)=false:=by rfl):PE X (.Call (.Name x p) (e::es) [] pos) (tCB r t):=by
 intro aa s σ H Q I h
 refine wpAny_Call_Name_kw (gc I hg hm hv ?_ hn jQ)
 exact L0 (bS (ha pos aa s σ H _ I h) fun us s1 ⟨vs,H1,I1,r1,q1⟩=>hc aa s1 σ H1 vs us Q I1 r1 q1) he hpl
theorem nC (hc:fk X (.type T) r) (hg:Gl X x) (hm:X.mg x=none) (hv:bootBuiltins x=some (.type T)) (ha:PA X (e::es) t) (hn:x ≠ "__name__" := by decide) (jQ:bQ x:=by decide)
  (he:starEach (e::es) X.env=(false,eval e X.env)::starEach es X.env:=by rfl) (hpl:(backTo pos (starEach es X.env)).any (·.1)=false:=by rfl):PE X (.Call (.Name x p) (e::es) [] pos) (tCB r t):=by
 intro aa s σ H Q I h
 refine wpAny_Call_Name_kw (gc I hg hm hv ?_ hn jQ)
 exact BU (bS (ha pos aa s σ H _ I h) fun us s1 ⟨vs,H1,I1,r1,q1⟩=>hc aa s1 σ H1 vs us Q I1 r1 q1) he hpl
end
end L2
namespace HT
open PySem PyProof.Rows
section
open PySem.SeqAt
open PySem.AutoSeq1 (wpAny_loadPart')
open PySem.MeetsSeq PySem.MeetsSeq2 PySem.MeetsSeq3
end
section
variable {prog:Program}{w:World}{A:Around}{E:Value->Shared->Prop}{s:Shared}
def fm (n d:Nat):Option Int->Nat
 | none=>d
 | some v=>if v<0 then (v+(n:Int)).toNat else min v.toNat n
end
end HT
namespace L2
open PySem PySem.Spec PyProof.Rows
abbrev TO:=St->Hp->(Option Int->Hp->Prop)->Prop
def PO (X:Cx) (e:Option Expr) (t:TO):Prop:=
 ∀ (aa:c9) (s:Shared) (σ:St) (H:Hp) (Q:Option Int->Hp->Prop),Inv X aa σ H s->t σ H Q ->
  wpAny (model X.prog X.w) X.A (evalPart e X.env) (fun u s'=>∃ o H',Inv X aa σ H' s'/\IsPart u o/\Q o H') X.xe s
def GX:TO:=fun _ H Q=>Q none H
def Vi (t:TE):TO:=fun σ H Q=>t σ H fun x H1=>∃ i,x=.int i/\Q (some i) H1
variable {X:Cx}
section
variable {e:Expr}{te:TE}{lo hi:Option Expr}{tl th:TO}{pos p2:Pos}
theorem GY:PO X none GX:=by
 intro aa s σ H Q I h
 rw [evalPart_none]
 exact wpAny_pure ⟨none,H,I,.none,h⟩
theorem GZ (h:PE X e te):PO X (some e) (Vi te):=by
 intro aa s σ H Q I hw
 rw [evalPart_some]
 refine bS (h aa s σ H _ I hw) fun u s1 zz=>?_
 obtain ⟨x,H1,I1,r1,q1⟩:=zz
 obtain ⟨i,rfl,q⟩:=q1
 obtain ⟨t,rfl⟩:=r1
 exact ⟨some i,H1,I1,.int i t,q⟩
def Mf (X:Cx) (r:V->Option Int->Option Int->Hp->VK->Prop):Prop:=
 ∀ (aa:c9) (s:Shared) (σ:St) (H:Hp) (x:V) (v vl vu:Value) (lo hi:Option Int) (sl:Addr) (Q:VK),Inv X aa σ H s->RelV x v->s.heap.IsSliceOf sl vl vu .none->IsPart vl lo->IsPart vu hi->r x lo hi H Q ->
  ∃ T id,typeLookup (.type T) "__getitem__" = pure (some (.builtin id))/\s.TypeIs v T/\wpAny (model X.prog X.w) X.A (getItem v (.ref sl)) (EP X aa σ Q) X.xe s
theorem Mf.or {r r':V->Option Int->Option Int->Hp->VK->Prop}(h:Mf X r) (h':Mf X r'):Mf X (fun x lo hi H Q=>r x lo hi H Q\/r' x lo hi H Q):=by
 intro aa s σ H x v vl vu lo hi sl Q I rx hs pl pu q
 rcases q with q | q
 ·exact h aa s σ H x v vl vu lo hi sl Q I rx hs pl pu q
 ·exact h' aa s σ H x v vl vu lo hi sl Q I rx hs pl pu q
def tSl (r:V->Option Int->Option Int->Hp->VK->Prop) (te:TE) (tl th:TO):TE:=fun σ H Q=>te σ H fun x H1=>tl σ H1 fun l H2=>th σ H2 fun u H3=>r x l u H3 Q
theorem Cp {r:V->Option Int->Option Int->Hp->VK->Prop}(hr:Mf X r) (he:PE X e te) (hl:PO X lo tl) (hu:PO X hi th):PE X (.Subscript e (.Slice lo hi none p2) pos) (tSl r te tl th):=by
 intro aa s σ H Q I h
 refine Subscript_ (bS (he aa s σ H _ I h) fun v s1 zz=>?_)
 obtain ⟨x,H1,I1,r1,q1⟩:=zz
 refine wpAny_Slice (bS (hl aa s1 σ H1 _ I1 q1) fun vl s2 ⟨l,H2,I2,pl,q2⟩=>bS (hu aa s2 σ H2 _ I2 q2) fun vu s3 zz=>?_)
 obtain ⟨u,H3,I3,pu,q3⟩:=zz
 rw [evalPart_none]
 refine wpAny_pure ?_
 have I4:Inv X aa σ H3 { s3 with heap:=s3.heap.push { cls:=.type "slice", data:=.fields #[vl,vu,.none] } }:=I3.kept (t':=s3.toks) fun b ob q=>Heap.get?_push_of_some _ q
 obtain ⟨T,id,hT,ht,hg⟩:=hr aa { s3 with heap:=s3.heap.push { cls:=.type "slice", data:=.fields #[vl,vu,.none] } } σ H3 x v vl vu l u s3.heap.objs.size Q I4 r1 (Heap.IsSliceOf.new ..) pl pu q3
 show wpAny (model X.prog X.w) X.A (subscriptTail e (.Slice lo hi none p2) v (.ref s3.heap.objs.size)) (EP X aa σ Q) X.xe { s3 with heap:=s3.heap.push { cls:=.type "slice", data:=.fields #[vl,vu,.none] } }
 exact tail_any (ops:=[.ref s3.heap.objs.size,v]) ht hT hg (by with_unfolding_all rfl)
def yU (xs:List V) (lo hi:Option Int):List V:=(xs.drop (HT.fm xs.length 0 lo)).take (HT.fm xs.length xs.length hi-HT.fm xs.length 0 lo)
theorem qN (xs:List V) (lo hi:Option Int):(yU xs lo hi).length<=xs.length:=by
 unfold yU
 rw [yE,Bl]
 omega
end
def G0 (n:Nat) (i:Int):Option Nat:=if 0<=i then (if i<n then some i.toNat else none) else if -(n:Int)<=i then some (i+n).toNat else none
def Cq {α:Type}(xs:List α) (i:Int):Option α:=(G0 xs.length i).bind fun j=>xs[j]?
theorem wN {n:Nat}{i:Int}{j:Nat}(h:G0 n i=some j):seqIndex? i n=some j/\j<n/\-(n:Int)<=i/\i<n:=by
 unfold G0 at h
 by_cases h0:0<=i
 ·rw [if_pos h0] at h
  by_cases h1:i<n
  ·rw [if_pos h1] at h
   have e:i.toNat=j:=jN.inj h
   exact ⟨by rw [seqIndex_of h0 h1,e],by omega,by omega,h1⟩
  ·rw [if_neg h1] at h;cases h
 ·rw [if_neg h0] at h
  by_cases h1:-(n:Int)<=i
  ·rw [if_pos h1] at h
   have e:(i+n).toNat=j:=jN.inj h
   exact ⟨by rw [seqIndex_neg (by omega) h1,e],by omega,h1,by omega⟩
  ·rw [if_neg h1] at h;cases h
theorem o9 {α:Type}{xs:List α}{i:Int}{v:α}(h:Cq xs i=some v):∃ j,seqIndex? i xs.length=some j/\xs[j]?=some v/\j<xs.length/\-(xs.length:Int)<=i/\i<xs.length:=by
 unfold Cq at h
 cases e:G0 xs.length i with
 | none=>rw [e] at h;cases h
 | some j=>
  rw [e] at h
  obtain ⟨h1,h2,h3,h4⟩:=wN e
  exact ⟨j,h1,h,h2,h3,h4⟩
def jf (b:Expr):Prop:=∀ o i,subscripted b false o i=operate [o,i] (getItem o i)
def G1 (X:Cx) (r:R2):Prop:=
 ∀ (value slice:Expr) (aa:c9) (s:Shared) (σ:St) (H:Hp) (x y:V) (v u:Value) (Q:VK),Inv X aa σ H s->RelV x v->RelV y u->r x y H Q ->
  subscripted slice false v u=operate [v,u] (getItem v u)->wpAny (model X.prog X.w) X.A (subscriptTail value slice v u) (EP X aa σ Q) X.xe s
def wQ (X:Cx) (id:String) (r:V->List V->Hp->VK->Prop):Prop:=
 ∀ (aa:c9) (s:Shared) (σ:St) (H:Hp) (x:V) (xs:List V) (v:Value) (us:List Value) (Q:VK),Inv X aa σ H s->RelV x v->Vals xs us->r x xs H Q ->
  wpAny (model X.prog X.w) X.A (call (.builtin id) (v::us)) (EP X aa σ Q) X.xe s
section
variable {a b:Expr}{ta tb:TE}{pos:Pos}
theorem G1.or {r r':R2}(h:G1 X r) (h':G1 X r'):G1 X (fun x y H Q=>r x y H Q\/r' x y H Q):=by
 intro value slice aa s σ H x y v u Q I rx ry q hs
 rcases q with q | q
 ·exact h value slice aa s σ H x y v u Q I rx ry q hs
 ·exact h' value slice aa s σ H x y v u Q I rx ry q hs
theorem Mg {r:R2}(hr:G1 X r) (ha:PE X a ta) (hb:PE X b tb) (hs:jf b):PE X (.Subscript a b pos) (F9 r ta tb):=by
 intro aa s σ H Q I h
 exact Subscript_ (Ow ha hb I h fun v u s2 x y H2 I2 rx ry q=>hr a b aa s2 σ H2 x y v u Q I2 rx ry q (hs _ _))
def Vj (K:bC):R2:=fun x y H Q=>∃ p xs i v,x=.ref p/\y=.int i/\du K H p xs/\Cq xs i=some v/\Q v H
def Vk (K:bC):R2:=fun x y H Q=>∃ p xs i v,x=.ref p/\y=.int i/\j_ K H p xs/\Cq xs i=some v/\Q v H
def Vl:R2:=fun x y H Q=>∃ z i c,x=.str z/\y=.int i/\z.length<=sizeLine/\Cq z.cps.toList i=some c/\Q (.str ⟨#[c]⟩) H
theorem wR:G1 X (Vj X.K):=by
 intro value slice aa s σ H x y v u Q I rx ry h hs
 obtain ⟨p,xs,i,z,rfl,rfl,hq,he,q⟩:=h
 cases rx
 obtain ⟨t,rfl⟩:=ry
 obtain ⟨its,r,pl,hz⟩:=I.list hq
 obtain ⟨j,h1,h2,h3,h4,h5⟩:=o9 he
 obtain ⟨w,ew,GO⟩:=r.get h2
 have hl:=r.length
 have hn:=jO
 have fin:EP X aa σ Q w s:=⟨z,H,I,GO,q⟩
 by_cases h0:0<=i
 ·have hj:i.toNat=j:=by
   rw [seqIndex_of h0 h5] at h1
   exact jN.inj h1
  exact item_listR pl.isList h0 (by omega) (by rw [hj];simpa using ew) fin hs
 ·have hj:(i+(its.toArray.size:Int)).toNat=j:=by
   rw [seqIndex_neg (by omega) h4] at h1
   rw [fQ,<- hl]
   exact jN.inj h1
  exact subscriptTail_builtinR (x:=w) pl.isList.typeIs slot_list_getitem.lookup
   (wpAny_getItem_list_neg (Q:=fun r s'=>r=w/\EP X aa σ Q r s') pl.isList (by omega) (by rw [fQ]<;>omega) (by omega) (by rw [hj];simpa using ew) ⟨rfl,fin⟩) hs
theorem OH:G1 X (Vk X.K):=by
 intro value slice aa s σ H x y v u Q I rx ry h hs
 obtain ⟨p,xs,i,z,rfl,rfl,hq,he,q⟩:=h
 cases rx
 obtain ⟨t,rfl⟩:=ry
 obtain ⟨its,r,pl,hz⟩:=I.tuple hq
 obtain ⟨j,h1,h2,h3,h4,h5⟩:=o9 he
 obtain ⟨w,ew,GO⟩:=r.get h2
 have hl:=r.length
 have hn:=jO
 have fin:EP X aa σ Q w s:=⟨z,H,I,GO,q⟩
 exact subscriptTail_builtinR (x:=w) pl.typeIs slot_tuple_getitem.lookup
  (getItem_tuple (j:=j) (Q:=fun r s'=>r=w/\EP X aa σ Q r s') pl (by omega) (by omega) (by rw [fQ,<- hl];exact h1) (by simpa using ew) ⟨rfl,fin⟩) hs
theorem OI:G1 X Vl:=by
 intro value slice aa s σ H x y v u Q I rx ry h hs
 obtain ⟨z,i,c,rfl,rfl,hz,he,q⟩:=h
 obtain ⟨t,rfl⟩:=rx
 obtain ⟨t',rfl⟩:=ry
 obtain ⟨j,h1,h2,h3,h4,h5⟩:=o9 he
 have hl:z.cps.toList.length=z.length:=by simp [Str.length]
 rw [hl] at h1 h4 h5
 have hn:=jO
 exact tail_any (typeIs_str s z t) slot_str_getitem.lookup (getItem_str (c:=c) (by
  have e1:decide (i < -(2 ^ 63:Int))=false:=decide_eq_false (by omega)
  have e2:decide (i ≥ 2 ^ 63)=false:=decide_eq_false (by omega)
  rw [e1,e2,GA]) (by rw [h1];simpa using h2) ⟨.str ⟨#[c]⟩,H,I.tok _,⟨_,rfl⟩,q⟩) hs
def rIx (K:bC):R2:=fun x y H Q=>Vj K x y H Q\/Vk K x y H Q\/Vl x y H Q
theorem OJ:G1 X (rIx X.K):=wR.or (OH.or OI)
theorem uD (its:List Value) (n j:Nat) (u:Value):Obj.mapSeq (·.setIfInBounds j u) { cls:=.type "list", data:=.seq its.toArray n }={ cls:=.type "list", data:=.seq (its.set j u).toArray n }:=by
 simp [Obj.mapSeq]
theorem Inv.lst {aa:c9}{σ:St}{H:Hp}{s:Shared}{p:Addr}{xs:List V}(I:Inv X aa σ H s) (h:H p=some (.lst xs)) :
  ∃ (its:List Value) (n:Nat),Vals xs its/\s.heap.get? p=some { cls:=.type "list", data:=.seq its.toArray n }/\xs.length<=sizeLine:=by
 obtain ⟨z,its,n,r,e⟩:=I.bW p _ h
 exact ⟨its,n,r,e,z⟩
theorem Inv.OL {aa:c9}{σ:St}{H:Hp}{s:Shared}{p:Addr}{xs ys:List V}{its its':List Value}{n n':Nat}{f:Obj->Obj}(I:Inv X aa σ H s) (h:H p=some (.lst xs))
  (ho:s.heap.get? p=some { cls:=.type "list", data:=.seq its.toArray n }) (hf:f { cls:=.type "list", data:=.seq its.toArray n }={ cls:=.type "list", data:=.seq its'.toArray n' }) (r:Vals ys its') (hz:ys.length<=sizeLine) (t:Nat) :
  Inv X aa σ (upd H p (.lst ys)) { s with heap:=s.heap.update p f,toks:=t }:=by
 have e:(s.heap.update p f).get? p=some { cls:=.type "list", data:=.seq its'.toArray n' }:=by
  rw [Heap.get?_update_self f ho (by rw [hf]<;>rfl),hf]
 refine I.write (x:=p) (e:=p) (by rw [h];trivial) (.inl rfl) (fun b u hb q=>(Heap.get?_update_other _ _ (Ne.symm hb)).trans q) ⟨_,e⟩ ?_
 exact ⟨hz,its',n',r,e⟩
def Mh:V->V->V->Hp->(Hp->Prop)->Prop:=fun o i v H Q=>∃ p xs k j,o=.ref p/\i=.int k/\H p=some (.lst xs)/\G0 xs.length k=some j/\Q (upd H p (.lst (xs.set j v)))
theorem set_list:abN X Mh:=by
 intro aa s σ H o i v ov iv u Q I ro ri rv h
 obtain ⟨p,xs,k,j,rfl,rfl,hp,hj,q⟩:=h
 cases ro
 obtain ⟨t,rfl⟩:=ri
 obtain ⟨its,n,r,ho,hz⟩:=I.lst hp
 obtain ⟨h1,h2,h3,h4⟩:=wN hj
 have hl:=r.length
 have hn:=jO
 have I':Inv X aa σ (upd H p (.lst (xs.set j v))) { s with heap:=s.heap.update p (Obj.mapSeq (·.setIfInBounds j u)) }:=
  I.OL hp ho (uD its n j u) (r.set rv j) (by rw [gC];exact hz) s.toks
 by_cases h0:0<=k
 ·have hk:k.toNat=j:=by
   rw [seqIndex_of h0 h4] at h1
   exact jN.inj h1
  exact PySem.W.ki_setAt ho h0 (by omega) (by rw [fQ,<- hl];exact h4) (by rw [hk];exact ⟨_,I',q⟩)
 ·have hk:(k+(its.toArray.size:Int)).toNat=j:=by
   rw [seqIndex_neg (by omega) h3] at h1
   rw [fQ,<- hl]
   exact jN.inj h1
  exact PySem.W.ki_setBack ho (by omega) (by rw [fQ,<- hl];exact h3) (by omega) (by rw [hk];exact ⟨_,I',q⟩)
theorem o_ (lo hi:Option Int) (n:Nat):(sliceBounds lo hi none n).1=((HT.fm n 0 lo:Nat):Int)/\(sliceBounds lo hi none n).2.1=((HT.fm n n hi:Nat):Int)/\(sliceBounds lo hi none n).2.2=1:=by
 refine ⟨?_,?_,rfl⟩
 ·cases lo with
  | none=>simp [sliceBounds,HT.fm]
  | some i=>
   simp only [sliceBounds,HT.fm,LW,show (1:Int) > 0 by decide,if_true]
   by_cases h:i<0
   ·simp only [h,if_true]<;>omega
   ·simp only [h,if_false]<;>omega
 ·cases hi with
  | none=>simp [sliceBounds,HT.fm]
  | some i=>
   simp only [sliceBounds,HT.fm,LW,show (1:Int) > 0 by decide,if_true]
   by_cases h:i<0
   ·simp only [h,if_true]<;>omega
   ·simp only [h,if_false]<;>omega
theorem mQ (its:List Value) (lo hi:Option Int):slicePick its.toArray lo hi none=((its.drop (HT.fm its.length 0 lo)).take (HT.fm its.length its.length hi-HT.fm its.length 0 lo)).toArray:=by
 obtain ⟨h1,h2,h3⟩:=o_ lo hi its.toArray.size
 unfold slicePick
 rw [h1,h2,h3]
 simp only [sliceRange_one,pick_run,fQ]<;>rfl
def Vm (K:bC):V->Option Int->Option Int->Hp->VK->Prop:=fun x lo hi H Q=>∃ a xs,x=.ref a/\du K H a xs/\∀ p,H p=none->Q (.ref p) (upd H p (.lst (yU xs lo hi)))
theorem G2:Mf X (Vm X.K):=by
 intro aa s σ H x v vl vu lo hi sl Q I rx hs pl pu h
 obtain ⟨a,xs,rfl,hx,q⟩:=h
 cases rx
 obtain ⟨its,r,ht,hz⟩:=I.list hx
 have cW:=r.length
 refine ⟨"list", _,slot_list_getitem.lookup,ht.isList.typeIs,?_⟩
 refine wpAny_getItem_list_slice ht.isList hs pl pu .none (by simp) ?_ (by rw [fQ]<;>omega)
 rw [mQ,<- cW]
 refine ⟨.ref s.heap.objs.size,_,I.laid (t':=s.toks) (o:=.lst (yU xs lo hi)) (fun b ob q=>Heap.get?_push_of_some _ q) (dS _) ?_,rfl,q _ (I.bW.fresh (dS _))⟩
 exact ⟨gO (qN xs lo hi) hz,_,0,(r.drop (HT.fm xs.length 0 lo)).take (HT.fm xs.length xs.length hi-HT.fm xs.length 0 lo),Heap.get?_push_size _ rfl⟩
def dE:V->Bool
 | .non=>true
 | .bl _=>true
 | .int _=>true
 | .str _=>true
 | _=>false
def Cr:V->V->Bool
 | .non,.non=>true
 | .bl a,.bl b=>a == b
 | .bl a,.int b=>(if a then 1 else 0) == b
 | .int a,.bl b=>a == (if b then 1 else 0)
 | .int a,.int b=>a == b
 | .str a,.str b=>a == b
 | _,_=>false
theorem uE {A:Around}{s:Shared}{y x:V}{u v:Value}(ry:RelV y u) (rx:RelV x v) (fy:dE y=true) (fx:dE x=true):SeqAt.EqAt A s u v (Cr y x):=by
 cases y with
 | non=>
  cases ry
  cases x with
  | non=>cases rx;exact SeqAt.EqAt.same _
  | bl b=>cases rx;exact SeqAt.EqAt.none_bool b
  | int b=>obtain ⟨t,rfl⟩:=rx;exact SeqAt.EqAt.none_int b t
  | str b=>obtain ⟨t,rfl⟩:=rx;exact SeqAt.EqAt.none_str b t
  | _=>exact absurd (show false=true from fx) eK
 | bl a=>
  cases ry
  cases x with
  | non=>cases rx;exact SeqAt.EqAt.bool_none a
  | bl b=>cases rx;exact SeqAt.EqAt.bool_bool a b
  | int b=>obtain ⟨t,rfl⟩:=rx;exact SeqAt.EqAt.bool_int a b t
  | str b=>obtain ⟨t,rfl⟩:=rx;exact SeqAt.EqAt.bool_str a b t
  | _=>exact absurd (show false=true from fx) eK
 | int a=>
  obtain ⟨t',rfl⟩:=ry
  cases x with
  | non=>cases rx;exact SeqAt.EqAt.int_none a t'
  | bl b=>cases rx;exact SeqAt.EqAt.int_bool a t' b
  | int b=>obtain ⟨t,rfl⟩:=rx;exact SeqAt.EqAt.int_int a t' b t
  | str b=>obtain ⟨t,rfl⟩:=rx;exact SeqAt.EqAt.int_str a t' b t
  | _=>exact absurd (show false=true from fx) eK
 | str a=>
  obtain ⟨t',rfl⟩:=ry
  cases x with
  | non=>cases rx;exact SeqAt.EqAt.str_none a t'
  | bl b=>cases rx;exact SeqAt.EqAt.str_bool a t' b
  | int b=>obtain ⟨t,rfl⟩:=rx;exact SeqAt.EqAt.str_int a t' b t
  | str b=>obtain ⟨t,rfl⟩:=rx;exact SeqAt.EqAt.str_str a t' b t
  | _=>exact absurd (show false=true from fx) eK
 | _=>exact absurd (show false=true from fy) eK
def uF (x:V) (u:Value):Bool:=match u with
 | .none=>Cr .non x
 | .bool b=>Cr (.bl b) x
 | .int i _=>Cr (.int i) x
 | .str z _=>Cr (.str z) x
 | _=>false
theorem Cs {x y:V}{u:Value}(r:RelV y u) (f:dE y=true):uF x u=Cr y x:=by
 cases y with
 | non=>cases r;rfl
 | bl b=>cases r;rfl
 | int i=>obtain ⟨t,rfl⟩:=r;rfl
 | str z=>obtain ⟨t,rfl⟩:=r;rfl
 | _=>exact absurd (show false=true from f) eK
theorem jg {x:V}:∀ {xs:List V}{us:List Value},Vals xs us->xs.all dE=true->us.any (uF x)=xs.any fun y=>Cr y x
 | _,_,.nil,_=>rfl
 | y::xs,u::us,.cons r t,f=>by
  rw [ee,c6] at f
  rw [i8,i8,Cs r f.1,jg t f.2]
theorem gT {A:Around}{s:Shared}{x:V}{v:Value}(rx:RelV x v) (fx:dE x=true):∀ {xs:List V}{us:List Value},Vals xs us->xs.all dE=true->∀ u∈us,SeqAt.EqAt A s u v (uF x u)
 | _,_,.nil,_=>fun u hu=>by cases hu
 | y::xs,u::us,.cons r t,f=>fun u' hu=>by
  rw [ee,c6] at f
  rcases cA.mp hu with rfl | hu
  ·rw [Cs r f.1];exact uE r rx f.1 fx
  ·exact gT rx fx t f.2 u' hu
def inV (x:V) (xs:List V):Bool:=xs.any fun y=>Cr y x
def rIn (K:bC) (neg:Bool):R2:=fun x y H Q=>∃ p xs,y=.ref p/\(du K H p xs\/j_ K H p xs)/\dE x=true/\xs.all dE=true/\Q (.bl (if neg then !inV x xs else inV x xs)) H
theorem yV:fj X (compareOp .In) (rIn X.K false):=by
 intro aa s σ H x y v u Q I rx ry h
 obtain ⟨p,xs,rfl,hq,fx,fs,q⟩:=h
 cases ry
 rcases hq with hq | hq
 ·obtain ⟨its,r,pl,hz⟩:=I.list hq
  refine SeqAt.in_listAt (uF x) pl.isList (fun w hw=>gT rx fx r fs w (by simpa using hw)) ⟨.bl _,H,I,rfl,?_⟩
  rw [show its.toArray.any (uF x)=its.any (uF x) by simp,jg r fs]
  exact q
 ·obtain ⟨its,r,pl,hz⟩:=I.tuple hq
  refine SeqAt.in_tupleAt (uF x) pl (fun w hw=>gT rx fx r fs w (by simpa using hw)) ⟨.bl _,H,I,rfl,?_⟩
  rw [show its.toArray.any (uF x)=its.any (uF x) by simp,jg r fs]
  exact q
theorem pe:fj X (compareOp .NotIn) (rIn X.K true):=by
 intro aa s σ H x y v u Q I rx ry h
 obtain ⟨p,xs,rfl,hq,fx,fs,q⟩:=h
 cases ry
 rcases hq with hq | hq
 ·obtain ⟨its,r,pl,hz⟩:=I.list hq
  refine SeqAt.notIn_listAt (uF x) pl.isList (fun w hw=>gT rx fx r fs w (by simpa using hw)) ⟨.bl _,H,I,rfl,?_⟩
  rw [show its.toArray.any (uF x)=its.any (uF x) by simp,jg r fs]
  exact q
 ·obtain ⟨its,r,pl,hz⟩:=I.tuple hq
  refine SeqAt.notIn_tupleAt (uF x) pl (fun w hw=>gT rx fx r fs w (by simpa using hw)) ⟨.bl _,H,I,rfl,?_⟩
  rw [show its.toArray.any (uF x)=its.any (uF x) by simp,jg r fs]
  exact q
theorem jh:fk X (.type "list") (fun xs H Q=>∃ p ys,xs=[.ref p]/\(du X.K H p ys\/j_ X.K H p ys)/\∀ l,H l=none->Q (.ref l) (upd H l (.lst ys))):=by
 intro aa s σ H xs us Q I r h
 obtain ⟨p,ys,rfl,hq,q⟩:=h
 obtain ⟨u,rfl,rx⟩:=vals1 r
 cases rx
 have fin:∀ (its:List Value),Vals ys its->ys.length<=sizeLine->∀ (h':Heap) (c':Nat),(∀ b o',s.heap.get? b=some o'->h'.get? b=some o') ->
   h'.get? s.heap.objs.size=some { cls:=.type "list", dict:=none,data:=.seq its.toArray c',slots:=#[] }->EP X aa σ Q (.ref s.heap.objs.size) { s with heap:=h' }:=fun its r' hz h' c' kp e=>
  ⟨.ref s.heap.objs.size,_,I.laid (t':=s.toks) kp (dS _) (show bY X.prog X.w _ h' _ (.lst ys) from ⟨hz,its,c',r',e⟩),rfl,q _ (I.bW.fresh (dS _))⟩
 rcases hq with hq | hq
 ·obtain ⟨its,r',pl,hz⟩:=I.list hq
  have cW:=r'.length
  obtain ⟨o,ho,hc,n,hd⟩:=pl.isList
  exact call_list_seq p (.inl rfl) ho hc hd (fun h' c' kp e=>fin its r' hz h' c' kp e) (by simp only [fQ]<;>omega)
 ·obtain ⟨its,r',pl,hz⟩:=I.tuple hq
  have cW:=r'.length
  obtain ⟨o,ho,hc,n,hd⟩:=pl
  exact call_list_seq p (.inr rfl) ho hc hd (fun h' c' kp e=>fin its r' hz h' c' kp e) (by simp only [fQ]<;>omega)
def tyV (K:bC) (T:String) (x:V) (H:Hp):Prop:=match x with
 | .str _=>T = "str"
 | .int _=>T = "int"
 | .ref p=>(T = "list" /\ ∃ xs,du K H p xs)\/(T = "tuple" /\ ∃ o,K.lookup p=some o/\o.cls=.type "tuple" /\ o.dict=none) \/
   (T = "dict" /\ ((∃ a7,H p=some (.dK a7))\/∃ a7,H p=some (.dT a7)))\/(T = "set" /\ ∃ S n,H p=some (.set S n))
 | _=>False
theorem Ct {aa:c9}{σ:St}{H:Hp}{s:Shared}{T:String}{x:V}{v:Value}(I:Inv X aa σ H s) (r:RelV x v) (ty:tyV X.K T x H) :
  s.TypeIs v T/\∀ a,v=.ref a->∃ ob,s.heap.get? a=some ob/\ob.dict=none:=by
 cases x with
 | str z=>
  obtain ⟨t,rfl⟩:=r
  cases (show T = "str" from ty)
  exact ⟨typeIs_str s z t,fun _ e=>nomatch e⟩
 | int i=>
  obtain ⟨t,rfl⟩:=r
  cases (show T = "int" from ty)
  exact ⟨typeIs_int s i t,fun _ e=>nomatch e⟩
 | ref p=>
  cases r
  rcases ty with ⟨rfl,xs,hq⟩ | ⟨rfl,o,hk,hc,hd⟩ | ⟨rfl,hk⟩ | ⟨rfl,S,n,hk⟩
  ·obtain ⟨its,_,pl,_⟩:=I.list hq
   refine ⟨pl.isList.typeIs,fun a e=>?_⟩
   cases e
   obtain ⟨o,n,e,c,hd,_⟩:=pl
   exact ⟨o,e,hd⟩
  ·refine ⟨⟨o,I.ja p o hk,hc⟩,fun a e=>?_⟩
   cases e
   exact ⟨o,I.ja _ o hk,hd⟩
  ·have z:∃ o,s.heap.get? p=some o/\o.ExactDict:=by
    rcases hk with ⟨a7,hk⟩ | ⟨a7,hk⟩
    ·obtain ⟨_,_,_,_,o,_,_,e,ex,_⟩:=I.bW p _ hk
     exact ⟨o,e,ex⟩
    ·obtain ⟨_,_,_,_,o,_,_,e,ex,_⟩:=I.bW p _ hk
     exact ⟨o,e,ex⟩
   obtain ⟨o,e,ex⟩:=z
   refine ⟨⟨o,e,ex.1⟩,fun a e2=>?_⟩
   cases e2
   exact ⟨o,e,ex.2.1⟩
  ·obtain ⟨o,_,_,_,e,ex,_⟩:=I.bW p _ hk
   refine ⟨⟨o,e,ex.1⟩,fun a e2=>?_⟩
   cases e2
   exact ⟨o,e,ex.2.1⟩
 | _=>exact False.elim ty
def abX (K:bC) (T:String) (r:V->List V->Hp->VK->Prop) (to:TE):TE:=fun σ H Q=>to σ H fun x H1=>tyV K T x H1/\r x [] H1 Q
def tBM (K:bC) (T:String) (r:V->List V->Hp->VK->Prop) (to:TE) (t:TA):TE:=fun σ H Q=>to σ H fun x H1=>tyV K T x H1/\t σ H1 fun xs H2=>r x xs H2 Q
variable {o e:Expr}{es:List Expr}{to:TE}{t:TA}{name:Str}{cP eL:Pos}{T id:String}{r:V->List V->Hp->VK->Prop}
theorem OM (pa:PlainAttrs T) (slot:Slot T name id) (Vn:typeOf (.builtin id)=pure (.type "method_descriptor")) (hm:wQ X id r) (ho:PE X o to)
  (Cu:attributeBase o name X.env (eval o X.env)=eval o X.env:=by rfl) (ji:(cP.endLine == eL.line)=true:=by rfl):PE X (.Call (.Attribute o name cP) [] [] eL) (abX X.K T r to):=by
 intro aa s σ H Q I h
 refine wpAny_Call_method0_late Cu ji (bS (ho aa s σ H _ I h) fun v s1 zz=>?_)
 obtain ⟨x,H1,I1,r1,ty,q1⟩:=zz
 obtain ⟨h1,h2⟩:=Ct I1 r1 ty
 exact ⟨T,id,pa,slot,Vn,h1,h2,Calls.callWith_builtin rfl (PySem.evalArgs_none (hm aa s1 σ H1 x [] v [] Q I1 r1 .nil q1))⟩
theorem Mi (pa:PlainAttrs T) (slot:Slot T name id) (Vn:typeOf (.builtin id)=pure (.type "method_descriptor")) (hm:wQ X id r) (ho:PE X o to) (ha:PA X (e::es) t)
  (Cu:attributeBase o name X.env (eval o X.env)=eval o X.env:=by rfl)
  (abY:((backTo eL (starEach (e::es) X.env)).all (fun x=>!x.1)&&(backToKw eL (keywordEach [] X.env)).all (fun x=>x.1.isSome)
   && decide ((e::es).length+([]:List Keyword).length+(if ([]:List Keyword).isEmpty then 0 else 1)<30))=true:=by rfl)
  (ji:(cP.endLine == eL.line)=true:=by rfl) (hs:starEach (e::es) X.env=(false,eval e X.env)::starEach es X.env:=by rfl) (ON:(backTo eL (starEach es X.env)).any (·.1)=false:=by rfl) :
  PE X (.Call (.Attribute o name cP) (e::es) [] eL) (tBM X.K T r to t):=by
 intro aa s σ H Q I h
 refine wpAny_Call_method_late Cu abY ji rfl (bS (ho aa s σ H _ I h) fun v s1 zz=>?_)
 obtain ⟨x,H1,I1,r1,ty,q1⟩:=zz
 obtain ⟨h1,h2⟩:=Ct I1 r1 ty
 refine ⟨T,id,pa,slot,Vn,h1,h2,?_⟩
 have hA:=ha eL aa s1 σ H1 _ I1 q1
 rw [hs] at hA ⊢
 refine Calls.callWith_builtin (by show (false || (backTo eL (starEach es X.env)).any (·.1))=false;rw [ON]<;>rfl) (Calls.evalArgs_plain ?_)
 exact bS hA fun us s2 ⟨vs,H2,I2,r2,q2⟩=>hm aa s2 σ H2 x vs v us Q I2 r1 r2 q2
end
def MtM (X:Cx) (id:String) (r:V->List V->Hp->VK->Prop):Prop:=
 ∀ (aa:c9) (s:Shared) (σ:St) (H:Hp) (x:V) (xs:List V) (v:Value) (us:List Value) (Q:VK),Inv X aa σ H s->RelV x v->Vals xs us->r x xs H Q ->
  wpAny (model X.prog X.w) X.A (call (.builtin id) (v::us)) (EP X aa σ Q) X.xe s
theorem Vals.one:∀ {x:V}{us:List Value},Vals [x] us->∃ u,us=[u]/\RelV x u
 | _,_,.cons r .nil=>⟨_,rfl,r⟩
theorem Vals.two:∀ {x y:V}{us:List Value},Vals [x,y] us->∃ u v,us=[u,v]/\RelV x u/\RelV y v
 | _,_,_,.cons r (.cons q .nil)=>⟨_,_,rfl,r,q⟩
theorem Vals.zero:∀ {us:List Value},Vals [] us->us=[]
 | _,.nil=>rfl
theorem Vals.rep {xs:List V}{us:List Value}(h:Vals xs us):∀ k:Nat,Vals (ed k xs).flatten (ed k us).flatten
 | 0=>.nil
 | k+1=>by
  rw [uc,uc,ud,ud]
  exact Vals.append h (Vals.rep h k)
theorem foldl_rep (its:List Value):∀ (k:Nat) (bX:List Value),
  Bm (fun x1 x2=>x1++x2) bX.toArray (ed k its.toArray)=(bX++(ed k its).flatten).toArray
 | 0,bX=>by simp
 | k+1,bX=>by
  have e:bX.toArray++its.toArray=(bX++its).toArray:=by simp
  have e2:(bX++its)++(ed k its).flatten=bX++(ed (k+1) its).flatten:=by
   rw [uc,ud,ky]
  rw [<- e2,<- foldl_rep its k (bX++its),<- e,uc,List.foldl_cons]
section
variable {aa:c9}{σ:St}{H:Hp}{s:Shared}{l b:Addr}{xs ys zs:List V}
theorem Inv.Vo {its its':List Value}{n:Nat}{f:Array Value->Array Value}{t':Nat}(I:Inv X aa σ H s) (hH:H l=some (.lst xs))
  (e:s.heap.get? l=some { cls:=.type "list", data:=.seq its.toArray n }) (hf:f its.toArray=its'.toArray) (hv:Vals ys its') (hz:ys.length<=sizeLine) :
  Inv X aa σ (upd H l (.lst ys)) { s with heap:=s.heap.update l (Obj.mapSeq f),toks:=t' }:=by
 have q:=PySem.IsL.update e f
 rw [hf] at q
 refine I.write (x:=l) (e:=l) (by rw [hH];exact trivial) (.inl rfl) (fun b' u hb hu=>(Heap.get?_update_other s.heap (Obj.mapSeq f) (Ne.symm hb)).trans hu) ⟨_,q⟩ ?_
 exact ⟨hz,its',_,hv,q⟩
theorem Inv.yW {its:List Value}{t':Nat}(I:Inv X aa σ H s) (hv:Vals ys its) (hz:ys.length<=sizeLine) :
  Inv X aa σ (upd H s.heap.objs.size (.lst ys)) { s with heap:=s.heap.push { cls:=.type "list", data:=.seq its.toArray },toks:=t' }:=
 I.laid (fun _ _ q=>Heap.get?_push_of_some _ q) (dS _) ⟨hz,its,0,hv,Heap.get?_push_size _ rfl⟩
theorem Inv.fresh (I:Inv X aa σ H s):H s.heap.objs.size=none:=I.bW.fresh (dS _)
theorem Inv.Cv (I:Inv X aa σ H s) (hH:H l=some (.lst xs)):xs.length<=sizeLine/\∃ (its:List Value) (n:Nat),Vals xs its/\xs.length=its.length/\s.heap.get? l=some { cls:=.type "list", data:=.seq its.toArray n }:=by
 obtain ⟨z,its,n,r,e⟩:=I.bW l _ hH
 exact ⟨z,its,n,r,r.length,e⟩
theorem Cw {n:Nat}(h:n<=sizeLine):Builtin.List.listTooLong n=false:=by
 unfold Builtin.List.listTooLong
 exact decide_eq_false (by omega)
end
section
def G3:V->List V->Hp->VK->Prop:=fun x vs H Q=>∃ l xs y,x=.ref l/\vs=[y]/\H l=some (.lst xs)/\xs.length<sizeLine/\Q .non (upd H l (.lst (xs++[y])))
theorem nE:MtM X "list.append" G3:=by
 intro aa s σ H x vs v us Q I rx rv h
 obtain ⟨l,xs,y,rfl,rfl,hH,hz,q⟩:=h
 cases rx
 obtain ⟨u,rfl,ru⟩:=rv.one
 obtain ⟨z,its,n,r,hl,e⟩:=I.Cv hH
 refine call_meets F.slot_list_append ⟨_,e,rfl⟩ F.entry_list_append (F.args_list_append_2 _ _) (PySem.list_append l its.toArray n u (by rw [fQ];omega)) ⟨e,?_⟩
 refine ⟨.non,_,I.Vo (its':=its++[u]) hH e (by simp) (r.append (.cons ru .nil)) ?_,rfl,q⟩
 rw [bJ,yG]
 omega
def OO:V->List V->Hp->VK->Prop:=fun x vs H Q=>∃ l xs,x=.ref l/\vs=[]/\H l=some (.lst xs)/\Q .non (upd H l (.lst []))
theorem Cy:MtM X "list.clear" OO:=by
 intro aa s σ H x vs v us Q I rx rv h
 obtain ⟨l,xs,rfl,rfl,hH,q⟩:=h
 cases rx
 have hus:=rv.zero
 subst hus
 obtain ⟨z,its,n,r,hl,e⟩:=I.Cv hH
 refine call_meets F.slot_list_clear ⟨_,e,rfl⟩ F.entry_list_clear (F.args_list_clear_1 _) (AutoSeq1.list_clear_list_0 l its.toArray n (by rw [fQ];omega)) ⟨e,?_⟩
 exact ⟨.non,_,I.Vo (its':=[]) (ys:=[]) hH e rfl .nil (gD _),rfl,q⟩
def Vp:R2:=fun x y H Q=>∃ l b xs zs,x=.ref l/\y=.ref b/\H l=some (.lst xs)/\H b=some (.lst zs)/\xs.length+zs.length<=sizeLine/\∀ p,H p=none->Q (.ref p) (upd H p (.lst (xs++zs)))
theorem OP:fj X (binaryOp .Add) Vp:=by
 intro aa s σ H x y v u Q I rx ry h
 obtain ⟨l,b,xs,zs,rfl,rfl,hH,hB,hz,q⟩:=h
 cases rx
 cases ry
 obtain ⟨z,its,n,r,hl,e⟩:=I.Cv hH
 obtain ⟨z2,Vq,n2,r2,hl2,e2⟩:=I.Cv hB
 refine PySem.P.add_list e e2 ?_ (by rw [fQ,fQ];omega)
 have ea:its.toArray++Vq.toArray=(its++Vq).toArray:=by simp
 rw [ea]
 exact ⟨.ref _,_,I.yW (t':=s.toks) (r.append r2) (by rw [bJ];omega),rfl,q _ I.fresh⟩
def Vr:R2:=fun x y H Q=>∃ l k xs,x=.ref l/\y=.int k/\H l=some (.lst xs)/\-(2 ^ 63)<=k/\k<2 ^ 63/\xs.length*k.toNat<=sizeLine /\
 ∀ p,H p=none->Q (.ref p) (upd H p (.lst (ed k.toNat xs).flatten))
theorem len_rep {α:Type}(xs:List α) (k:Nat):(ed k xs).flatten.length=k*xs.length:=by
 induction k with
 | zero=>simp
 | succ k ih=>rw [uc,ud,bJ,ih,LQ,Nat.add_comm]
theorem OQ:fj X (binaryOp .Mult) Vr:=by
 intro aa s σ H x y v u Q I rx ry h
 obtain ⟨l,k,xs,rfl,rfl,hH,h1,h2,hz,q⟩:=h
 cases rx
 obtain ⟨t,rfl⟩:=ry
 obtain ⟨z,its,n,r,hl,e⟩:=I.Cv hH
 have cW:its.toArray.size*k.toNat<=sizeLine:=by rw [fQ,<- hl];exact hz
 have abZ:¬ its.toArray.size*k.toNat > (2 ^ 63-1)/8:=by
  have:(sizeLine:Nat)<=(2 ^ 63-1)/8:=by decide
  omega
 have ab0:¬ (!Builtin.List.listFitsIndex k)=true:=by
  rw [fitsIndex_both h1 h2]
  exact eK
 have Vs:¬ Builtin.List.listTooLong (its.toArray.size*k.toNat)=true:=by
  rw [Cw cW]
  exact eK
 have ab1:Bm (fun x1 x2=>x1++x2) #[] (ed (if its.toArray.isEmpty=true then 0 else k.toNat) its.toArray)=(ed k.toNat its).flatten.toArray:=by
  have f0:∀ m:Nat,Bm (fun x1 x2=>x1++x2) #[] (ed m its.toArray)=(ed m its).flatten.toArray:=fun m=>by
   have:=foldl_rep its m []
   rw [Gv] at this
   exact this
  rw [f0]
  cases its with
  | nil=>simp
  | cons a r'=>rw [if_neg (by simp)]
 refine wpAny_binaryOp_repeat_ref (T := "list") (U := "int") (by decide) ⟨_,e,rfl⟩ (fun s'=>typeIs_int s' k t) noFill_list_mul F.fills_int_mul F.slot_int_rmul repeat_list F.slot_int_index.lookup
  (call_meets F.slot_int_rmul (typeIs_int s k t) F.entry_int_rmul (F.args_int_rmul_2 _ _) (int___rmul___int_list k t l its.toArray n)
   ⟨e,rfl,⟨_,e,rfl⟩,call_meets F.slot_list_mul ⟨_,e,rfl⟩ F.entry_list_mul (F.args_list_mul_2 _ _) (AutoListH.list___mul___list_int_3 l its.toArray n k t ab0 abZ Vs) ⟨e,?_⟩⟩)
 rw [ab1]
 exact ⟨.ref _,_,I.yW (t':=s.toks) (r.rep k.toNat) (by rw [len_rep,Nat.mul_comm];exact hz),rfl,q _ I.fresh⟩
end
section
variable {prog:Program}{w:World}{A:Around}{E:Value->Shared->Prop}{s:Shared}
set_option maxRecDepth 100000 in
end
section
end
end L2
namespace Att
open PySem PySem.W PySem.Calls PyProof.Rows
theorem kF {P:Params}{h:Heap}:∀ (ns:List Int) (vs:List Value),WellAll P h vs (ns.map WData.int)->IntsAre vs ns:=by
 intro ns
 induction ns with
 | nil=>
  intro vs w
  rw [Bo] at w
  cases w
  exact .nil
 | cons n ns ih=>
  intro vs w
  rw [fR] at w
  cases w with
  | cons a b=>
   cases a
   exact .cons _ _ (ih _ b)
theorem yX {l:OpenLaw}{n:Nat}(hn:l.most=some n) {P:Params}{h:Heap}{args:List WData}{vals:List Value}
  (G4:l.row.toRowW.claim.pre args=true) (hwl:WellAll P h vals args) :
  ∃ a vs ns,vals=[Value.ref a]/\args=[WData.list (ns.map WData.int)]/\h.get? a=some { cls:=.type "list", data:=.seq vs.toArray }/\IntsAre vs ns/\ns.length<=n:=by
 have hsh:WShape.hasAll [] args [.list .int]=true:=(pre_splitW G4).1
 have hc:l.pre.holds [] { args:=args }=true:=(pre_splitW G4).2
 obtain ⟨d,r,rfl,h1,h2⟩:=hasAllW_cons hsh
 obtain rfl:=hasAllW_nil h2
 obtain ⟨xs,rfl,h3⟩:=hasW_list h1
 obtain ⟨ns,rfl⟩:=items_int h3
 have cW:ns.length<=n:=by
  unfold OpenLaw.pre at hc
  have h4:(WTm.not (.lt (.lit (.int (n:Int))) (.len (.arg 0)))).holds [] { args:=[.list (ns.map .int)] }=true:=by
   have h4:=(holds_andW hc).1
   rw [hn] at h4
   exact h4
  have h5:=condW_of h4 (w_not (w_lt w_lit (w_len_list (w_arg rfl))))
  rw [cT] at h5
  refine Nat.le_of_not_lt fun q=>?_
  have q':(n:Int)<((ns.length:Nat):Int):=by omega
  first
   | (rw [decide_eq_true q'] at h5;exact absurd h5 (by decide))
   | (simp at h5;omega)
 cases hwl with
 | cons w1 w2=>
  cases w2
  cases w1 with
  | list ho hall=>exact ⟨_,_,ns,rfl,rfl,ho,kF ns _ hall,cW⟩
theorem yY (l:OpenLaw) (args:List WData):l.row.toRowW.claim.post args (.bool true) args=true:=
 postW_of (r:=l.row.toRowW) (X:=(true == true))
  (show WShape.has [] (.bool true) .bool=true by first | rfl | decide | simp [WShape.has,WShape.arms,WShape.armsAll])
  (show (WTm.eq .res (.lit (.bool true))).value [] { args:=args,res:=some (.bool true),after:=args }=some (.bool (true == true)) from w_eq_bool (w_res rfl) w_lit) rfl
section
variable {prog:Program}{w:World}{A:Around}{E:Value->Shared->Prop}{s:Shared}{K:Frag}
end
end Att
namespace L2
open PySem PySem.Spec PyProof.Rows
theorem nF:∀ {vs:List Value}{ns:List Int},IntsAre vs ns->Vals (ns.map V.int) vs
 | _,_,.nil=>.nil
 | _,_,.cons n t h=>.cons ⟨t,rfl⟩ (nF h)
def OR (H:Hp):Prop:=∀ b,H b=none\/∃ o xs,H b=some (.jM o (.lst xs))
theorem Cz {P:Program}{w:World}{K:bC}{mg mb:Str->Option Value}{CX:Ci}{k:Nat}{fa a:Addr}{fd:FuncData}{x:Str}{sp:Sp}{s₁:Shared}{vs:List Value}{ns:List Int}
  (KX:K.In s₁.heap) (nG:s₁.heap.Ns mainGlobals mg) (hb:s₁.heap.Ns builtinsNs mb) (hbb:∀ x:Str,x ≠ "__name__" -> mb x=bootBuiltins x) (ab2:s₁.heap.NoLimit) (hg:s₁.gens=#[])
  (ha:s₁.heap.get? a=some { cls:=.type "list", data:=.seq vs.toArray }) (hi:IntsAre vs ns) (hl:ns.length<=sizeLine) (hr:bO k callerA)
  (F:∀ base:Heap,K.In base->base.Ns mainGlobals mg->dc P w K mg base CX k fa fd [x] sp) (Vt:∀ (s:Shared) (u:Value),BindsTo s fd ⟨[u],[]⟩ [(x,u)])
  (Uh:∀ H:Hp,OR H->du K H a (ns.map V.int)->sp [.ref a] H (fun v _=>v=.bl true) fun _ _ _=>False)
  (hCX:∀ H e s',CX [] H s₁ (fun _ _ _=>False) e s'->False) :
  codeAny (model P w) callerA (.call (.ref fa) ⟨[.ref a],[]⟩) (fun r s'=>r=.ok (.ret (.bool true))/\OldK s₁.heap s'.heap/\s'.os=s₁.os/\AllBare s'.gens) s₁:=by
 have rv:=nF hi
 have ab3:=hi.length
 have core:∀ H:Hp,OR H->du K H a (ns.map V.int)->iZ P w H s₁.heap->(∀ b,H b≠none->b=a)->(H a≠none->K.lookup a=none) ->
   codeAny (model P w) callerA (.call (.ref fa) ⟨[.ref a],[]⟩) (fun r s'=>r=.ok (.ret (.bool true))/\OldK s₁.heap s'.heap/\s'.os=s₁.os/\AllBare s'.gens) s₁:=by
  intro H hO hS bW hA hK
  have wU:∀ {b:Addr} {o:Obj},s₁.heap.get? b=some o->H b=none->(oN s₁.heap H).get? b=some o:=fun e n=>BX e n
  have Vf:∀ {b:Addr} {o:Obj} {es:Array DictEntry} {ep:Nat},s₁.heap.get? b=some o->o.data=.dict es ep->H b=none:=fun {b o es ep} e d=>by
   cases q:H b with
   | none=>rfl
   | some u=>
    have e':b=a:=hA b (by rw [q];simp)
    subst e'
    rw [ha] at e;cases e
    have d':Data.seq vs.toArray _=Data.dict es ep:=d
    cases d'
  have nsK:∀ {b:Addr} {m:Str->Option Value},s₁.heap.Ns b m->(oN s₁.heap H).Ns b m:=fun {b m} ⟨o,es,ep,e,d,r⟩=>⟨o,es,ep,wU e (Vf e d),d,r⟩
  have hKb:K.In (oN s₁.heap H):=fun b o e=>wU (KX b o e) (by
   cases q:H b with
   | none=>rfl
   | some u=>
    have e':b=a:=hA b (by rw [q];simp)
    subst e'
    rw [hK (by rw [q];simp)] at e;cases e)
  have hM:Mod K mg (oN s₁.heap H):=⟨hKb,nsK nG,⟨mb,nsK hb,hbb⟩,let ⟨mc,h1,h2⟩:=ab2;⟨mc,nsK h1,h2⟩⟩
  have e0:uC P w K mg (oN s₁.heap H) callerA [] s₁ H:=⟨rfl,hM,fun b o e=>GG e,GF (yL _ _),trivial,fun b hb=>absurd (show b∈([]:List Addr) from hb) (by simp),bW,.of_eq hg⟩
  refine codeAny_mono ((F _ hKb (nsK nG)).run callerA [] s₁ H ⟨[.ref a],[]⟩ [.ref a] [.ref a] _ _ hr e0 (Vt s₁ (.ref a)) (.cons rfl .nil) (Uh H hO hS)) fun r s' h=>?_
  cases r with
  | error e=>exact (hCX H e s' h).elim
  | ok fl=>
   cases fl with
   | next=>exact False.elim h
   | brk=>exact False.elim h
   | cont=>exact False.elim h
   | ret u=>
    obtain ⟨v,H',os,bare,un,ab4,r',q⟩:=h
    have q':v=.bl true:=q
    subst q'
    obtain rfl:u=Value.bool true:=r'
    refine ⟨rfl,OldK.of_keep fun b o e=>?_,os,bare⟩
    cases q:H b with
    | none=>exact un.keep b o e q (by intro z;exact absurd (show b∈([]:List Addr) from z) (by simp)) (by simp)
    | some u=>
     rcases hO b with z | ⟨ob,xs,z⟩
     ·rw [q] at z;cases z
     ·have z2:=un.oK b ob _ z
      obtain ⟨e1,_⟩:=bW b _ z
      obtain ⟨e2,_⟩:=ab4 b _ z2
      rw [e] at e1;cases e1
      exact e2
 cases hk:K.lookup a with
 | some o=>
  have e:=KX a o hk
  rw [ha] at e
  cases e
  refine core (fun _=>none) (fun _=>.inl rfl) (.inr ⟨_,vs.toArray,_,hk,rfl,rfl,rfl,by rw [fQ,ab3];exact hl,by simpa using rv⟩) (fun b u z=>by have z':(none:Option HO)=some u:=z;cases z') (fun b z=>absurd rfl z) fun z=>absurd rfl z
 | none=>
  refine core (fun b=>if b=a then some (.jM { cls:=.type "list", data:=.seq vs.toArray } (.lst (ns.map V.int))) else none) (fun b=>?_) (.inl (.inr ⟨{ cls:=.type "list", data:=.seq vs.toArray },if_pos rfl⟩)) (fun b u z=>?_) (fun b z=>?_) fun _=>hk
  ·by_cases hb:b=a
   ·exact .inr ⟨_,_,if_pos hb⟩
   ·exact .inl (if_neg hb)
  ·by_cases hb:b=a
   ·have z':=(if_pos hb).symm.trans z
    cases z'
    subst hb
    exact ⟨ha,by rw [cT];exact hl,vs,_,rv,ha⟩
   ·have z':=(if_neg hb).symm.trans z
    cases z'
  ·by_cases hb:b=a
   ·exact hb
   ·exact absurd (if_neg hb) z
def inClass (s:Stmt) (j:Nat):Stmt:=match s with
 | .ClassDef _ _ _ body _ _ _ _ _ _ _=>body.getD j (.Pass ⟨0,0,0,0⟩)
 | _=>.Pass ⟨0,0,0,0⟩
def jj (s:Stmt):Arguments:=match s with
 | .FunctionDef _ a _ _ _ _ _ _ _ _=>a
 | _=>{ posonlyargs:=[],args:=[],vararg:=none,kwonlyargs:=[],kw_defaults:=[],kwarg:=none,defaults:=[] }
def cu (s:Stmt):List Stmt:=match s with
 | .FunctionDef _ _ b _ _ _ _ _ _ _=>b
 | _=>[]
def aI (s:Stmt):Scope:=match s with
 | .FunctionDef _ _ _ _ _ _ sc _ _ _=>sc
 | _=>{ kind:=.function,names:=[],isGenerator:=false,isCoroutine:=false }
abbrev kG:Ci:=fun _ _ _ _ _ _=>False
abbrev E0:XK:=fun _ _ _=>False
theorem jk {X:Cx}:Passes kG X E0:=fun _ _ _ _ _ _ _ h=>h.elim
structure G5 (K:bC) (x qual:Str) (st:Stmt) (f:Addr) (fd:FuncData):Prop where
 ex:∃ (oc:Value) (od:Option Addr) (kV doc pm:Value) (an:Option Addr) (il ct:Value) (yT:Array (Option Value)),
  fd=yD x qual (jj st) (cu st) (aI st) .none kV doc pm an il ct/\K.lookup f=some ⟨oc,od,.func fd,yT⟩/\A_ K il qual=true
 kp:mH K (.ref f)=true
section
variable {P:Program}{w:World}{K:bC}{mg:Str->Option Value}{base:Heap}
theorem G5.ok {x qual:Str}{st:Stmt}{f:Addr}{fd:FuncData}{N ps:List Str}{k:Nat}{sp:Sp}(F:G5 K x qual st f fd) (S:gh N ps (aI st)) (len:∀ vs H Q E,sp vs H Q E->vs.length=ps.length)
  (Co:∀ (il:Value) (A:Around) (outer:List Env) (s:Shared) (H:Hp) (vs:List V) (Q:VK) (E:XK),bO k (A.deeper (envOfC qual (aI st) s.heap.objs.size f il))->sp vs H Q E ->
   ∃ t,jb (mO kG P w K mg base N qual (aI st) f il A outer s H E).L_ (cu st) t/\t { nx:=fun _ H'=>Q .non H',rt:=Q } (start N vs) H):dc P w K mg base kG (k+1) f fd ps sp:=by
 obtain ⟨oc,od,kV,doc,pm,an,il,ct,yT,rfl,lk,kE⟩:=F.ex
 refine Vg lk kE S len fun A outer s H vs Q E hr Uh=>?_
 obtain ⟨t,h,q⟩:=Co il A outer s H vs Q E hr Uh
 exact ⟨t,h.L_,q⟩
theorem G5.binds {x qual:Str}{st:Stmt}{f:Addr}{fd:FuncData}{ps:List Str}(F:G5 K x qual st f fd)
  (h:∀ (kV doc pm:Value) (an:Option Addr) (il ct:Value) (us:List Value),us.length=ps.length->bindArgs (yD x qual (jj st) (cu st) (aI st) .none kV doc pm an il ct) ⟨us,[]⟩=pure (ps.zip us)):Binds K fd ps []:=by
 obtain ⟨oc,od,kV,doc,pm,an,il,ct,yT,rfl,lk,kE⟩:=F.ex
 exact .all (h kV doc pm an il ct)
end
section
variable {X:Cx}
end
theorem qO {A B:Prop}(h:B):if false=true then A else B:=by
 rw [if_neg eK]
 exact h
theorem qP {A B:Prop}(h:A):if true=true then A else B:=by
 rw [if_pos rfl]
 exact h
def aN (H H':Hp):Prop:=∀ b o,H b=some o->H' b=some o
theorem aN.refl (H:Hp):aN H H:=fun _ _ h=>h
theorem aN.trans {H H1 H2:Hp}(a:aN H H1) (b:aN H1 H2):aN H H2:=fun c o h=>b c o (a c o h)
theorem aN.free {H H':Hp}(e:aN H H') {l:Addr}(h:H' l=LX):H l=LX:=by
 cases q:H l with
 | none=>rfl
 | some o=>
  rw [e l o q] at h
  cases h
theorem aN.seq {K:bC}{H H':Hp}{a:Addr}{xs:List V}(e:aN H H') (h:du K H a xs):du K H' a xs:=by
 rcases h with (h | ⟨o,h⟩) | h
 ·exact .inl (.inl (e _ _ h))
 ·exact .inl (.inr ⟨o,e _ _ h⟩)
 ·exact .inr h
end L2
set_option maxHeartbeats 400000
namespace L2
open PySem PySem.Spec PyProof.Rows
theorem yZ {prog:Program}{w:World}{A:Around}{R:Result->Shared->Prop}{s:Shared}{elt target iter:Expr}{ifs:List Expr}{scope:Scope}{pos:Pos}{it bX:Value}{env:Env}(I:Nat->Shared->Prop)
  (turn:∀ n s,I n s->wpAny (model prog w) A (pyNext it) (fun r s₁=>match r with
   | none=>R (.ok .next) s₁
   | some v=>wpAny (model prog w) A (letOwnedTupleGo target it v) (fun _ s₀=>wpAny (model prog w) A (assign target env v) (fun _ s₂=>
     wpAny (model prog w) A (forIn ifs true fun c r=>if r=true then do let ok <- isTrue c env (eval c env);pure (ForInStep.yield ok) else pure (ForInStep.yield r)) (fun ok s₃=>
      if ok=true then wpAny (model prog w) A (eval elt env) (fun x s₄=>
       wpAny (model prog w) A (call (.builtin "list.append") [bX,x]) (fun _ s₅=>∃ m,m<n/\I m s₅) (fun _ _=>False) s₄) (fun _ _=>False) s₃
      else ∃ m,m<n/\I m s₃) (fun _ _=>False) s₂) (fun _ _=>False) s₀) (fun _ _=>False) s₁) (fun _ _=>False) s)
  (n:Nat) (h:I n s):codeAny (model prog w) A (.compLoop (.ListComp elt [⟨target,iter,ifs,0⟩] scope pos) 0 it bX env) R s:=by
 refine codeAny_loop rfl I (fun n s hI=>?_) n h
 show wpAny _ A ((compTurn (.ListComp elt [⟨target,iter,ifs,0⟩] scope pos) 0 it bX env).onRaise (fun x=>do noteFrame x env;theTreesLotGoes x)) _ _ s
 refine wpAny_noted ?_
 rw [compTurn_list]
 refine wpAny_bind (wpAny_standAt (wpAny_bind (wpAny_mono (turn n s hI) (fun r s₁ h₁=>?_) fun _ _ h'=>h'.elim)))
 cases r with
 | none=>exact wpAny_pure h₁
 | some v=>
  refine wpAny_bind (wpAny_mono h₁ (fun _ s₀ h₀=>wpAny_bind (wpAny_mono h₀ (fun _ s₂ h₂=>wpAny_bind (wpAny_mono h₂ (fun ok s₃ h₃=>?_) fun _ _ h'=>h'.elim)) fun _ _ h'=>h'.elim)) fun _ _ h'=>h'.elim)
  cases ok with
  | false=>exact wpAny_pure ⟨rfl,h₃⟩
  | true=>
   exact wpAny_bind (wpAny_bind (wpAny_mono h₃ (fun x s₄ h₄=>wpAny_bind (wpAny_mono h₄ (fun _ s₅ h₅=>wpAny_pure (wpAny_pure ⟨rfl,h₅⟩)) fun _ _ h'=>h'.elim)) fun _ _ h'=>h'.elim))
theorem fK (env:Env):∀ (names:List (Str × NameKind)) (bX:List (Str × Addr)),(∀ p∈names,p.2=.free->∃ c,env.cells.lookup p.1=some c)->(∀ x c,bX.lookup x=some c->env.cells.lookup x=some c) ->
  ∃ cl,(forIn names bX fun (p:Str × NameKind) (cs:List (Str × Addr))=>if p.2 == .free then do let c <- cellOf env p.1;pure (ForInStep.yield ((p.1,c)::cs)) else pure (ForInStep.yield cs):Sem (List (Str × Addr)))=pure cl /\
   (∀ x c,cl.lookup x=some c->env.cells.lookup x=some c)/\(∀ x c,bX.lookup x=some c->∃ c',cl.lookup x=some c')/\(∀ p∈names,p.2=.free->∃ c,cl.lookup p.1=some c)
 | [],bX,_,ha=>⟨bX,rfl,ha,fun x c e=>⟨c,e⟩,fun _ h=>nomatch h⟩
 | (n,k)::r,bX,hn,ha=>by
  by_cases hk:k=.free
  ·subst hk
   obtain ⟨c,hc⟩:=hn (n,.free) eE rfl
   have Vu:∀ x d,((n,c)::bX).lookup x=some d->env.cells.lookup x=some d:=fun x d e=>by
    rw [iK] at e
    cases hx:x == n with
    | true=>rw [hx] at e;have hx:=eq_of_beq hx;subst hx;cases e;exact hc
    | false=>rw [hx] at e;exact ha x d e
   obtain ⟨cl,e,h1,h2,h3⟩:=fK env r ((n,c)::bX) (fun p hp=>hn p (eZ _ hp)) Vu
   have self:∃ c',cl.lookup n=some c':=h2 n c (by rw [iK];simp)
   refine ⟨cl,?_,h1,fun x d hx=>?_,fun p hp hf=>?_⟩
   ·rw [Gw]
    show ((do let c <- cellOf env n;pure (ForInStep.yield ((n,c)::bX))) >>= _)=_
    unfold cellOf
    rw [hc]
    exact e
   ·cases B7:x == n with
    | true=>have:=eq_of_beq B7;subst this;exact self
    | false=>exact h2 x d (by rw [iK,B7];exact hx)
   ·rcases cA.mp hp with rfl | hp
    ·exact self
    ·exact h3 p hp hf
  ·obtain ⟨cl,e,h1,h2,h3⟩:=fK env r bX (fun p hp=>hn p (eZ _ hp)) ha
   refine ⟨cl,?_,h1,h2,fun p hp hf=>?_⟩
   ·rw [Gw]
    have hb:(k == NameKind.free)=false:=by simpa using hk
    show ((if (k == NameKind.free)=true then _ else pure (ForInStep.yield bX)) >>= _)=_
    rw [hb]
    exact e
   ·rcases cA.mp hp with rfl | hp
    ·exact absurd hf hk
    ·exact h3 p hp hf
theorem mR {scope:Scope}{env:Env}(h:∀ p∈scope.names,p.2=.free->∃ c,env.cells.lookup p.1=some c) :
  ∃ cl,closureFor scope env=pure cl/\(∀ x c,cl.lookup x=some c->env.cells.lookup x=some c)/\∀ p∈scope.names,p.2=.free->∃ c,cl.lookup p.1=some c:=by
 obtain ⟨cl,e,h1,_,h3⟩:=fK env scope.names [] h (fun _ _ e=>nomatch e)
 refine ⟨cl,?_,h1,h3⟩
 unfold closureFor
 exact (congrArg (fun z:Sem (List (Str × Addr))=>z >>= fun cs=>pure cs) e)
abbrev Cx.block (X:Cx) (N:List Str) (scope:Scope) (cl:List (Str × Addr)) (C:Addr) (fp:List Addr) (s:Shared) (H:Hp):Cx where
 prog:=X.prog
 w:=X.w
 K:=X.K
 mg:=X.mg
 base:=X.base
 A:=X.A
 N:=N
 s₀:=s
 H₀:=H
 env:=compEnvC scope cl C X.env
 outer:=X.stack
 stack:=X.stack
 ex:=fp
 fn:=fun _=>false
 calm:=X.calm
 pn:=[]
 xe:=fun _ _=>False
inductive eS (X:Cx) (scope:Scope):List Nat->List Str->Prop where
 | nil:eS X scope [] []
 | cons {j:Nat} {x:Str} {js:List Nat} {xs:List Str}:X.N[j]?=some x->scope.names.lookup x=some .free->X.env.kindOf x=some .cell->eS X scope js xs->eS X scope (j::js) (x::xs)
theorem eS.get {X:Cx}{scope:Scope}:∀ {js:List Nat}{xs:List Str},eS X scope js xs->∀ {i:Nat}{x:Str},xs[i]?=some x->∃ j,js[i]?=some j/\X.N[j]?=some x/\scope.names.lookup x=some .free/\X.env.kindOf x=some .cell
 | _,_,.nil,_,_,e=>by simp at e
 | _,_,.cons h1 h2 h3 _,0,_,e=>by simp at e;subst e;exact ⟨_,rfl,h1,h2,h3⟩
 | _,_,.cons _ _ _ t,i+1,_,e=>by
  obtain ⟨j,a,b⟩:=t.get (i:=i) (by simpa using e)
  exact ⟨j,by simpa using a,b⟩
theorem eS.length {X:Cx}{scope:Scope}:∀ {js:List Nat}{xs:List Str},eS X scope js xs->js.length=xs.length
 | _,_,.nil=>rfl
 | _,_,.cons _ _ _ t=>by simp [t.length]
def cy (k:Nat) (js:List Nat) (σ:St):St:=ed k none++js.map fun j=>(σ[j]?).join
theorem eF {env:Env}(hk:env.scope.kind=.function):∀ {names:List (Str × NameKind)}{x:Str},names.lookup x=some .free->env.kindOf x=some .cell ->
  (names.map fun (n,k)=>if (k == NameKind.free&&env.scope.kind == .function&&env.kindOf n == some .cell) then (n,NameKind.cell) else (n,k)).lookup x=some .cell
 | [],_,h,_=>by simp at h
 | (n,k)::r,x,h,hc=>by
  have ih:=@eF env hk r x
  show kr x ((if (k == NameKind.free&&env.scope.kind == .function&&env.kindOf n == some .cell)=true then (n,NameKind.cell) else (n,k))::_)=_
  cases hx:x == n with
  | true=>
   have e:=eq_of_beq hx
   subst e
   simp only [iK,hx] at h
   cases h
   rw [if_pos (by rw [hk,hc];rfl)]
   simp [iK]
  | false=>
   simp only [iK,hx] at h
   by_cases hq:(k == NameKind.free&&env.scope.kind == .function&&env.kindOf n == some .cell)=true
   ·rw [if_pos hq];simp only [iK,hx];exact ih h hc
   ·rw [if_neg hq];simp only [iK,hx];exact ih h hc
theorem eT {env:Env}:∀ {names:List (Str × NameKind)}{x:Str},(∀ p∈names,p.2≠.cell) ->
  ((names.map fun (n,k)=>if (k == NameKind.free&&env.scope.kind == .function&&env.kindOf n == some .cell) then (n,NameKind.cell) else (n,k)).lookup x=some .cell \/
   (names.map fun (n,k)=>if (k == NameKind.free&&env.scope.kind == .function&&env.kindOf n == some .cell) then (n,NameKind.cell) else (n,k)).lookup x=some .free)->∃ p∈names,p.1=x/\p.2=.free
 | [],_,_,h=>by simp at h
 | (n,k)::r,x,hn,h=>by
  have ih:=@eT env r x (fun p hp=>hn p (eZ _ hp))
  have h:kr x ((if (k == NameKind.free&&env.scope.kind == .function&&env.kindOf n == some .cell)=true then (n,NameKind.cell) else (n,k))::(r.map fun (n,k)=>if (k == NameKind.free&&env.scope.kind == .function&&env.kindOf n == some .cell) then (n,NameKind.cell) else (n,k)))=some .cell \/
   kr x ((if (k == NameKind.free&&env.scope.kind == .function&&env.kindOf n == some .cell)=true then (n,NameKind.cell) else (n,k))::(r.map fun (n,k)=>if (k == NameKind.free&&env.scope.kind == .function&&env.kindOf n == some .cell) then (n,NameKind.cell) else (n,k)))=some .free:=h
  cases hx:x == n with
  | true=>
   have e:=eq_of_beq hx
   subst e
   refine ⟨(x,k),eE,rfl,?_⟩
   by_cases hq:(k == NameKind.free&&env.scope.kind == .function&&env.kindOf x == some .cell)=true
   ·cases k<;>first | rfl | (simp at hq)
   ·rw [if_neg hq] at h
    simp only [iK,beq_self_eq_true] at h
    rcases h with h | h
    ·cases h;exact absurd rfl (hn (x,.cell) eE)
    ·cases h;rfl
  | false=>
   have h':kr x (r.map fun (n,k)=>if (k == NameKind.free&&env.scope.kind == .function&&env.kindOf n == some .cell) then (n,NameKind.cell) else (n,k))=some .cell \/
    kr x (r.map fun (n,k)=>if (k == NameKind.free&&env.scope.kind == .function&&env.kindOf n == some .cell) then (n,NameKind.cell) else (n,k))=some .free:=by
    by_cases hq:(k == NameKind.free&&env.scope.kind == .function&&env.kindOf n == some .cell)=true
    ·rw [if_pos hq] at h;simp only [iK,hx] at h;exact h
    ·rw [if_neg hq] at h;simp only [iK,hx] at h;exact h
   obtain ⟨p,hp,e1,e2⟩:=ih h'
   exact ⟨p,eZ _ hp,e1,e2⟩
structure fq (X:Cx) (scope:Scope):Prop where
 kind:scope.kind=.function
 nocell:∀ p∈scope.names,p.2≠.cell
 names:∀ p∈scope.names,p.2=.local->scope.names.lookup p.1=some .local
 frees:∀ p∈scope.names,p.2=.free->X.env.kindOf p.1=some .cell
variable {X:Cx}{tg:Expr}
section
variable {aa:c9}{σ:St}{H:Hp}{s:Shared}
theorem Inv.enter {ls fs:List Str}{js:List Nat}{scope:Scope}{cl:List (Str × Addr)}{fp:List Addr}{h₁:Heap}{tk:Nat}(I:Inv X aa σ H s) (S:fq X scope) (F:eS X scope js fs)
  (G6:∀ x c,cl.lookup x=some c->X.env.cells.lookup x=some c) (hcf:∀ p∈scope.names,p.2=.free->∃ c,cl.lookup p.1=some c)
  (hf:∀ b∈fp,lg X aa H b) (hfz:∀ b∈fp,b<s.heap.objs.size) (nG:h₁.Ns s.heap.objs.size (fun _=>none)) (hk:∀ b o,s.heap.get? b=some o->h₁.get? b=some o) :
  Inv (X.block (ls++fs) scope cl s.heap.objs.size fp s H) [] (cy ls.length js σ) H { s with heap:=h₁,toks:=tk }:=by
 have aeg:∀ x c,cl.lookup x=some c->c<s.heap.objs.size:=fun x c e=>by
  obtain ⟨v,q⟩:=I.cell x c (G6 x c e)
  exact q.lt
 refine ⟨⟨I.ok.mod,?_,I.ok.glob,I.ok.blt,dS _,fun x y c h1 h2=>I.ok.inj x y c (G6 x c h1) (G6 y c h2),fun x hx=>?_,(fun x c hx=>by cases hx),I.ok.hd,I.ok.frames,.inl rfl,fun b hb=>⟨dU (hfz b hb),fun x c e=>(hf b hb).2.2.2.2.1 x c (G6 x c e)⟩,
  I.bs,gO I.ok.bsz I.sz,fun b o e hb=>?_,fun b hb z=>?_,I.stack,I.wH⟩,rfl,I.bare,Un.kept hk,⟨_,nG,fun i x v e1 e2 e3=>?_⟩,fun x c e=>?_,I.bW.fresh (dS _),fun x c e=>I.freeC x c (G6 x c e),fun p hp=>absurd hp (by simp),I.bW.kept hk,?_⟩
 ·show (relabel scope X.env).kind=.function
  exact S.kind
 ·obtain ⟨p,hp,e1,e2⟩:=eT (env:=X.env) S.nocell hx
  obtain ⟨c,e⟩:=hcf p hp e2
  exact ⟨c,by rw [<- e1];exact e⟩
 ·rcases (hf b hb).2.2.2.1 with z | z
  ·exact I.ok.noex b o e z
  ·exact absurd (iL (Heap.lt_size (I.ok.bs b o e).1) z) (oH _)
 ·rcases cA.mp (I.oO b z) with e | e
  ·exact (hf b hb).2.1 e
  ·exact (hf b hb).2.2.1 e
 ·-- a name of the block that has a value: one from around
  have hi:ls.length<=i:=by
   by_cases hi:i<ls.length
   ·unfold cy at e2
    rw [iI (by simpa using hi),Bd] at e2
    split at e2<;>cases e2
   ·omega
  have e1':fs[i-ls.length]?=some x:=by
   have q:(ls++fs)[i]?=some x:=e1
   rw [fJ hi] at q;exact q
  obtain ⟨j,hj,hN,hfr,hce⟩:=F.get e1'
  have Ui:(σ[j]?).join=some v:=by
   unfold cy at e2
   rw [fJ (by simpa using hi),gb] at e2
   simp only [yF] at e2
   rw [hj] at e2
   simpa using e2
  have hσ:σ[j]?=some (some v):=by
   cases q:σ[j]? with
   | none=>rw [q] at Ui;cases Ui
   | some z=>rw [q] at Ui;have Ui:z=some v:=Ui;rw [Ui]
  obtain ⟨m,_,hl⟩:=I.loc
  obtain ⟨u,r,l⟩:=hl j x v hN hσ (.inr (.inl hce))
  refine ⟨u,r,.inr ⟨.inl (eF I.ok.kind hfr hce),?_⟩⟩
  rcases l with ⟨z,_⟩ | ⟨_,c,e,q⟩
  ·have z':X.env.kindOf x=some .local:=z
   rw [hce] at z';cases z'
  ·obtain ⟨c',e'⟩:=hcf (x,.free) (PySem.mem_of_lookup hfr) rfl
   have ec:=G6 x c' e'
   rw [e] at ec
   have ec:=jN.inj ec
   rw [<- ec] at e'
   obtain ⟨o,ho,hd⟩:=q
   exact ⟨c,e',o,hk _ _ ho,hd⟩
 ·obtain ⟨v,o,ho,hd⟩:=I.cell x c (G6 x c e)
  exact ⟨v,o,hk _ _ ho,hd⟩
 ·unfold cy
  show _=(ls++fs).length
  rw [bJ,yF,cT,bJ,F.length]
end
section
def F_ (X:Cx) (ifs:List Expr) (t:TT):Prop:=
 ∀ (aa:c9) (s:Shared) (σ:St) (H:Hp) (Q:Bool->Hp->Prop),Inv X aa σ H s->t σ H Q ->
  wpAny (model X.prog X.w) X.A (forIn ifs true fun c r=>if r=true then do let ok <- isTrue c X.env (eval c X.env);pure (ForInStep.yield ok) else pure (ForInStep.yield r)) (TP X aa σ Q) X.xe s
def ab5:TT:=fun _ H Q=>Q true H
theorem G7:F_ X [] ab5:=fun _ _ _ H _ I h=>wpAny_tests_nil ⟨H,I,h⟩
theorem G8 {c:Expr}{t:TT}(h:PT X c t):F_ X [c] t:=fun aa s σ H Q I hw=>wpAny_tests_one (h aa s σ H Q I hw)
def cL:St->St->Prop
 | [],[]=>True
 | none::a,_::b=>cL a b
 | some v::a,some w::b=>v=w/\cL a b
 | _,_=>False
theorem cL.len:∀ {a b:St},cL a b->a.length=b.length
 | [],[],_=>rfl
 | [],_::_,h=>h.elim
 | none::a,[],h=>h.elim
 | some _::a,[],h=>h.elim
 | none::a,x::b,h=>by simp [cL.len (a:=a) (b:=b) h]
 | some _::a,none::b,h=>h.elim
 | some _::a,some _::b,h=>by simp [cL.len (a:=a) (b:=b) h.2]
theorem cL.get:∀ {a b:St},cL a b->∀ (i:Nat) (v:V),a[i]?=some (some v)->b[i]?=some (some v)
 | [],[],_,_,_,e=>e
 | [],_::_,h,_,_,_=>h.elim
 | none::a,[],h,_,_,_=>h.elim
 | some _::a,[],h,_,_,_=>h.elim
 | none::a,x::b,h,0,v,e=>by simp at e
 | none::a,x::b,h,i+1,v,e=>by
  have:=cL.get (a:=a) (b:=b) h i v (by simpa using e)
  simpa using this
 | some _::a,none::b,h,_,_,_=>h.elim
 | some y::a,some z::b,h,0,v,e=>by have e1:=h.1;subst e1;simpa using e
 | some y::a,some z::b,h,i+1,v,e=>by
  have:=cL.get (a:=a) (b:=b) h.2 i v (by simpa using e)
  simpa using this
@[irreducible] def tComp (wi:TI) (k:Nat) (js:List Nat) (g:TG) (tt:TT) (te:TE):TE:=fun σ H Q=>wi σ H fun J H1=>∀ D,H1 D=none->∃ W:Nat->Nat->List V->Hp->Prop,(∃ m,W 0 m [] (upd H1 D (.lst []))) /\
 ∀ i m ys H,W i m ys H->(J.stop i H/\Q (.ref D) H)\/(J.go i H/\∀ x H',J.yld i H x H'->g x (cy k js σ) H' fun σ2 H2=>cL (cy k js σ) σ2/\tt σ2 H2 fun b H3=>
  if b=true then te σ2 H3 fun y H4=>H4 D=some (.lst ys)/\ys.length<sizeLine/\∃ m',m'<m/\W (i+1) m' (ys++[y]) (upd H4 D (.lst (ys++[y])))
  else ∃ m',m'<m/\W (i+1) m' ys H3)
theorem nH {scope:Scope}{ls fs:List Str}{js:List Nat}{tg iter elt:Expr}{ifs:List Expr}{pos bR:Pos}{wi:TI}{g:TG}{tt:TT}{te:TE}{use:Option (Value->Sem Unit)}{Qo:Value->Shared->Prop}
  (hc:X.calm=true) (S:fq X scope) (F:eS X scope js fs) (hi:PI X tg iter wi)
  (hg:∀ cl C fp s H,PG (X.block (ls++fs) scope cl C fp s H) tg g) (ht:∀ cl C fp s H,F_ (X.block (ls++fs) scope cl C fp s H) ifs tt) (he:∀ cl C fp s H,PE (X.block (ls++fs) scope cl C fp s H) elt te)
  {aa:c9} {s:Shared} {σ:St} {H:Hp} {Q:VK} (I:Inv X aa σ H s) (h:tComp wi ls.length js g tt te σ H Q)
  (fin:∀ D C s' H' m,Inv X aa σ H' s'->lg X aa H' C->s'.heap.Ns C m->Q (.ref D) H'->compPost (model X.prog X.w) X.A X.xe use Qo (.ref D) C (.ok .next) s')
  (hs:∀ x,foldedSetIterable iter X.env x=pure x) :
  wpAny (model X.prog X.w) X.A (comprehension (.ListComp elt [⟨tg,iter,ifs,0⟩] scope pos) scope X.env bR (newList []) false (eval iter X.env) use) Qo X.xe s:=by
 unfold tComp at h
 obtain ⟨cl,ecl,h1,h2⟩:=mR (scope:=scope) (env:=X.env) (fun p hp hf=>I.ok.has p.1 (.inl (S.frees p hp hf)))
 refine wpAny_comprehension_free rfl hs ecl S.kind S.names (bS (hi aa s σ H _ I h) fun v s1 q1=>bS q1 fun itv s2 q2=>?_)
 obtain ⟨it,fp,tn,J,H2,e,I2,T,UY,f2,q⟩:=q2
 subst e
 refine wpAny_newObj_type (wpAny_newFunctionEnv S.nocell (by intro y hy;simp at hy) (fun h₁ hns₁ hsb₁=>?_) S.kind)
 have I3:Inv X aa σ (upd H2 s2.heap.objs.size (.lst [])) { s2 with heap:=s2.heap.push { cls:=.type "list", dict:=none,data:=.seq ([]:List Value).toArray } }:=I2.yW (t':=s2.toks) .nil (gD _)
 obtain ⟨W,⟨m0,w0⟩,step⟩:=q s2.heap.objs.size I2.fresh
 dsimp only at hns₁ hsb₁ ⊢
 generalize hs3:({ s2 with heap:=s2.heap.push { cls:=.type "list", dict:=none,data:=.seq ([]:List Value).toArray } }:Shared)=s3 at I3
 have es3:s3.heap=s2.heap.push { cls:=.type "list", dict:=none,data:=.seq ([]:List Value).toArray }:=by rw [<- hs3]
 rw [<- es3] at hns₁ hsb₁ ⊢
 have old:∀ b o,s3.heap.get? b=some o->h₁.get? b=some o:=fun b o e=>hsb₁.extBut b o (dU (Heap.lt_size e)) (Heap.get?_push_of_some _ e)
 have up:∀ b o,s2.heap.get? b=some o->s3.heap.get? b=some o:=fun b o e=>by rw [es3];exact Heap.get?_push_of_some _ e
 have fz2:∀ b∈fp,b<s2.heap.objs.size:=fun b hb=>by
  obtain ⟨o,e,_⟩:=T.obj 0 _ UY b hb
  exact Heap.lt_size e
 have f3:∀ b∈fp,lg X aa (upd H2 s2.heap.objs.size (.lst [])) b:=fun b hb=>⟨by rw [au (dU (fz2 b hb))];exact (f2 b hb).1,(f2 b hb).2⟩
 have fz3:∀ b∈fp,b<s3.heap.objs.size:=fun b hb=>by
  obtain ⟨o,e,_⟩:=T.obj 0 _ UY b hb
  exact Heap.lt_size (up b o e)
 have I4:=I3.enter (ls:=ls) (h₁:=h₁) (tk:=s2.toks+([]:List (Str × Value)).length) S F h1 h2 f3 fz3 (by simpa using hns₁) old
 have st4:tn 0 h₁:=T.keep 0 _ _ UY fun b _ o e=>old b o (up b o e)
 generalize hC:s3.heap.objs.size=C at I4 hns₁ hsb₁ ⊢
 generalize hH3:upd H2 s2.heap.objs.size (.lst [])=H3 at I3 I4 f3 w0
 have ur:∀ {H':Hp},(∀ b∈fp,H' b=none)->∀ b∈fp,lg (X.block (ls++fs) scope cl C fp s3 H3) [] H' b:=fun hn b hb=>
  ⟨hn b hb,by rw [<- hC];exact dU (fz3 b hb),fun z=>(cA.mp (I3.oO b z)).elim (f3 b hb).2.1 (f3 b hb).2.2.1,.inl hb,fun x c e=>(f3 b hb).2.2.2.2.1 x c (h1 x c e),fun p hp=>absurd hp (by simp)⟩
 have AS:∀ b∈fp,(b∈X.ex\/X.s₀.heap.objs.size<=b)/\b≠X.env.locals/\(∀ x c,X.env.cells.lookup x=some c->c≠b)/\∀ p∈X.pn++aa,p.1≠b:=fun b hb=>⟨(f3 b hb).2.2.2.1,(f3 b hb).2.1,(f3 b hb).2.2.2.2.1,(f3 b hb).2.2.2.2.2⟩
 have loop:∀ s4:Shared,s4={ s3 with heap:=h₁,toks:=s2.toks+([]:List (Str × Value)).length } ->
   codeAny (model X.prog X.w) X.A (.compLoop (.ListComp elt [⟨tg,iter,ifs,0⟩] scope pos) 0 (.ref it) (.ref s2.heap.objs.size) (compEnvC scope cl C X.env)) (compPost (model X.prog X.w) X.A X.xe use Qo (.ref s2.heap.objs.size) C) s4:=by
  rintro s4 rfl
  refine yZ (fun n s'=>∃ i ys H',Inv (X.block (ls++fs) scope cl C fp s3 H3) [] (cy ls.length js σ) H' s'/\tn i s'.heap/\(∀ b∈fp,H' b=none)/\W i n ys H') ?_ m0 ⟨0,[],H3,I4,st4,fun b hb=>(f3 b hb).1,w0⟩
  rintro n s5 ⟨i,ys,H5,I5,GQ,fr5,w5⟩
  rcases step i n ys H5 w5 with ⟨stop,qf⟩ | ⟨go,nxt⟩
  ·refine bS (T.done (X.block (ls++fs) scope cl C fp s3 H3) rfl rfl rfl hc i [] s5 _ H5 (fun _ _=>False) I5 (ur fr5) GQ stop) fun r s6 zz=>?_
   obtain ⟨hr,I6⟩:=zz
   subst hr
   obtain ⟨m,hm,_⟩:=id I6.loc
   have J6:Inv X aa σ H5 s6:=I3.UE (ch:=fp) I6.os I6.base I6.bW I6.bare AS
   exact fin _ C s6 H5 m J6 (I3.um (GF hC) I6.free) hm qf
  ·refine bS (T.item (X.block (ls++fs) scope cl C fp s3 H3) rfl rfl rfl hc i [] s5 _ H5 (fun _ _=>False) I5 (ur fr5) GQ go) fun r s6 zz=>?_
   obtain ⟨u,hr,h6⟩:=zz
   subst hr
   refine bS h6 fun _ s7 zz=>?_
   obtain ⟨x,H7,I7,r7,y7,st7,fr7⟩:=zz
   have I7':=I7.pinned (ur fr7) (T.obj _ _ st7)
   refine bS (hg cl C fp s3 H3 _ s7 _ H7 x u _ I7' r7 (nxt x H7 y7)) fun _ s8 zz=>?_
   obtain ⟨σ8,H8,I8,kp,q8⟩:=zz
   have again:∀ {s9:Shared} {H9:Hp},Inv (X.block (ls++fs) scope cl C fp s3 H3) ([]++lh fp s7.heap) σ8 H9 s9 ->
     Inv (X.block (ls++fs) scope cl C fp s3 H3) [] (cy ls.length js σ) H9 s9/\tn (i+1) s9.heap/\∀ b∈fp,H9 b=none:=fun {s9 H9} I9=>by
    refine ⟨I9.jd.weak kp.len kp.get,T.keep _ _ _ st7 fun b hb o e=>(I9.pin (b,o) (k_ _ (k_ _ (gf hb e)))).1,fun b hb=>?_⟩
    obtain ⟨o,e,d⟩:=T.obj _ _ st7 b hb
    exact (I9.pin (b,o) (k_ _ (k_ _ (gf hb e)))).2.1
   refine bS (ht cl C fp s3 H3 _ s8 σ8 H8 _ I8 q8) fun b s9 zz=>?_
   obtain ⟨H9,I9,q9⟩:=zz
   cases b with
   | false=>
    obtain ⟨m',hm,w9⟩:=q9
    obtain ⟨a1,a2,a3⟩:=again I9
    exact ⟨m',hm,i+1,ys,H9,a1,a2,a3,w9⟩
   | true=>
    refine bS (he cl C fp s3 H3 _ s9 σ8 H9 _ I9 q9) fun xv CA zz=>?_
    obtain ⟨y,H10,I10,r10,hD,hz,m',hm,w10⟩:=zz
    refine bS (nE (X:=X.block (ls++fs) scope cl C fp s3 H3) _ CA σ8 H10 (.ref s2.heap.objs.size) [y] (.ref s2.heap.objs.size) [xv] (fun _ H11=>H11=upd H10 s2.heap.objs.size (.lst (ys++[y]))) I10 rfl (.cons r10 .nil)
     ⟨_,ys,y,rfl,rfl,hD,hz,rfl⟩) fun _ s11 ⟨z,H11,I11,_,e11⟩=>?_
    subst e11
    obtain ⟨a1,a2,a3⟩:=again I11
    exact ⟨m',hm,i+1,ys++[y],_,a1,a2,a3,w10⟩
 have aeh:({ newEnv scope C X.env.globals cl X.env.qual none .none (some X.env) builtinsNs with scope:=relabel scope X.env }:Env)=compEnvC scope cl C X.env:=rfl
 exact codeAny_compStart_list (loop _ (by rw [<- hs3])) (T.self X.A 0 _ _ _ st4 (loop _ (by rw [<- hs3])))
variable {scope:Scope}{ls fs:List Str}{js:List Nat}{iter elt:Expr}{ifs:List Expr}{pos:Pos}{wi:TI}{g:TG}{tt:TT}{te:TE}
theorem G9 (ls:List Str) (hc:X.calm=true) (S:fq X scope) (F:eS X scope js fs) (hi:PI X tg iter wi)
  (hg:∀ cl C fp s H,PG (X.block (ls++fs) scope cl C fp s H) tg g) (ht:∀ cl C fp s H,F_ (X.block (ls++fs) scope cl C fp s H) ifs tt) (he:∀ cl C fp s H,PE (X.block (ls++fs) scope cl C fp s H) elt te)
  (hs:∀ x,foldedSetIterable iter X.env x=pure x:=by intro _;rfl):PE X (.ListComp elt [⟨tg,iter,ifs,0⟩] scope pos) (tComp wi ls.length js g tt te):=by
 intro aa s σ H Q I h
 rw [eval_ListComp]
 refine nH (use:=none) hc S F hi hg ht he I h ?_ hs
 intro D C s' H' m J fC hm q
 exact ⟨m,hm,fun h' G_=>⟨.ref D,H',J.turned (t':=s'.toks) (it:=C) (fun b o hb e=>(G_.2 b hb).trans e) fC.1 fC.2.1 fC.2.2.2.1 fC.2.2.2.2.1 fC.2.2.2.2.2,rfl,q⟩⟩
theorem wV {i:Nat}{x:Str}{px OS:Pos}(ls:List Str) (hc:X.calm=true) (hN:X.N.Nodup) (hix:X.N[i]?=some x) (hx:Loc X.env.scope x) (S:fq X scope) (F:eS X scope js fs) (hi:PI X tg iter wi)
  (hg:∀ cl C fp s H,PG (X.block (ls++fs) scope cl C fp s H) tg g) (ht:∀ cl C fp s H,F_ (X.block (ls++fs) scope cl C fp s H) ifs tt) (he:∀ cl C fp s H,PE (X.block (ls++fs) scope cl C fp s H) elt te)
  (hs:∀ x,foldedSetIterable iter X.env x=pure x:=by intro _;rfl) (hf:X.fn x=true\/X.env.scope.names.lookup x=some .local:=by first | exact .inl rfl | exact .inr rfl | assumption)
  (hsw:swapsWith (.ListComp elt [⟨tg,iter,ifs,0⟩] scope pos) (some (.Name x px)) OS.line X.env=pure true:=by rfl) :
  PS X (.Assign [.Name x px] (.ListComp elt [⟨tg,iter,ifs,0⟩] scope pos) OS) (fun D σ H=>tComp wi ls.length js g tt te σ H fun v H1=>D.nx (σ.set i (some v)) H1):=by
 intro aa s σ H D I h
 rw [exec_Assign_Name_used _ _ _ _ hsw]
 refine wpAny_bind (wpAny_standAt (wpAny_bind ?_))
 show wpAny _ X.A (do let _ <- comprehension (.ListComp elt [⟨tg,iter,ifs,0⟩] scope pos) scope X.env _ (newList []) false (eval iter X.env) (some (assign (.Name x px) X.env))) _ _ s
 refine wpAny_bind (wpAny_mono (nH (use:=some (assign (.Name x px) X.env)) (Qo:=fun _ s'=>SP X aa D .next s') hc S F hi hg ht he I h ?_ hs) (fun _ s' hq=>wpAny_pure (wpAny_pure hq)) fun _ _ e=>e)
 intro D' C s' H' m J fC hm q
 show wpAny _ X.A (assign (.Name x px) X.env (.ref D')) _ _ _
 refine wpAny_assign_Name (nj J hN hix hx (show RelV (.ref D') (.ref D') from rfl) (fun Ve J' ⟨a,hsb,ha⟩=>?_) hf)
 have ne:C≠a:=by
  rcases ha with e | e
  ·rw [e];exact fC.2.1
  ·exact Ne.symm (fC.2.2.2.2.1 x a e)
 refine ⟨m,hm.sameBut hsb ne,fun h' G_=>?_⟩
 exact ⟨_,H',J'.turned (t':=Ve.toks) (it:=C) (fun b o hb e=>(G_.2 b hb).trans e) fC.1 fC.2.1 fC.2.2.2.1 fC.2.2.2.2.1 fC.2.2.2.2.2,q⟩
end
section
theorem CB {P:Program}{w:World}{K:bC}{x:Str}{px:Pos}{it:Addr}{n:Nat}{Pv:Nat->Value->Prop}{St:Nat->Heap->Prop}(val:Nat->V->Prop)
  (W:∀ A:Around,A.handled=none->Walks P w A it [it] [it] n Pv St) (hv:∀ i v,Pv i v->∃ y,RelV y v/\val i y)
  (ho:∀ i h,St i h->∃ o,h.get? it=some o/\∀ v,o.data≠.cell v) (hk:∀ i (h h':Heap),St i h->(∀ o,h.get? it=some o->h'.get? it=some o)->St i h')
  (Vv:∀ (A:Around) (i:Nat) (s:Shared) (Q:Value->Shared->Prop) (E:Value->Shared->Prop),St i s.heap->Q (.ref it) s->wpAny (model P w) A (pyIter (.ref it)) Q E s) :
  Turn P w K (.Name x px) ⟨fun i _=>i<n,fun i H y H'=>H'=H/\val i y,fun i _=>i=n⟩ [it] it St where
 mem:=by simp
 obj:=fun i h st b hb=>by
  have e:b=it:=by simpa using hb
  subst e
  exact ho i h st
 keep:=fun i h h' st k=>hk i h h' st (k it (by simp))
 item:=by
  intro X hP hw hK hc i aa s σ H E I hf st hg
  subst hP hw hK
  obtain ⟨f0,f1,f2,f3,f4,f5⟩:=hf it (by simp)
  refine (W X.A (I.ok.hd hc)).item i s _ _ hg st fun v h' tk hPv AU kk=>?_
  obtain ⟨y,ry,vy⟩:=hv i v hPv
  have I1:Inv X aa σ H { s with heap:=h',toks:=tk }:=I.turned (fun b o hb e=>kk b o (by simpa using hb) e) f0 f1 f3 f4 f5
  exact ⟨v,rfl,wpAny_pure ⟨y,H,I1,ry,⟨rfl,vy⟩,AU,fun b hb=>(hf b hb).1⟩⟩
 done:=by
  intro X hP hw hK hc i aa s σ H E I hf st hg
  subst hP hw hK
  obtain ⟨f0,f1,f2,f3,f4,f5⟩:=hf it (by simp)
  have hg:i=n:=hg
  rw [hg] at st
  exact (W X.A (I.ok.hd hc)).done s _ _ st fun h' tk kk=>⟨rfl,I.turned (fun b o hb e=>kk b o (by simpa using hb) e) f0 f1 f3 f4 f5⟩
 self:=Vv
def Its (z:Str):It:=⟨fun i _=>i<z.cps.size,fun i H y H'=>H'=H/\∃ c,z.cps[i]?=some c/\y=.str ⟨#[c]⟩,fun i _=>i=z.cps.size⟩
def ab6 (tl:TE):TI:=fun σ H R=>tl σ H fun v H1=>∃ z,v=.str z/\R (Its z) H1
theorem OT {l:Expr}{tl:TE}{x:Str}{px:Pos}(hl:PE X l tl):PI X (.Name x px) l (ab6 tl):=by
 intro aa s σ H R I h
 refine bS (hl aa s σ H _ I h) fun v s1 zz=>?_
 obtain ⟨y,H1,I1,r1,q1⟩:=zz
 obtain ⟨z,rfl,q⟩:=q1
 obtain ⟨t,rfl⟩:=r1
 have fpk:∀ b∈[s1.heap.objs.size],lg X aa H1 b:=fun b hb=>by
  have e:b=s1.heap.objs.size:=by simpa using hb
  subst e
  exact I1.um (dS _) (I1.bW.fresh (dS _))
 have hv:∀ i v,SignAt z i v->∃ y,RelV y v/\∃ c,z.cps[i]?=some c/\y=.str ⟨#[c]⟩:=fun i v ⟨c,u,e,ev⟩=>⟨.str ⟨#[c]⟩,⟨u,ev⟩,c,e,rfl⟩
 have CF:∀ (ty:String) (i:Nat) (h:Heap),h.IsStrIter s1.heap.objs.size ty z t i->∃ o,h.get? s1.heap.objs.size=some o/\∀ v,o.data≠.cell v:=fun ty i h ⟨o,e,_,d⟩=>⟨o,e,fun v q=>by rw [d] at q;cases q⟩
 have kp:∀ (ty:String) (i:Nat) (h h':Heap),h.IsStrIter s1.heap.objs.size ty z t i->(∀ o,h.get? s1.heap.objs.size=some o->h'.get? s1.heap.objs.size=some o)->h'.IsStrIter s1.heap.objs.size ty z t i:=fun ty i h h' ⟨o,e,r⟩ k=>⟨o,k o e,r⟩
 cases ha:z.cps.all (· < 128)
 ·refine wpAny_pyIter_wide ha ?_
  exact ⟨s1.heap.objs.size,[s1.heap.objs.size],_,_,H1,rfl,I1.kept (t':=s1.toks) fun b o e=>Heap.get?_push_of_some _ e,
   CB (fun i y=>∃ c,z.cps[i]?=some c/\y=.str ⟨#[c]⟩) (fun A hA=>Walks.strWide hA _ z t) hv (CF _) (kp _) (fun _ _ _ _ _ st h=>wpAny_pyIter_striter_wide st h),⟨_,Heap.get?_push_size _ rfl,rfl,rfl⟩,fpk,q⟩
 ·refine wpAny_pyIter_ascii ha ?_
  exact ⟨s1.heap.objs.size,[s1.heap.objs.size],_,_,H1,rfl,I1.kept (t':=s1.toks) fun b o e=>Heap.get?_push_of_some _ e,
   CB (fun i y=>∃ c,z.cps[i]?=some c/\y=.str ⟨#[c]⟩) (fun A hA=>Walks.strAscii hA _ z t) hv (CF _) (kp _) (fun _ _ _ _ _ st h=>wpAny_pyIter_striter_ascii st h),⟨_,Heap.get?_push_size _ rfl,rfl,rfl⟩,fpk,q⟩
end
structure Det (J:It) (src:List V) (I:Hp->Prop):Prop where
 go:∀ i H,I H->i<src.length->J.go i H
 yld:∀ i H x H',I H->i<src.length->J.yld i H x H'->H'=H/\src[i]?=some x
 stop:∀ i H,I H->i=src.length->J.stop i H
theorem Ha (z:Str):Det (Its z) (z.cps.toList.map fun c=>V.str ⟨#[c]⟩) (fun _=>True):=
 ⟨fun i H _ h=>by have h:i<(z.cps.toList.map fun c=>V.str ⟨#[c]⟩).length:=h;rw [cT,Array.length_toList] at h;exact h,
  fun i H x H' _ _ y=>by
  obtain ⟨e,c,hc,ex⟩:=y
  refine ⟨e,?_⟩
  rw [gb,Array.getElem?_toList,hc,ex]
  rfl,
  fun i H _ h=>by rw [cT,Array.length_toList] at h;exact h⟩
theorem y9 (lo:Int) (n:Nat):Det (UT lo n) ((gM n).map fun k=>V.int (lo+(k:Nat))) (fun _=>True):=
 ⟨fun i H _ h=>by have h:i<((gM n).map fun k=>V.int (lo+(k:Nat))).length:=h;rw [cT,Gx] at h;exact h,
  fun i H x H' _ hi y=>by
  obtain ⟨e,ex⟩:=y
  refine ⟨e,?_⟩
  have hi:i<n:=by rw [cT,Gx] at hi;exact hi
  rw [gb,List.getElem?_range hi,ex]
  rfl,
  fun i H _ h=>by rw [cT,Gx] at h;exact GF h.symm⟩
section
end
section
theorem mS:wQ X "str.startswith" (fun x vs H Q=>∃ a b,x=.str a/\vs=[.str b]/\Q (.bl (Txt.startswith a b)) H):=by
 intro aa s σ H x vs v us Q I rx rv h
 obtain ⟨a,b,rfl,rfl,q⟩:=h
 obtain ⟨t,rfl⟩:=rx
 obtain ⟨u,rfl,⟨t',rfl⟩⟩:=rv.one
 exact SC.startswith ⟨.bl _,H,I,rfl,q⟩
theorem qQ:wQ X "str.endswith" (fun x vs H Q=>∃ a b,x=.str a/\vs=[.str b]/\Q (.bl (Txt.endswith a b)) H):=by
 intro aa s σ H x vs v us Q I rx rv h
 obtain ⟨a,b,rfl,rfl,q⟩:=h
 obtain ⟨t,rfl⟩:=rx
 obtain ⟨u,rfl,⟨t',rfl⟩⟩:=rv.one
 exact SC.endswith ⟨.bl _,H,I,rfl,q⟩
theorem CG:wQ X "str.find" (fun x vs H Q=>∃ a b i,x=.str a/\vs=[.str b,.int i]/\Q (.int (Txt.find3 a b i)) H):=by
 intro aa s σ H x vs v us Q I rx rv h
 obtain ⟨a,b,i,rfl,rfl,q⟩:=h
 obtain ⟨t,rfl⟩:=rx
 obtain ⟨u,u',rfl,⟨t',rfl⟩,⟨t'',rfl⟩⟩:=rv.two
 exact SC.find3 ⟨.int _,H,I.tok _,⟨_,rfl⟩,q⟩
theorem lu:∀ {ys:List Str}{us:List Value},Vals (ys.map V.str) us->StrsAre us ys
 | [],_,.nil=>.nil
 | y::ys,_,.cons ⟨t,e⟩ r=>by
  subst e
  exact .cons y t (lu (ys:=ys) r)
theorem Hb:wQ X "str.join" (fun x vs H Q=>∃ sep l ys,x=.str sep/\vs=[.ref l]/\du X.K H l (ys.map V.str)/\(ys.map (·.length)).sum+ys.length*sep.length<=16777216/\Q (.str (Str.join sep ys)) H):=by
 intro aa s σ H x vs v us Q I rx rv h
 obtain ⟨sep,l,ys,rfl,rfl,hl,hz,q⟩:=h
 obtain ⟨t,rfl⟩:=rx
 obtain ⟨u,rfl,ru⟩:=rv.one
 cases ru
 obtain ⟨its,r,p,_⟩:=I.list hl
 refine join_list p.isList (ys:=ys) (by simpa using lu r) hz fun t' k=>?_
 have e:Txt.join sep ys=Str.join sep ys:=StrLaws.glued_eq_join sep ys
 rw [e]
 exact ⟨.str _,H,I.tok _,⟨_,rfl⟩,q⟩
theorem OU:Mf X (fun x lo hi H Q=>∃ z,x=.str z/\z.length<=sizeLine/\Q (.str (Txt.slice z lo hi)) H):=by
 intro aa s σ H x v vl vu lo hi sl Q I rx hs pl pu h
 obtain ⟨z,rfl,hz,q⟩:=h
 obtain ⟨t,rfl⟩:=rx
 refine ⟨"str", _,F.slot_str_getitem.lookup,typeIs_str _ _ _,?_⟩
 obtain ⟨o,ho,hc,hd⟩:=hs
 cases pl with
 | none=>
  cases pu with
  | none=>exact wpAny_getItem_str_slice (l:=none) (u:=none) (st:=none) ⟨o,ho,hc,hd⟩ rfl (post_val_or_str ⟨gO (Txt.slice_le z _ _) hz,fun t' k=>⟨.str _,H,I.tok _,⟨_,rfl⟩,q⟩⟩)
  | int j tj=>exact wpAny_getItem_str_slice (l:=none) (u:=some (j,tj)) (st:=none) ⟨o,ho,hc,hd⟩ rfl (post_val_or_str ⟨gO (Txt.slice_le z _ _) hz,fun t' k=>⟨.str _,H,I.tok _,⟨_,rfl⟩,q⟩⟩)
 | int i ti=>
  cases pu with
  | none=>exact wpAny_getItem_str_slice (l:=some (i,ti)) (u:=none) (st:=none) ⟨o,ho,hc,hd⟩ rfl (post_val_or_str ⟨gO (Txt.slice_le z _ _) hz,fun t' k=>⟨.str _,H,I.tok _,⟨_,rfl⟩,q⟩⟩)
  | int j tj=>exact wpAny_getItem_str_slice (l:=some (i,ti)) (u:=some (j,tj)) (st:=none) ⟨o,ho,hc,hd⟩ rfl (post_val_or_str ⟨gO (Txt.slice_le z _ _) hz,fun t' k=>⟨.str _,H,I.tok _,⟨_,rfl⟩,q⟩⟩)
theorem Mj:fj X (compareOp .IsNot) (fun x y H Q=>∃ a b,x=.bl a/\y=.bl b/\Q (.bl (a != b)) H):=by
 intro aa s σ H x y v u Q I rx ry h
 obtain ⟨a,b,rfl,rfl,q⟩:=h
 cases rx
 cases ry
 exact isnot_bool (gR I q rfl)
theorem qR:fk X (.builtin "isinstance") (fun xs H Q=>∃ x T t b,xs=[x,.ty T]/\iz X.K H x t/\oB X.K t (.type T)=some b/\Q (.bl b) H):=by
 intro aa s σ H xs us Q I r h
 obtain ⟨x,T,t,b,rfl,ty,e,q⟩:=h
 obtain ⟨u,u',rfl,ru,Vw⟩:=vals2 r
 cases Vw
 exact nu I ru ty e fun tk=>⟨.bl b,H,I.tok _,rfl,q⟩
theorem ly {ks:List Bool}{its:List Value}(r:Vals (ks.map V.bl) its) (A:Around):TruthOf X.prog X.w A (fun i v=>its.toArray[i]?=some v) (fun i=>ks.getD i true):=by
 intro i v s Q E hv hQ
 have hv:its[i]?=some v:=by simpa using hv
 have hi:i<ks.length:=by
  have h1:=(cU.mp hv).1
  have h2:=r.length
  rw [cT] at h2
  omega
 obtain ⟨u,e,ru⟩:=r.get (i:=i) (x:=.bl ks[i]) (by rw [gb,dR hi];rfl)
 rw [hv] at e
 cases e
 cases ru
 have g:ks.getD i true=ks[i]:=by rw [Gy,dR hi];rfl
 have hQ:Q (ks.getD i true) s:=hQ
 rw [g] at hQ
 exact wpAny_truthy_bool hQ
theorem range_all (ks:List Bool):(gM ks.length).all (fun i=>ks.getD i true)=ks.all id:=by
 induction ks with
 | nil=>rfl
 | cons k ks ih=>
  rw [cQ,Bp,ee,Lo,ee,<- ih]
  rfl
theorem range_any (ks:List Bool):(gM ks.length).any (fun i=>ks.getD i true)=ks.any id:=by
 induction ks with
 | nil=>rfl
 | cons k ks ih=>
  rw [cQ,Bp,i8,Gz,i8,<- ih]
  rfl
theorem CH (hc:X.calm=true):fk X (.builtin "all") (fun xs H Q=>∃ (p:Addr) (ks:List Bool),xs=[.ref p]/\du X.K H p (ks.map V.bl)/\Q (.bl (ks.all id)) H):=by
 intro aa s σ H xs us Q I r h
 obtain ⟨p,ks,rfl,hp,q⟩:=h
 obtain ⟨u,rfl,ru⟩:=vals1 r
 cases ru
 obtain ⟨its,rv,pl,hz⟩:=I.list hp
 have cW:=rv.length
 rw [cT] at cW
 refine call_all_walk (wpAny_pyIter_list pl.isList ?_)
 have iE:p≠s.heap.objs.size:=let ⟨_,e,_⟩:=pl.isList;dU (Heap.lt_size e)
 refine ⟨s.heap.objs.size,_,[s.heap.objs.size],its.toArray.size,_,_,fun i=>ks.getD i true,rfl,Walks.list (show X.A.in1.handled=none from I.ok.hd hc) s.heap.objs.size p iE its.toArray,⟨⟨_,Heap.get?_push_size _ rfl,rfl,rfl⟩,Heap.IsList.push pl.isList _⟩,ly rv _,fun h' tk kk=>?_⟩
 rw [fQ,<- cW,range_all]
 refine ⟨.bl _,H,?_,rfl,q⟩
 refine I.kept fun b o e=>kk b o (fun z=>?_) (Heap.get?_push_of_some _ e)
 have hb:b=s.heap.objs.size:=by simpa using z
 rw [hb] at e
 exact oH _ (Heap.lt_size e)
theorem CI (hc:X.calm=true):fk X (.builtin "any") (fun xs H Q=>∃ (p:Addr) (ks:List Bool),xs=[.ref p]/\du X.K H p (ks.map V.bl)/\Q (.bl (ks.any id)) H):=by
 intro aa s σ H xs us Q I r h
 obtain ⟨p,ks,rfl,hp,q⟩:=h
 obtain ⟨u,rfl,ru⟩:=vals1 r
 cases ru
 obtain ⟨its,rv,pl,hz⟩:=I.list hp
 have cW:=rv.length
 rw [cT] at cW
 refine call_any_walk (wpAny_pyIter_list pl.isList ?_)
 have iE:p≠s.heap.objs.size:=let ⟨_,e,_⟩:=pl.isList;dU (Heap.lt_size e)
 refine ⟨s.heap.objs.size,_,[s.heap.objs.size],its.toArray.size,_,_,fun i=>ks.getD i true,rfl,Walks.list (show X.A.in1.handled=none from I.ok.hd hc) s.heap.objs.size p iE its.toArray,⟨⟨_,Heap.get?_push_size _ rfl,rfl,rfl⟩,Heap.IsList.push pl.isList _⟩,ly rv _,fun h' tk kk=>?_⟩
 rw [fQ,<- cW,range_any]
 refine ⟨.bl _,H,?_,rfl,q⟩
 refine I.kept fun b o e=>kk b o (fun z=>?_) (Heap.get?_push_of_some _ e)
 have hb:b=s.heap.objs.size:=by simpa using z
 rw [hb] at e
 exact oH _ (Heap.lt_size e)
end
end L2
namespace K23
open PySem L2
noncomputable abbrev top (i:Nat):Stmt:=PySem.Challenge.pw_rowblade_k23_whole_programs_read.main.body.getD i (.Pass ⟨0,0,0,0⟩)
end K23
noncomputable section
namespace KH
open PySem PySem.W PySem.Calls PyProof.Rows L2 K23
abbrev pw:Program:=PySem.Challenge.pw_rowblade_k23_whole_programs_read
noncomputable abbrev r (a:Nat):Value:=.ref a
noncomputable abbrev O (c:Value) (d:Option Addr) (x:Data) (s:List (Option Value)):Obj:=⟨c,d,x,⟨s⟩⟩
abbrev W:=Params->Obj
abbrev Z:=Str × Nat × Value
noncomputable abbrev D (P:Params) (e:Z):DictEntry:=⟨PyData.keyHash P e.1,.str e.1 e.2.1,e.2.2⟩
abbrev fN (n q:Str) (s:Stmt) (g:Addr) (cl:List (Str × Addr)) (dv kv doc pm:Value) (an:Option Addr) (cd ct:Value) (b:Addr):FuncData:=⟨n,q,jj s,.stmts (cu s),aI s,g,cl,dv,kv,doc,pm,an,cd,ct,b⟩
abbrev C (n q:Str) (t u L a b c g:Nat) (x:Addr) (B:Bool) (y:Addr) (k l m o:Value):W:=fun _=>O (.type "code") none (.fields ⟨[.str n t,.str q (t+1),.str "/claim/cut.py" (t+2),.int (kC L) 0,.int (kC a) 0,.int (kC b) 0,.int (kC c) 0,.int (kC g) 0,r x,.bool B,.int (kC 181) 0,r y,k,l,m,o,.int (kC u) 0,.int (kC L) 0,.str "/claim/cut.py" (u+1)]⟩) []
abbrev cf (n q:Str) (t u L a x:Nat):W:=C n q t u L a 0 0 3 x true (x+1) .none (r (x+2)) (r (x+3)) (r (x+4))
abbrev cg (n:Str) (t u L a x:Nat):W:=cf n n t u L a x
abbrev cc (n:Str) (t L x:Nat):W:=C n n t (t+3) L 0 0 0 0 x false (x+1) .none .none .none .none
abbrev lt (b:Nat) (l:List (Nat × Nat)):W:=fun _=>O .none none (.fields ⟨(l.map fun p=>[.int (kC p.1) 0,.int (kC b) 0,r p.2]).flatten⟩) []
abbrev fO (n q:Str) (s:Stmt) (m:Value) (c:Nat):W:=fun _=>O (.type "function") none (.func (fN n q s 3 [] .none .none .none m none (r c) .none 0)) []
abbrev fn (n q:Str) (s:Stmt):W:=fun _=>O .none none (.func (fN n q s 0 [] .none .none .none .none none .none .none 0)) []
def sS:Nat->List Str->List Value
 | _,[]=>[]
 | k,x::l=>.str x k::sS (k+1) l
abbrev tS (k:Nat) (l:List Str):W:=fun _=>O (.type "tuple") none (.seq ⟨sS k l⟩ 0) []
abbrev tV (l:List Value):W:=fun _=>O (.type "tuple") none (.seq ⟨l⟩ 0) []
abbrev di (n:Nat) (l:List Z):W:=fun P=>O (.type "dict") none (.dict ⟨l.map (D P)⟩ n) []
abbrev c1 (m:Value) (b:Nat) (q:Str) (L:Nat) (xs:List Z) (st sr n:Nat):W:=di n (("__module__", b,m)::("__qualname__", b+2,.str q (b+1))::("__firstlineno__", b+4,.int (kC L) (b+3))::(xs.append [("__static_attributes__", st,r sr)]))
abbrev c2 (m:Value) (b L:Nat) (xs:List Z) (st sr:Nat) (ys:List Z) (dt n:Nat):W:=di n (("__module__", b,m)::("__firstlineno__", b+4,.int (kC L) (b+3))::(xs.append (("__static_attributes__", st,r sr)::(ys.append [("__doc__", dt,.none)]))))
abbrev cG (n:Str) (bs mr:List Value) (d:Nat) (su:List Value) (h:Option Value) (t:Nat) (nw:String):W:=fun _=>O (.type "type") none (.cls ⟨n,bs,mr,d,n,true,[],su,false,none,false⟩) [h,none,some (.str n t),some (.str n (t+8)),some (.builtin nw),some (.bool true)]
abbrev ob:Value:=.type "object"
abbrev cB (n:Str) (d b:Nat) (su:List Value) (h t:Nat):W:=cG n [r b] [r (d+1),r b,ob] d su (some (r h)) t "object.__new__"
abbrev c0 (n:Str) (d:Nat) (su:List Value) (t:Nat):W:=cG n [ob] [r (d+1),ob] d su none t "object.__new__"
abbrev fr (c l:Nat) (m:Value):W:=fun _=>O (.type "frame") none .plain [some (r c),some (r 3),some (r l),none,some m,none,some (r 0)]
abbrev is (c:Nat):W:=fun _=>O (.type "builtin_function_or_method") none (.fields ⟨[.builtin "object.__init_subclass__", r c]⟩) []
abbrev su (c:Nat):W:=fun _=>O (.type "super") none (.fields ⟨[r c,r c,r c]⟩) []
noncomputable abbrev gd (t c:Nat):W:=fun _=>O (.type "getset_descriptor") none (.fields ⟨[.str "__dict__" t,r c,.builtin "function.__dict__", .builtin "function.__dict__#set"]⟩) []
abbrev gw (t c:Nat):W:=fun _=>O (.type "getset_descriptor") none (.fields ⟨[.str "__weakref__" t,r c,.builtin "ExceptionGroup.__weakref__", .none]⟩) []
noncomputable abbrev N (o:Params->Obj) (l r:Params->BT):Params->BT:=fun P=>.node (o P) (l P) (r P)
noncomputable abbrev E:Params->BT:=fun _=>.nil
abbrev L (o:Params->Obj):Params->BT:=N o E E
abbrev m0:Value:=.str "__main__" 164
abbrev m1:Value:=.str "rowblade.errors" 187
abbrev m2:Value:=.str "rowblade.lines" 298
abbrev m3:Value:=.str "rowblade.signs" 849
abbrev m4:Value:=.str "rowblade.patterns" 872
abbrev m5:Value:=.str "rowblade.linereading" 993
abbrev m6:Value:=.str "rowblade.rows" 1211
abbrev m7:Value:=.str "rowblade.reading" 1221
abbrev m8:Value:=.str "rowblade.showing" 1264
abbrev m9:Value:=.str "law_rowblade_k23_whole_programs_read" 1307
abbrev ae:=tV []
abbrev aw:W:=fun P=>O .none none (.fields ⟨[]⟩) []
abbrev Hc:=cc "<module>" 182 1 11
abbrev Hd:=fr 13 3 m0
abbrev d0:List Z:=[("__doc__", 166,.none),("__package__", 167,.none),("__loader__", 168,(.builtin "__main__.__loader__#opaque")),("__spec__", 169,.none),("__annotations__", 170,(r 6)),("__builtins__", 171,(r 4)),("__file__", 173,(.str "/claim/cut.py" 172)),("__cached__", 174,.none),("BladeError", 206,(r 24)),("NoPattern", 222,(r 37)),("NoLine", 247,(r 56)),("TwoMarks", 272,(r 75)),("NoMark", 297,(r 94))]
abbrev o3:=di 14 (("__name__", 165,(.str "rowblade.lines" 298))::d0)
noncomputable abbrev l0:List (Nat × Nat):=[(2,20),(4,33),(6,45),(10,64),(14,83)]
abbrev Vx:=lt 0 l0
abbrev Hf:=tV [(.type "ValueError")]
abbrev aU:W:=fun P=>O (.type "builtin_function_or_method") none (.fields ⟨[(.builtin "type.__prepare__"),(.type "type")]⟩) []
abbrev Ml:=c1 m1 196 "BladeError" 2 [] 201 22 4
abbrev Mm:=cc "BladeError" 191 2 18
abbrev Mn:=fr 20 17 m1
abbrev Hg:=c2 m1 196 2 [] 201 22 [("__weakref__", 203,(r 25))] 204 3
abbrev Hh:=cG "BladeError" [(.type "ValueError")] [(r 24),(.type "ValueError"),(.type "Exception"),(.type "BaseException"),(.type "object")] 23 [(r 37),(r 56),(r 75),(r 94)] (some (r 15)) 189 "ValueError.__new__"
abbrev Hi:=gw 202 24
abbrev Mp:=su 24
abbrev Mq:=is 24
abbrev gJ:=tV [(r 24)]
abbrev Mr:=c1 m1 214 "NoPattern" 4 [] 219 35 4
abbrev Ms:=cc "NoPattern" 209 4 31
abbrev Mt:=fr 33 30 m1
abbrev Hj:=c2 m1 214 4 [] 219 35 [] 220 2
abbrev Hk:=cG "NoPattern" [(r 24)] [(r 37),(r 24),(.type "ValueError"),(.type "Exception"),(.type "BaseException"),(.type "object")] 36 [] (some (r 28)) 207 "ValueError.__new__"
abbrev Mu:=su 37
abbrev Mv:=is 37
abbrev Mw:=c1 m1 230 "NoLine" 6 [("__init__", 242,(r 53))] 244 54 5
abbrev Mx:=lt 4 [(8,52)]
abbrev My:=cc "NoLine" 225 6 43
abbrev Mz:=fr 45 42 m1
abbrev Hl:=tS 238 ["self", "row"]
abbrev MA:=fn "__init__" "NoLine.__init__" (inClass (top 3) 0)
abbrev Hm:=cf "__init__" "NoLine.__init__" 235 240 8 2 47
abbrev Hn:=fO "__init__" "NoLine.__init__" (inClass (top 3) 0) m1 52
abbrev Ho:=tS 243 ["row"]
abbrev Hq:=c2 m1 230 6 [("__init__", 242,(r 53))] 244 54 [] 245 2
abbrev Hr:=cG "NoLine" [(r 24)] [(r 56),(r 24),(.type "ValueError"),(.type "Exception"),(.type "BaseException"),(.type "object")] 55 [] (some (r 40)) 223 "ValueError.__new__"
abbrev MB:=su 56
abbrev MC:=is 56
abbrev MD:=c1 m1 255 "TwoMarks" 10 [("__init__", 267,(r 72))] 269 73 5
abbrev ME:=lt 4 [(12,71)]
abbrev MF:=cc "TwoMarks" 250 10 62
abbrev MG:=fr 64 61 m1
abbrev Hs:=tS 263 ["self", "row"]
abbrev MH:=fn "__init__" "TwoMarks.__init__" (inClass (top 4) 0)
abbrev Ht:=cf "__init__" "TwoMarks.__init__" 260 265 12 2 66
abbrev Hu:=fO "__init__" "TwoMarks.__init__" (inClass (top 4) 0) m1 71
abbrev Hv:=tS 268 ["row"]
abbrev Hw:=c2 m1 255 10 [("__init__", 267,(r 72))] 269 73 [] 270 2
abbrev Hx:=cG "TwoMarks" [(r 24)] [(r 75),(r 24),(.type "ValueError"),(.type "Exception"),(.type "BaseException"),(.type "object")] 74 [] (some (r 59)) 248 "ValueError.__new__"
abbrev MI:=su 75
abbrev MJ:=is 75
abbrev MK:=c1 m1 280 "NoMark" 14 [("__init__", 292,(r 91))] 294 92 5
abbrev ML:=lt 4 [(16,90)]
abbrev MM:=cc "NoMark" 275 14 81
abbrev MN:=fr 83 80 m1
abbrev Hy:=tS 288 ["self", "row"]
abbrev MO:=fn "__init__" "NoMark.__init__" (inClass (top 5) 0)
abbrev Hz:=cf "__init__" "NoMark.__init__" 285 290 16 2 85
abbrev HA:=fO "__init__" "NoMark.__init__" (inClass (top 5) 0) m1 90
abbrev HB:=tS 293 ["row"]
abbrev HC:=c2 m1 280 14 [("__init__", 292,(r 91))] 294 92 [] 295 2
abbrev HD:=cG "NoMark" [(r 24)] [(r 94),(r 24),(.type "ValueError"),(.type "Exception"),(.type "BaseException"),(.type "object")] 93 [] (some (r 78)) 273 "ValueError.__new__"
abbrev MP:=su 94
abbrev MQ:=is 94
abbrev d1:=d0.append [("Program", 328,(r 113)),("Line", 359,(r 134)),("Cond", 379,(r 148)),("Always", 395,(r 162)),("RowIs", 420,(r 181))]
abbrev ab7:=di 19 (("__name__", 165,(.str "rowblade.lines" 298))::d1)
abbrev l1:=l0++[(19,102),(23,123),(28,144),(30,158),(32,170)]
abbrev Vy:=lt 0 l1
abbrev OV:=c1 m2 307 "Program" 19 [("__init__", 319,(r 110))] 321 111 5
abbrev uG:=lt 4 [(21,109)]
abbrev uH:=cc "Program" 302 19 100
abbrev uI:=fr 102 99 m2
abbrev qS:=tS 315 ["self", "lines"]
abbrev uJ:=fn "__init__" "Program.__init__" (inClass (top 7) 0)
abbrev qT:=cf "__init__" "Program.__init__" 312 317 21 2 104
abbrev qU:=fO "__init__" "Program.__init__" (inClass (top 7) 0) m2 109
abbrev qV:=tS 320 ["lines"]
abbrev qW:=c2 m2 307 19 [("__init__", 319,(r 110))] 321 111 [("__dict__", 323,(r 114)),("__weakref__", 325,(r 115))] 326 4
abbrev qX:=c0 "Program" 112 [] 300
abbrev qY:=gd 322 113
abbrev qZ:=gw 324 113
abbrev uK:=su 113
abbrev uL:=is 113
abbrev uM:=c1 m2 336 "Line" 23 [("__init__", 349,(r 131))] 352 132 5
abbrev uN:=lt 4 [(25,130)]
abbrev uO:=cc "Line" 331 23 121
abbrev uP:=fr 123 120 m2
abbrev q_:=tS 344 ["self", "cond", "deed"]
abbrev uQ:=fn "__init__" "Line.__init__" (inClass (top 8) 0)
abbrev rf:=cf "__init__" "Line.__init__" 341 347 25 3 125
abbrev rh:=fO "__init__" "Line.__init__" (inClass (top 8) 0) m2 130
abbrev rj:=tS 350 ["cond", "deed"]
abbrev rk:=c2 m2 336 23 [("__init__", 349,(r 131))] 352 132 [("__dict__", 354,(r 135)),("__weakref__", 356,(r 136))] 357 4
abbrev rl:=c0 "Line" 133 [] 329
abbrev rm:=gd 353 134
abbrev rn:=gw 355 134
abbrev uR:=su 134
abbrev uS:=is 134
abbrev y_:=c1 m2 367 "Cond" 28 [] 372 146 4
abbrev za:=cc "Cond" 362 28 142
abbrev uT:=fr 144 141 m2
abbrev uU:=c2 m2 367 28 [] 372 146 [("__dict__", 374,(r 149)),("__weakref__", 376,(r 150))] 377 4
abbrev ab8:=c0 "Cond" 147 [(r 162),(r 181)] 360
abbrev uV:=gd 373 148
abbrev uW:=gw 375 148
abbrev zb:=su 148
abbrev zc:=is 148
abbrev bu:=tV [(r 148)]
abbrev zd:=c1 m2 387 "Always" 30 [] 392 160 4
abbrev ze:=cc "Always" 382 30 156
abbrev zf:=fr 158 155 m2
abbrev uX:=c2 m2 387 30 [] 392 160 [] 393 2
abbrev uY:=cB "Always" 161 148 [] 153 380
abbrev zg:=su 162
abbrev zh:=is 162
abbrev zj:=c1 m2 403 "RowIs" 32 [("__init__", 415,(r 178))] 417 179 5
abbrev zk:=lt 4 [(34,177)]
abbrev zl:=cc "RowIs" 398 32 168
abbrev zm:=fr 170 167 m2
abbrev rq:=tS 411 ["self", "number"]
abbrev uZ:=fn "__init__" "RowIs.__init__" (inClass (top 11) 0)
abbrev rz:=cf "__init__" "RowIs.__init__" 408 413 34 2 172
abbrev rA:=fO "__init__" "RowIs.__init__" (inClass (top 11) 0) m2 177
abbrev rB:=tS 416 ["number"]
abbrev rC:=c2 m2 403 32 [("__init__", 415,(r 178))] 417 179 [] 418 2
abbrev rD:=cB "RowIs" 180 148 [] 165 396
abbrev u0:=su 181
abbrev u3:=is 181
abbrev d2:=d1.append [("Last", 436,(r 193)),("Like", 461,(r 212)),("Soon", 488,(r 231)),("FromTo", 515,(r 250)),("Not", 540,(r 269))]
abbrev ab9:=di 24 (("__name__", 165,(.str "rowblade.lines" 298))::d2)
abbrev l2:=l1++[(36,189),(38,201),(42,220),(47,239),(52,258)]
abbrev Vz:=lt 0 l2
abbrev OW:=c0 "Cond" 147 [(r 162),(r 181),(r 193),(r 212),(r 231),(r 250),(r 269)] 360
abbrev zo:=c1 m2 428 "Last" 36 [] 433 191 4
abbrev zp:=cc "Last" 423 36 187
abbrev zq:=fr 189 186 m2
abbrev u4:=c2 m2 428 36 [] 433 191 [] 434 2
abbrev u9:=cB "Last" 192 148 [] 184 421
abbrev zr:=su 193
abbrev zt:=is 193
abbrev zu:=c1 m2 444 "Like" 38 [("__init__", 456,(r 209))] 458 210 5
abbrev zw:=lt 4 [(40,208)]
abbrev zx:=cc "Like" 439 38 199
abbrev zy:=fr 201 198 m2
abbrev u_:=tS 452 ["self", "pattern"]
abbrev zA:=fn "__init__" "Like.__init__" (inClass (top 13) 0)
abbrev vc:=cf "__init__" "Like.__init__" 449 454 40 2 203
abbrev vd:=fO "__init__" "Like.__init__" (inClass (top 13) 0) m2 208
abbrev ve:=tS 457 ["pattern"]
abbrev vf:=c2 m2 444 38 [("__init__", 456,(r 209))] 458 210 [] 459 2
abbrev vg:=cB "Like" 211 148 [] 196 437
abbrev zB:=su 212
abbrev zC:=is 212
abbrev zD:=c1 m2 469 "Soon" 42 [("__init__", 482,(r 228))] 485 229 5
abbrev zE:=lt 4 [(44,227)]
abbrev zF:=cc "Soon" 464 42 218
abbrev zG:=fr 220 217 m2
abbrev vh:=tS 477 ["self", "many", "pattern"]
abbrev zH:=fn "__init__" "Soon.__init__" (inClass (top 14) 0)
abbrev vj:=cf "__init__" "Soon.__init__" 474 480 44 3 222
abbrev vm:=fO "__init__" "Soon.__init__" (inClass (top 14) 0) m2 227
abbrev vn:=tS 483 ["many", "pattern"]
abbrev vo:=c2 m2 469 42 [("__init__", 482,(r 228))] 485 229 [] 486 2
abbrev vp:=cB "Soon" 230 148 [] 215 462
abbrev zI:=su 231
abbrev zJ:=is 231
abbrev zK:=c1 m2 496 "FromTo" 47 [("__init__", 509,(r 247))] 512 248 5
abbrev zL:=lt 4 [(49,246)]
abbrev zM:=cc "FromTo" 491 47 237
abbrev zN:=fr 239 236 m2
abbrev vq:=tS 504 ["self", "first", "second"]
abbrev zO:=fn "__init__" "FromTo.__init__" (inClass (top 15) 0)
abbrev vt:=cf "__init__" "FromTo.__init__" 501 507 49 3 241
abbrev vv:=fO "__init__" "FromTo.__init__" (inClass (top 15) 0) m2 246
abbrev vz:=tS 510 ["first", "second"]
abbrev vA:=c2 m2 496 47 [("__init__", 509,(r 247))] 512 248 [] 513 2
abbrev vB:=cB "FromTo" 249 148 [] 234 489
abbrev zP:=su 250
abbrev zQ:=is 250
abbrev zR:=c1 m2 523 "Not" 52 [("__init__", 535,(r 266))] 537 267 5
abbrev zS:=lt 4 [(54,265)]
abbrev zT:=cc "Not" 518 52 256
abbrev zU:=fr 258 255 m2
abbrev vC:=tS 531 ["self", "inner"]
abbrev zV:=fn "__init__" "Not.__init__" (inClass (top 16) 0)
abbrev vD:=cf "__init__" "Not.__init__" 528 533 54 2 260
abbrev vE:=fO "__init__" "Not.__init__" (inClass (top 16) 0) m2 265
abbrev vG:=tS 536 ["inner"]
abbrev zW:=c2 m2 523 52 [("__init__", 535,(r 266))] 537 267 [] 538 2
abbrev zX:=cB "Not" 268 148 [] 253 516
abbrev zY:=su 269
abbrev zZ:=is 269
abbrev d3:=d2.append [("End", 556,(r 281)),("Deed", 576,(r 293)),("Mark", 601,(r 314)),("Drop", 617,(r 326)),("Print", 633,(r 338))]
abbrev ab_:=di 29 (("__name__", 165,(.str "rowblade.lines" 298))::d3)
abbrev l3:=l2++[(56,277),(58,289),(60,303),(64,322),(66,334)]
abbrev VA:=lt 0 l3
abbrev lz:=c0 "Cond" 147 [(r 162),(r 181),(r 193),(r 212),(r 231),(r 250),(r 269),(r 281)] 360
abbrev HE:=c1 m2 548 "End" 56 [] 553 279 4
abbrev HG:=cc "End" 543 56 275
abbrev HH:=fr 277 274 m2
abbrev CJ:=c2 m2 548 56 [] 553 279 [] 554 2
abbrev CK:=cB "End" 280 148 [] 272 541
abbrev HJ:=su 281
abbrev HK:=is 281
abbrev HL:=c1 m2 564 "Deed" 58 [] 569 291 4
abbrev HM:=cc "Deed" 559 58 287
abbrev HN:=fr 289 286 m2
abbrev CL:=c2 m2 564 58 [] 569 291 [("__dict__", 571,(r 294)),("__weakref__", 573,(r 295))] 574 4
abbrev aca:=c0 "Deed" 292 [(r 314),(r 326),(r 338)] 557
abbrev CM:=gd 570 293
abbrev CN:=gw 572 293
abbrev HP:=su 293
abbrev HQ:=is 293
abbrev br:=tV [(r 293)]
abbrev HR:=c1 m2 584 "Mark" 60 [("__init__", 596,(r 311))] 598 312 5
abbrev CO:=lt 4 [(62,310)]
abbrev CP:=cc "Mark" 579 60 301
abbrev CQ:=fr 303 300 m2
abbrev z6:=tS 592 ["self", "name"]
abbrev CS:=fn "__init__" "Mark.__init__" (inClass (top 19) 0)
abbrev z7:=cf "__init__" "Mark.__init__" 589 594 62 2 305
abbrev z8:=fO "__init__" "Mark.__init__" (inClass (top 19) 0) m2 310
abbrev z9:=tS 597 ["name"]
abbrev z_:=c2 m2 584 60 [("__init__", 596,(r 311))] 598 312 [] 599 2
abbrev Aa:=cB "Mark" 313 293 [] 298 577
abbrev CT:=su 314
abbrev CU:=is 314
abbrev CV:=c1 m2 609 "Drop" 64 [] 614 324 4
abbrev CW:=cc "Drop" 604 64 320
abbrev CY:=fr 322 319 m2
abbrev Ab:=c2 m2 609 64 [] 614 324 [] 615 2
abbrev Ac:=cB "Drop" 325 293 [] 317 602
abbrev CZ:=su 326
abbrev C0:=is 326
abbrev C1:=c1 m2 625 "Print" 66 [] 630 336 4
abbrev C2:=cc "Print" 620 66 332
abbrev C3:=fr 334 331 m2
abbrev Ad:=c2 m2 625 66 [] 630 336 [] 631 2
abbrev Ae:=cB "Print" 337 293 [] 329 618
abbrev C4:=su 338
abbrev C5:=is 338
abbrev d4:=d3.append [("Done", 649,(r 350)),("Say", 674,(r 369)),("Swap", 703,(r 388)),("Join", 728,(r 407)),("Pile", 755,(r 426))]
abbrev acb:=di 34 (("__name__", 165,(.str "rowblade.lines" 298))::d4)
abbrev l4:=l3++[(68,346),(70,358),(74,377),(80,396),(84,415)]
abbrev VB:=lt 0 l4
abbrev OX:=c0 "Deed" 292 [(r 314),(r 326),(r 338),(r 350),(r 369),(r 388),(r 407),(r 426)] 557
abbrev HS:=c1 m2 641 "Done" 68 [] 646 348 4
abbrev HU:=cc "Done" 636 68 344
abbrev HV:=fr 346 343 m2
abbrev C6:=c2 m2 641 68 [] 646 348 [] 647 2
abbrev C7:=cB "Done" 349 293 [] 341 634
abbrev HW:=su 350
abbrev HX:=is 350
abbrev HZ:=c1 m2 657 "Say" 70 [("__init__", 669,(r 366))] 671 367 5
abbrev H0:=lt 4 [(72,365)]
abbrev H_:=cc "Say" 652 70 356
abbrev Ia:=fr 358 355 m2
abbrev C8:=tS 665 ["self", "words"]
abbrev Ib:=fn "__init__" "Say.__init__" (inClass (top 23) 0)
abbrev C9:=cf "__init__" "Say.__init__" 662 667 72 2 360
abbrev C_:=fO "__init__" "Say.__init__" (inClass (top 23) 0) m2 365
abbrev Dc:=tS 670 ["words"]
abbrev Dd:=c2 m2 657 70 [("__init__", 669,(r 366))] 671 367 [] 672 2
abbrev De:=cB "Say" 368 293 [] 353 650
abbrev Ic:=su 369
abbrev Ie:=is 369
abbrev Ig:=c1 m2 682 "Swap" 74 [("__init__", 696,(r 385))] 700 386 5
abbrev Ih:=lt 4 [(76,384)]
abbrev Ii:=cc "Swap" 677 74 375
abbrev Ij:=fr 377 374 m2
abbrev Df:=tS 690 ["self", "pattern", "words", "every"]
abbrev Ik:=fn "__init__" "Swap.__init__" (inClass (top 24) 0)
abbrev Dg:=cf "__init__" "Swap.__init__" 687 694 76 4 379
abbrev Dh:=fO "__init__" "Swap.__init__" (inClass (top 24) 0) m2 384
abbrev Di:=tS 697 ["every", "pattern", "words"]
abbrev Dj:=c2 m2 682 74 [("__init__", 696,(r 385))] 700 386 [] 701 2
abbrev Dk:=cB "Swap" 387 293 [] 372 675
abbrev Il:=su 388
abbrev Im:=is 388
abbrev Io:=c1 m2 711 "Join" 80 [("__init__", 723,(r 404))] 725 405 5
abbrev Ip:=lt 4 [(82,403)]
abbrev OY:=cc "Join" 706 80 394
abbrev OZ:=fr 396 393 m2
abbrev Iq:=tS 719 ["self", "most"]
abbrev O0:=fn "__init__" "Join.__init__" (inClass (top 25) 0)
abbrev Ir:=cf "__init__" "Join.__init__" 716 721 82 2 398
abbrev Iu:=fO "__init__" "Join.__init__" (inClass (top 25) 0) m2 403
abbrev Iv:=tS 724 ["most"]
abbrev Iw:=c2 m2 711 80 [("__init__", 723,(r 404))] 725 405 [] 726 2
abbrev Iz:=cB "Join" 406 293 [] 391 704
abbrev O1:=su 407
abbrev O2:=is 407
abbrev IA:=c1 m2 736 "Pile" 84 [("__init__", 749,(r 423))] 752 424 5
abbrev O3:=lt 4 [(86,422)]
abbrev O4:=cc "Pile" 731 84 413
abbrev IB:=fr 415 412 m2
abbrev IC:=tS 744 ["self", "shelf", "most"]
abbrev ID:=fn "__init__" "Pile.__init__" (inClass (top 26) 0)
abbrev IE:=cf "__init__" "Pile.__init__" 741 747 86 3 417
abbrev IF:=fO "__init__" "Pile.__init__" (inClass (top 26) 0) m2 422
abbrev IG:=tS 750 ["most", "shelf"]
abbrev II:=c2 m2 736 84 [("__init__", 749,(r 423))] 752 424 [] 753 2
abbrev IJ:=cB "Pile" 425 293 [] 410 729
abbrev O5:=su 426
abbrev O6:=is 426
abbrev d5:=d4.append [("Bring", 780,(r 445)),("Go", 805,(r 464)),("Add", 832,(r 483)),("Tell", 848,(r 495)),("SIGNS", 852,(.str "abcdefghijklmnopqrstuvwxyzABCDEFGHIJKLMNOPQRSTUVWXYZ0123456789 !\"#$&'()*+,-./:;<=>?\x40[\\]^_`{|}~" 851)),("SMALL_LETTERS", 854,(.str "abcdefghijklmnopqrstuvwxyz" 853)),("FIGURES", 856,(.str "0123456789" 855)),("made_of", 862,(r 502)),("beginning_of", 871,(r 509)),("MOST_ITEMS", 875,(.int (8) 874)),("MOST_SIGNS", 877,(.int (12) 876)),("NEVER_PLAIN", 879,(.str "^$.[]*+?/" 878)),("NEVER_IN_A_SET", 881,(.str "]^/" 880)),("ONCE", 883,(.str "1" 882)),("HOW_MANY", 885,(.str "*+?" 884)),("may_stand_plain", 892,(r 516)),("pattern", 903,(r 523))]
abbrev acd:=di 51 (("__name__", 165,(.str "rowblade.patterns" 872))::d5)
abbrev l5:=l4++[(89,434),(93,453),(97,472),(102,491),(108,501),(110,508),(122,515),(124,522)]
abbrev VC:=lt 0 l5
abbrev ph:=c0 "Deed" 292 [(r 314),(r 326),(r 338),(r 350),(r 369),(r 388),(r 407),(r 426),(r 445),(r 464),(r 483),(r 495)] 557
abbrev O7:=c1 m2 763 "Bring" 89 [("__init__", 775,(r 442))] 777 443 5
abbrev O8:=lt 4 [(91,441)]
abbrev O9:=cc "Bring" 758 89 432
abbrev O_:=fr 434 431 m2
abbrev IK:=tS 771 ["self", "shelf"]
abbrev Pa:=fn "__init__" "Bring.__init__" (inClass (top 27) 0)
abbrev IL:=cf "__init__" "Bring.__init__" 768 773 91 2 436
abbrev IM:=fO "__init__" "Bring.__init__" (inClass (top 27) 0) m2 441
abbrev IP:=tS 776 ["shelf"]
abbrev IQ:=c2 m2 763 89 [("__init__", 775,(r 442))] 777 443 [] 778 2
abbrev IS:=cB "Bring" 444 293 [] 429 756
abbrev Pb:=su 445
abbrev Pc:=is 445
abbrev Pd:=c1 m2 788 "Go" 93 [("__init__", 800,(r 461))] 802 462 5
abbrev Pe:=lt 4 [(95,460)]
abbrev Ph:=cc "Go" 783 93 451
abbrev Pj:=fr 453 450 m2
abbrev IU:=tS 796 ["self", "name"]
abbrev Pk:=fn "__init__" "Go.__init__" (inClass (top 28) 0)
abbrev IV:=cf "__init__" "Go.__init__" 793 798 95 2 455
abbrev IW:=fO "__init__" "Go.__init__" (inClass (top 28) 0) m2 460
abbrev IX:=tS 801 ["name"]
abbrev IY:=c2 m2 788 93 [("__init__", 800,(r 461))] 802 462 [] 803 2
abbrev IZ:=cB "Go" 463 293 [] 448 781
abbrev Po:=su 464
abbrev Pp:=is 464
abbrev Pq:=c1 m2 813 "Add" 97 [("__init__", 826,(r 480))] 829 481 5
abbrev Pu:=lt 4 [(99,479)]
abbrev Pw:=cc "Add" 808 97 470
abbrev Px:=fr 472 469 m2
abbrev I0:=tS 821 ["self", "first", "second"]
abbrev Py:=fn "__init__" "Add.__init__" (inClass (top 29) 0)
abbrev I_:=cf "__init__" "Add.__init__" 818 824 99 3 474
abbrev Ja:=fO "__init__" "Add.__init__" (inClass (top 29) 0) m2 479
abbrev Jb:=tS 827 ["first", "second"]
abbrev Jc:=c2 m2 813 97 [("__init__", 826,(r 480))] 829 481 [] 830 2
abbrev Jd:=cB "Add" 482 293 [] 467 806
abbrev Pz:=su 483
abbrev PB:=is 483
abbrev PD:=c1 m2 840 "Tell" 102 [] 845 493 4
abbrev PF:=cc "Tell" 835 102 489
abbrev PH:=fr 491 488 m2
abbrev Je:=c2 m2 840 102 [] 845 493 [] 846 2
abbrev Jf:=cB "Tell" 494 293 [] 486 833
abbrev PJ:=su 495
abbrev PK:=is 495
abbrev PL:=fn "made_of" "made_of" (top 35)
abbrev Jg:=C "made_of" "made_of" 857 860 108 2 0 0 3 498 true 499 .none .none .none (r 500)
abbrev Jh:=fO "made_of" "made_of" (top 35) m3 501
abbrev Ji:=tS 866 ["text", "signs", "many"]
abbrev PM:=fn "beginning_of" "beginning_of" (top 36)
abbrev Jj:=cg "beginning_of" 863 869 110 2 503
abbrev Jk:=fO "beginning_of" "beginning_of" (top 36) m3 508
abbrev Jl:=tS 889 ["sign"]
abbrev PN:=fn "may_stand_plain" "may_stand_plain" (top 44)
abbrev Jm:=cg "may_stand_plain" 886 890 122 1 510
abbrev Jo:=fO "may_stand_plain" "may_stand_plain" (top 44) m4 515
abbrev Jp:=tS 896 ["text", "front", "body", "back", "items"]
abbrev PQ:=fn "pattern" "pattern" (top 45)
abbrev Jq:=cg "pattern" 893 901 124 1 517
abbrev Jr:=fO "pattern" "pattern" (top 45) m4 522
abbrev d6:=(d5.append [("items_of", 914,(r 530)),("place_behind_core", 923,(r 537)),("many_at", 931,(r 544)),("item_of", 939,(r 551)),("set_item", 945,(r 556)),("is_written_plain", 953,(r 563)),("written", 964,(r 570)),("written_core", 972,(r 577)),("may_be_empty", 979,(r 584)),("least_length", 985,(r 589)),("may_be_left_out", 992,(r 596)),("COND_BEGINNINGS", 1002,(r 597)),("MOST_ROW", 1004,(.int (999) 1003)),("MOST_FIGURES", 1006,(.int (3) 1005)),("MOST_SOON", 1008,(.int (3) 1007)),("LEAST_JOIN", 1010,(.int (2) 1009)),("MOST_SMALL", 1012,(.int (9) 1011)),("MOST_LETTERS", 1014,(.int (8) 1013)),("MOST_TEXT", 1016,(.int (40) 1015)),("Scan", 1089,(r 649)),("line_of", 1099,(r 660)),("line_next", 1105,(r 665)),("cond_next", 1112,(r 672)),("plain_cond_next", 1121,(r 679)),("row_or_pattern_next", 1128,(r 686))]).append [("deed_next", 1135,(r 693)),("swap_next", 1144,(r 700)),("pile_next", 1152,(r 707)),("add_next", 1160,(r 714)),("number_next", 1171,(r 721)),("name_next", 1179,(r 728)),("words_next", 1187,(r 735)),("pattern_next", 1195,(r 742))]
abbrev ace:=di 84 (("__name__", 165,(.str "rowblade.linereading" 993))::d6)
abbrev l6:=l5++[(136,529),(145,536),(152,543),(156,550),(164,555),(176,562),(178,569),(185,576),(193,583),(195,588),(197,595),(208,603),(240,659),(246,664),(254,671),(260,678),(272,685),(276,692),(301,699),(305,706),(310,713),(314,720),(322,727),(327,734),(332,741)]
abbrev VD:=lt 0 l6
abbrev PR:=tS 907 ["body", "items", "place", "behind", "many"]
abbrev VE:=fn "items_of" "items_of" (top 46)
abbrev PU:=cg "items_of" 904 912 136 1 524
abbrev PV:=fO "items_of" "items_of" (top 46) m4 529
abbrev PX:=tS 918 ["body", "place", "bracket"]
abbrev VF:=fn "place_behind_core" "place_behind_core" (top 47)
abbrev PY:=cg "place_behind_core" 915 921 145 2 531
abbrev PZ:=fO "place_behind_core" "place_behind_core" (top 47) m4 536
abbrev P0:=tS 927 ["body", "place"]
abbrev VG:=fn "many_at" "many_at" (top 48)
abbrev P1:=cg "many_at" 924 929 152 2 538
abbrev P4:=fO "many_at" "many_at" (top 48) m4 543
abbrev P5:=tS 935 ["core", "many"]
abbrev VH:=fn "item_of" "item_of" (top 49)
abbrev P6:=cg "item_of" 932 937 156 2 545
abbrev P7:=fO "item_of" "item_of" (top 49) m4 550
abbrev VI:=fn "set_item" "set_item" (top 50)
abbrev P8:=C "set_item" "set_item" 940 943 164 2 0 0 3 552 true 553 .none .none .none (r 554)
abbrev P9:=fO "set_item" "set_item" (top 50) m4 555
abbrev P_:=tS 949 ["signs", "others"]
abbrev VJ:=fn "is_written_plain" "is_written_plain" (top 51)
abbrev Qa:=cg "is_written_plain" 946 951 176 2 557
abbrev Qc:=fO "is_written_plain" "is_written_plain" (top 51) m4 562
abbrev Qd:=tS 957 ["one", "parts", "signs", "others", "many"]
abbrev VL:=fn "written" "written" (top 52)
abbrev Qe:=cg "written" 954 962 178 1 564
abbrev Qf:=fO "written" "written" (top 52) m4 569
abbrev Qg:=tS 968 ["signs", "others"]
abbrev VM:=fn "written_core" "written_core" (top 53)
abbrev Qh:=cg "written_core" 965 970 185 2 571
abbrev Qi:=fO "written_core" "written_core" (top 53) m4 576
abbrev Qj:=tS 976 ["one"]
abbrev VN:=fn "may_be_empty" "may_be_empty" (top 54)
abbrev Qk:=cg "may_be_empty" 973 977 193 1 578
abbrev Ql:=fO "may_be_empty" "may_be_empty" (top 54) m4 583
abbrev VO:=fn "least_length" "least_length" (top 55)
abbrev Qm:=C "least_length" "least_length" 980 983 195 1 0 0 3 585 true 586 .none .none .none (r 587)
abbrev Qn:=fO "least_length" "least_length" (top 55) m4 588
abbrev Qp:=tS 989 ["item"]
abbrev VP:=fn "may_be_left_out" "may_be_left_out" (top 56)
abbrev Qq:=cg "may_be_left_out" 986 990 197 1 590
abbrev Qs:=fO "may_be_left_out" "may_be_left_out" (top 56) m4 595
abbrev Qt:=tS 995 ["row ", "last", "/", "soon ", "from ", "not ", "end"]
abbrev VQ:=c1 m5 1024 "Scan" 208 [("__init__", 1037,(r 611)),("refuse", 1044,(r 618)),("passes", 1052,(r 625)),("must_pass", 1060,(r 632)),("while_made_of", 1069,(r 639)),("between", 1079,(r 646))] 1082 647 10
abbrev VR:=lt 4 [(210,610),(214,617),(217,624),(223,631),(227,638),(232,645)]
abbrev VS:=cc "Scan" 1019 208 601
abbrev VT:=fr 603 600 m5
abbrev Qu:=tS 1032 ["self", "row", "number"]
abbrev VU:=fn "__init__" "Scan.__init__" (inClass (top 66) 0)
abbrev Qv:=cf "__init__" "Scan.__init__" 1029 1035 210 3 605
abbrev Qw:=fO "__init__" "Scan.__init__" (inClass (top 66) 0) m5 610
abbrev Qx:=tS 1041 ["self"]
abbrev VV:=fn "refuse" "Scan.refuse" (inClass (top 66) 1)
abbrev Qy:=cf "refuse" "Scan.refuse" 1038 1042 214 1 612
abbrev Qz:=fO "refuse" "Scan.refuse" (inClass (top 66) 1) m5 617
abbrev QA:=tS 1048 ["self", "words"]
abbrev VW:=fn "passes" "Scan.passes" (inClass (top 66) 2)
abbrev QC:=cf "passes" "Scan.passes" 1045 1050 217 2 619
abbrev QD:=fO "passes" "Scan.passes" (inClass (top 66) 2) m5 624
abbrev QE:=tS 1056 ["self", "words"]
abbrev VX:=fn "must_pass" "Scan.must_pass" (inClass (top 66) 3)
abbrev QF:=cf "must_pass" "Scan.must_pass" 1053 1058 223 2 626
abbrev QG:=fO "must_pass" "Scan.must_pass" (inClass (top 66) 3) m5 631
abbrev QH:=tS 1064 ["self", "signs", "taken"]
abbrev VY:=fn "while_made_of" "Scan.while_made_of" (inClass (top 66) 4)
abbrev QI:=cf "while_made_of" "Scan.while_made_of" 1061 1067 227 2 633
abbrev QJ:=fO "while_made_of" "Scan.while_made_of" (inClass (top 66) 4) m5 638
abbrev QK:=tS 1073 ["self", "sign", "place", "inside"]
abbrev VZ:=fn "between" "Scan.between" (inClass (top 66) 5)
abbrev QM:=cf "between" "Scan.between" 1070 1077 232 2 640
abbrev QN:=fO "between" "Scan.between" (inClass (top 66) 5) m5 645
abbrev QO:=tS 1080 ["number", "rest"]
abbrev QP:=c2 m5 1024 208 [("__init__", 1037,(r 611)),("refuse", 1044,(r 618)),("passes", 1052,(r 625)),("must_pass", 1060,(r 632)),("while_made_of", 1069,(r 639)),("between", 1079,(r 646))] 1082 647 [("__dict__", 1084,(r 650)),("__weakref__", 1086,(r 651))] 1087 4
abbrev QQ:=c0 "Scan" 648 [] 1017
abbrev QR:=gd 1083 649
abbrev QT:=gw 1085 649
abbrev V0:=su 649
abbrev V1:=is 649
abbrev QU:=tS 1093 ["row", "number", "scan", "line"]
abbrev V2:=fn "line_of" "line_of" (top 67)
abbrev QV:=cg "line_of" 1090 1097 240 2 654
abbrev QW:=fO "line_of" "line_of" (top 67) m5 659
abbrev V3:=fn "line_next" "line_next" (top 68)
abbrev QX:=C "line_next" "line_next" 1100 1103 246 1 0 0 3 661 true 662 .none .none .none (r 663)
abbrev QY:=fO "line_next" "line_next" (top 68) m5 664
abbrev QZ:=tS 1109 ["scan"]
abbrev V4:=fn "cond_next" "cond_next" (top 69)
abbrev Q0:=cg "cond_next" 1106 1110 254 1 666
abbrev Q2:=fO "cond_next" "cond_next" (top 69) m5 671
abbrev Q3:=tS 1116 ["scan", "many", "first"]
abbrev V5:=fn "plain_cond_next" "plain_cond_next" (top 70)
abbrev Q4:=cg "plain_cond_next" 1113 1119 260 1 673
abbrev Q5:=fO "plain_cond_next" "plain_cond_next" (top 70) m5 678
abbrev Q6:=tS 1125 ["scan"]
abbrev V6:=fn "row_or_pattern_next" "row_or_pattern_next" (top 71)
abbrev Q7:=cg "row_or_pattern_next" 1122 1126 272 1 680
abbrev Q8:=fO "row_or_pattern_next" "row_or_pattern_next" (top 71) m5 685
abbrev Q9:=tS 1132 ["scan"]
abbrev V7:=fn "deed_next" "deed_next" (top 72)
abbrev Q_:=cg "deed_next" 1129 1133 276 1 687
abbrev Ra:=fO "deed_next" "deed_next" (top 72) m5 692
abbrev Rb:=tS 1139 ["scan", "every", "one"]
abbrev V8:=fn "swap_next" "swap_next" (top 73)
abbrev Rf:=cg "swap_next" 1136 1142 301 2 694
abbrev Rg:=fO "swap_next" "swap_next" (top 73) m5 699
abbrev Ri:=tS 1148 ["scan", "shelf"]
abbrev V9:=fn "pile_next" "pile_next" (top 74)
abbrev Rj:=cg "pile_next" 1145 1150 305 1 701
abbrev Rk:=fO "pile_next" "pile_next" (top 74) m5 706
abbrev Rl:=tS 1156 ["scan", "first"]
abbrev V_:=fn "add_next" "add_next" (top 75)
abbrev Rm:=cg "add_next" 1153 1158 310 1 708
abbrev Rn:=fO "add_next" "add_next" (top 75) m5 713
abbrev Ro:=tS 1164 ["scan", "least", "most", "figures", "number"]
abbrev Wa:=fn "number_next" "number_next" (top 76)
abbrev Rp:=cg "number_next" 1161 1169 314 3 715
abbrev Rq:=fO "number_next" "number_next" (top 76) m5 720
abbrev Rr:=tS 1175 ["scan", "name"]
abbrev Wb:=fn "name_next" "name_next" (top 77)
abbrev Rt:=cg "name_next" 1172 1177 322 1 722
abbrev Ru:=fO "name_next" "name_next" (top 77) m5 727
abbrev Rv:=tS 1183 ["scan", "words"]
abbrev Wc:=fn "words_next" "words_next" (top 78)
abbrev Rw:=cg "words_next" 1180 1185 327 1 729
abbrev Rx:=fO "words_next" "words_next" (top 78) m5 734
abbrev Ry:=tS 1191 ["scan", "text"]
abbrev Wd:=fn "pattern_next" "pattern_next" (top 79)
abbrev Rz:=cg "pattern_next" 1188 1193 332 1 736
abbrev RA:=fO "pattern_next" "pattern_next" (top 79) m5 741
abbrev d7:=(d6.append [("may_stand", 1203,(r 749)),("may_swap", 1210,(r 756)),("cut", 1220,(r 763)),("MOST_LINES", 1224,(.int (24) 1223)),("read", 1233,(r 770)),("lines_of", 1243,(r 777)),("marks_of", 1253,(r 784)),("refuse_go_without_mark", 1263,(r 791)),("shown", 1271,(r 796)),("line_text", 1278,(r 803)),("cond_text", 1285,(r 810)),("deed_text", 1292,(r 817)),("pattern_text", 1299,(r 824)),("quoted", 1306,(r 831)),("_law_whole", 1315,(r 838)),("_law_same", 1324,(r 845)),("_law_is_cond", 1332,(r 852)),("_law_is_numbered", 1340,(r 859)),("_law_is_deed", 1348,(r 866)),("_law_right", 1358,(r 873)),("_law_box", 1366,(r 880)),("_law_take", 1375,(r 887)),("_law_any_signs", 1381,(r 892)),("_law_any_name", 1388,(r 899)),("_law_any_words", 1397,(r 906))]).append [("_law_any_set", 1403,(r 911)),("_law_any_item", 1417,(r 918)),("_law_any_pattern", 1423,(r 923)),("_law_any_end", 1432,(r 930)),("_law_any_cond", 1447,(r 937)),("_law_any_swap", 1453,(r 942)),("_law_any_deed", 1466,(r 949)),("_law_any_line", 1482,(r 956)),("_law_any_marks", 1492,(r 963)),("_law_any_lines", 1504,(r 970)),("_law_mixed", 1515,(r 977)),("law", 1521,(r 982))]
abbrev We:=di 121 (("__name__", 165,(.str "law_rowblade_k23_whole_programs_read" 1307))::d7)
abbrev l7:=l6++[(338,748),(344,755),(349,762),(356,769),(361,776),(368,783),(376,790),(381,795),(383,802),(387,809),(401,816),(425,823),(427,830),(430,837),(432,844),(441,851),(461,858),(473,865),(497,872),(507,879),(510,886),(516,891),(518,898),(520,905),(523,910),(530,917),(548,922),(559,929),(565,936),(584,941),(593,948),(618,955),(632,962),(639,969),(652,976),(658,981)]
abbrev Wf:=lt 0 l7
abbrev Wg:=tS 1199 ["cond", "deed"]
abbrev acf:=fn "may_stand" "may_stand" (top 80)
abbrev Wh:=cg "may_stand" 1196 1201 338 2 743
abbrev Wi:=fO "may_stand" "may_stand" (top 80) m5 748
abbrev Wj:=tS 1207 ["deed"]
abbrev acg:=fn "may_swap" "may_swap" (top 81)
abbrev Wk:=cg "may_swap" 1204 1208 344 1 750
abbrev Wl:=fO "may_swap" "may_swap" (top 81) m5 755
abbrev Wm:=tS 1216 ["text", "rows"]
abbrev ach:=fn "cut" "cut" (top 83)
abbrev Wn:=cg "cut" 1213 1218 349 1 757
abbrev Wo:=fO "cut" "cut" (top 83) m6 762
abbrev Wq:=tS 1228 ["text", "lines", "marks"]
abbrev aci:=fn "read" "read" (top 86)
abbrev Wr:=cg "read" 1225 1231 356 1 764
abbrev Ws:=fO "read" "read" (top 86) m7 769
abbrev Wt:=tS 1237 ["rows", "lines", "number", "row"]
abbrev acj:=fn "lines_of" "lines_of" (top 87)
abbrev Wu:=cg "lines_of" 1234 1241 361 1 771
abbrev Wv:=fO "lines_of" "lines_of" (top 87) m7 776
abbrev Ww:=tS 1247 ["lines", "marks", "number", "line"]
abbrev ack:=fn "marks_of" "marks_of" (top 88)
abbrev Wx:=cg "marks_of" 1244 1251 368 1 778
abbrev Wy:=fO "marks_of" "marks_of" (top 88) m7 783
abbrev Wz:=tS 1257 ["lines", "marks", "number", "line"]
abbrev acm:=fn "refuse_go_without_mark" "refuse_go_without_mark" (top 89)
abbrev WA:=cg "refuse_go_without_mark" 1254 1261 376 2 785
abbrev WC:=fO "refuse_go_without_mark" "refuse_go_without_mark" (top 89) m7 790
abbrev acn:=fn "shown" "shown" (top 91)
abbrev WD:=C "shown" "shown" 1266 1269 381 1 0 0 3 792 true 793 .none .none .none (r 794)
abbrev WE:=fO "shown" "shown" (top 91) m8 795
abbrev WG:=tS 1275 ["line"]
abbrev aco:=fn "line_text" "line_text" (top 92)
abbrev WH:=cg "line_text" 1272 1276 383 1 797
abbrev WI:=fO "line_text" "line_text" (top 92) m8 802
abbrev WJ:=tS 1282 ["cond"]
abbrev acp:=fn "cond_text" "cond_text" (top 93)
abbrev WK:=cg "cond_text" 1279 1283 387 1 804
abbrev WL:=fO "cond_text" "cond_text" (top 93) m8 809
abbrev WM:=tS 1289 ["deed"]
abbrev acq:=fn "deed_text" "deed_text" (top 94)
abbrev WN:=cg "deed_text" 1286 1290 401 1 811
abbrev WO:=fO "deed_text" "deed_text" (top 94) m8 816
abbrev WQ:=tS 1296 ["one"]
abbrev acr:=fn "pattern_text" "pattern_text" (top 95)
abbrev WR:=cg "pattern_text" 1293 1297 425 1 818
abbrev WS:=fO "pattern_text" "pattern_text" (top 95) m8 823
abbrev WT:=tS 1303 ["words"]
abbrev acs:=fn "quoted" "quoted" (top 96)
abbrev WU:=cg "quoted" 1300 1304 427 1 825
abbrev WV:=fO "quoted" "quoted" (top 96) m8 830
abbrev WW:=tS 1312 ["_law_got"]
abbrev acu:=fn "_law_whole" "_law_whole" (top 98)
abbrev WX:=cg "_law_whole" 1309 1313 430 1 832
abbrev WY:=fO "_law_whole" "_law_whole" (top 98) m9 837
abbrev WZ:=tS 1319 ["_law_got", "_law_due", "_law_item"]
abbrev acv:=fn "_law_same" "_law_same" (top 99)
abbrev W0:=cg "_law_same" 1316 1322 432 2 839
abbrev W2:=fO "_law_same" "_law_same" (top 99) m9 844
abbrev W3:=tS 1328 ["_law_got", "_law_due"]
abbrev acw:=fn "_law_is_cond" "_law_is_cond" (top 100)
abbrev W4:=cg "_law_is_cond" 1325 1330 441 2 846
abbrev W5:=fO "_law_is_cond" "_law_is_cond" (top 100) m9 851
abbrev W6:=tS 1336 ["_law_got", "_law_due"]
abbrev acx:=fn "_law_is_numbered" "_law_is_numbered" (top 101)
abbrev W7:=cg "_law_is_numbered" 1333 1338 461 2 853
abbrev W8:=fO "_law_is_numbered" "_law_is_numbered" (top 101) m9 858
abbrev W9:=tS 1344 ["_law_got", "_law_due"]
abbrev acy:=fn "_law_is_deed" "_law_is_deed" (top 102)
abbrev W_:=cg "_law_is_deed" 1341 1346 473 2 860
abbrev Xa:=fO "_law_is_deed" "_law_is_deed" (top 102) m9 865
abbrev Xb:=tS 1352 ["_law_program", "_law_due", "_law_k", "_law_line"]
abbrev acz:=fn "_law_right" "_law_right" (top 103)
abbrev Xc:=cg "_law_right" 1349 1356 497 2 867
abbrev Xd:=fO "_law_right" "_law_right" (top 103) m9 872
abbrev Xe:=tS 1362 ["_law_cell", "_law_number"]
abbrev acA:=fn "_law_box" "_law_box" (top 104)
abbrev Xf:=cg "_law_box" 1359 1364 507 1 874
abbrev Xg:=fO "_law_box" "_law_box" (top 104) m9 879
abbrev Xh:=tS 1370 ["_law_box_here", "_law_many", "_law_digit"]
abbrev acB:=fn "_law_take" "_law_take" (top 105)
abbrev Xi:=cg "_law_take" 1367 1373 510 2 881
abbrev Xj:=fO "_law_take" "_law_take" (top 105) m9 886
abbrev acC:=fn "_law_any_signs" "_law_any_signs" (top 106)
abbrev Xk:=C "_law_any_signs" "_law_any_signs" 1376 1379 516 3 0 0 3 888 true 889 .none .none .none (r 890)
abbrev Xl:=fO "_law_any_signs" "_law_any_signs" (top 106) m9 891
abbrev Xm:=tS 1385 ["_law_box_here"]
abbrev acD:=fn "_law_any_name" "_law_any_name" (top 107)
abbrev Xn:=cg "_law_any_name" 1382 1386 518 1 893
abbrev Xo:=fO "_law_any_name" "_law_any_name" (top 107) m9 898
abbrev Xp:=tS 1392 ["_law_box_here", "_law_most", "_law_some"]
abbrev acE:=fn "_law_any_words" "_law_any_words" (top 108)
abbrev Xq:=cg "_law_any_words" 1389 1395 520 2 900
abbrev Xr:=fO "_law_any_words" "_law_any_words" (top 108) m9 905
abbrev acF:=fn "_law_any_set" "_law_any_set" (top 109)
abbrev Xs:=C "_law_any_set" "_law_any_set" 1398 1401 523 2 0 0 3 907 true 908 .none .none .none (r 909)
abbrev Xu:=fO "_law_any_set" "_law_any_set" (top 109) m9 910
abbrev Xv:=tS 1407 ["_law_box_here", "_law_number", "_law_many", "_law_behind", "_law_way", "_law_signs", "_law_some", "_law_sign"]
abbrev acG:=fn "_law_any_item" "_law_any_item" (top 110)
abbrev Xw:=cg "_law_any_item" 1404 1415 530 1 912
abbrev Xx:=fO "_law_any_item" "_law_any_item" (top 110) m9 917
abbrev acH:=fn "_law_any_pattern" "_law_any_pattern" (top 111)
abbrev Xy:=C "_law_any_pattern" "_law_any_pattern" 1418 1421 548 2 0 0 3 919 true 920 .none .none .none (r 921)
abbrev Xz:=fO "_law_any_pattern" "_law_any_pattern" (top 111) m9 922
abbrev XA:=tS 1427 ["_law_box_here", "_law_number", "_law_one"]
abbrev acI:=fn "_law_any_end" "_law_any_end" (top 112)
abbrev XC:=cg "_law_any_end" 1424 1430 559 1 924
abbrev XD:=fO "_law_any_end" "_law_any_end" (top 112) m9 929
abbrev XE:=tS 1436 ["_law_box_here", "_law_way", "_law_negated", "_law_head", "_law_cond", "_law_number", "_law_one", "_law_first", "_law_second"]
abbrev acJ:=fn "_law_any_cond" "_law_any_cond" (top 113)
abbrev XF:=cg "_law_any_cond" 1433 1445 565 1 931
abbrev XG:=fO "_law_any_cond" "_law_any_cond" (top 113) m9 936
abbrev acK:=fn "_law_any_swap" "_law_any_swap" (top 114)
abbrev XH:=C "_law_any_swap" "_law_any_swap" 1448 1451 584 2 0 0 3 938 true 939 .none .none .none (r 940)
abbrev XI:=fO "_law_any_swap" "_law_any_swap" (top 114) m9 941
abbrev XJ:=tS 1457 ["_law_box_here", "_law_names", "_law_way", "_law_words", "_law_number", "_law_numbers", "_law_name"]
abbrev acL:=fn "_law_any_deed" "_law_any_deed" (top 115)
abbrev XM:=cg "_law_any_deed" 1454 1464 593 2 943
abbrev XN:=fO "_law_any_deed" "_law_any_deed" (top 115) m9 948
abbrev XO:=tS 1470 ["_law_cell", "_law_names", "_law_box_here", "_law_way", "_law_words", "_law_name", "_law_head", "_law_cond", "_law_text", "_law_deed"]
abbrev acM:=fn "_law_any_line" "_law_any_line" (top 116)
abbrev XQ:=cg "_law_any_line" 1467 1480 618 2 950
abbrev XR:=fO "_law_any_line" "_law_any_line" (top 116) m9 955
abbrev XS:=tS 1486 ["_law_cells", "_law_names", "_law_cell", "_law_box_here"]
abbrev acN:=fn "_law_any_marks" "_law_any_marks" (top 117)
abbrev XT:=cg "_law_any_marks" 1483 1490 632 1 957
abbrev XU:=fO "_law_any_marks" "_law_any_marks" (top 117) m9 962
abbrev XW:=tS 1496 ["_law_cells", "_law_names", "_law_made", "_law_marked", "_law_cell", "_law_is_mark"]
abbrev acO:=fn "_law_any_lines" "_law_any_lines" (top 118)
abbrev XX:=cg "_law_any_lines" 1493 1502 639 1 964
abbrev XY:=fO "_law_any_lines" "_law_any_lines" (top 118) m9 969
abbrev XZ:=tS 1508 ["_law_cells", "_law_made", "_law_k", "_law_cell", "_law_number"]
abbrev acP:=fn "_law_mixed" "_law_mixed" (top 119)
abbrev X0:=cg "_law_mixed" 1505 1513 652 1 971
abbrev X5:=fO "_law_mixed" "_law_mixed" (top 119) m9 976
abbrev acQ:=fn "law" "law" (top 120)
abbrev X6:=C "law" "law" 1516 1519 658 1 0 0 3 978 true 979 .none .none .none (r 980)
abbrev X7:=fO "law" "law" (top 120) m9 981
abbrev t14:=N boot_o_0 (N boot_o_1 (N boot_o_3 (L boot_o_7) (L ae)) (N boot_o_5 (L boot_o_9) (L Hc))) (N boot_o_2 (N boot_o_4 (L boot_o_8) (L aw)) (N boot_o_6 (L boot_o_10) (L Hd)))
abbrev t62:=N boot_o_1 (N o3 (N boot_o_7 (N Hf (N ae (L ME) (L MP)) (N ae (L aU) E)) (N Hg (N Mv (L Ht) E) (N Hq (L Hy) E))) (N ae (N aw (N ae (L aw) E) (N MA (L MM) E)) (N Mq (N ae (L Hx) E) (N gJ (L HA) E)))) (N boot_o_5 (N boot_o_9 (N Ml (N Ms (L MG) E) (N Hl (L ae) E)) (N Hi (N aU (L Hv) E) (N MB (L MO) E))) (N Hc (N Mn (N Hk (L ae) E) (N Hn (L ae) E)) (N aU (N My (L MJ) E) (N MD (L HC) E))))
abbrev acR:=N boot_o_2 (N boot_o_4 (N boot_o_8 (N aU (N aw (L MF) (L MQ)) (N aw (L MK) E)) (N Hh (N gJ (L Hu) E) (N Hr (L ae) E))) (N Vx (N Mm (N Hj (L Hs) E) (N Hm (L MN) E)) (N gJ (N Mx (L MI) E) (N aU (L HB) E)))) (N boot_o_6 (N boot_o_10 (N ae (N Mt (L ae) E) (N ae (L ML) E)) (N Mp (N Mw (L Hw) E) (N MC (L Hz) E))) (N Hd (N ae (N Mu (L MH) E) (N Ho (L aw) E)) (N Mr (N Mz (L gJ) E) (N ae (L HD) E))))
abbrev acS:=N boot_o_0 t62 acR
abbrev acT:=N ab7 (N boot_o_7 (N Hf (N ae (N ME (L q_) E) (N MP (L zf) E)) (N ae (N aU (L aw) E) (N qV (L ae) E))) (N Hg (N Mv (N Ht (L rm) E) (N uI (L zj) E)) (N Hq (N Hy (L zb) E) (N aU (L u3) E)))) (N ae (N aw (N ae (N aw (L rh) E) (N OV (L zg) E)) (N MA (N MM (L uU) E) (N qZ (L rB) E))) (N Mq (N ae (N Hx (L ae) E) (N ae (L zm) E)) (N gJ (N HA (L zd) E) (L uO))))
abbrev acU:=N boot_o_5 (N boot_o_9 (N Ml (N Ms (N MG (L uQ) E) (N ae (L uX) E)) (N Hl (N ae (L uT) E) (N qX (L rz) E))) (N Hi (N aU (N Hv (L uR) E) (N aw (L zk) E)) (N MB (N MO (L bu) E) (L ae)))) (N Hc (N Mn (N Hk (N ae (L rk) E) (N uG (L bu) E)) (N Hn (N ae (L uV) E) (N uL (L rD) E))) (N aU (N My (N MJ (L y_) E) (N qT (L aw) E)) (N MD (N HC (L aw) E) (L ae))))
abbrev acV:=N boot_o_4 (N boot_o_8 (N aU (N aw (N MF (L ae) E) (N MQ (L ae) E)) (N aw (N MK (L za) E) (N qW (L uZ) E))) (N Hh (N gJ (N Hu (L rn) E) (N ae (L ae) E)) (N Hr (N ae (L zc) E) (L uM)))) (N Vy (N Mm (N Hj (N Hs (L rj) E) (N ae (L zh) E)) (N Hm (N MN (L ab8) E) (N uK (L rC) E))) (N gJ (N Mx (N MI (L aU) E) (N uJ (L ae) E)) (N aU (N HB (L ae) E) (L uP))))
abbrev acW:=N boot_o_6 (N boot_o_10 (N ae (N Mt (N ae (L rf) E) (N aU (L uY) E)) (N ae (N ML (L ae) E) (N qY (L rA) E))) (N Mp (N Mw (N Hw (L uS) E) (N qS (L zl) E)) (N MC (N Hz (L aU) E) (L uN)))) (N Hd (N ae (N Mu (N MH (L rl) E) (N uH (L aU) E)) (N Ho (N aw (L uW) E) (N ae (L u0) E))) (N Mr (N Mz (N gJ (L ae) E) (N qU (L rq) E)) (N ae (N HD (L ze) E) (L aw))))
abbrev acX:=N boot_o_0 (N boot_o_1 acT acU) (N boot_o_2 acV acW)
abbrev acY:=N ab9 (N boot_o_7 (N Hf (N ae (N ME (N q_ (L zR) E) (L ae)) (N MP (L zf) (L aw))) (N ae (N aU (N aw (L zZ) E) (L zA)) (N qV (L ae) (L zM)))) (N Hg (N Mv (N Ht (N rm (L ae) E) (L ae)) (N uI (L zj) (L vp))) (N Hq (N Hy (L zb) (L bu)) (N aU (L u3) (L vv))))) (N ae (N aw (N ae (N aw (N rh (L zU) E) (L zt)) (N OV (L zg) (L vj))) (N MA (N MM (L uU) (L vf)) (N qZ (L rB) (L vq)))) (N Mq (N ae (N Hx (N ae (L vG) E) (L ae)) (N ae (L zm) (L aU))) (N gJ (N HA (L zd) (L zE)) (N uO (L ae) (L zP)))))
abbrev acZ:=N boot_o_5 (N boot_o_9 (N Ml (N Ms (N MG (N uQ (L zS) E) (L u9)) (N ae (L uX) (L ae))) (N Hl (N ae (L uT) (L vd)) (N qX (L rz) (L ae)))) (N Hi (N aU (N Hv (N uR (L vD) E) (L zx)) (N aw (L zk) (L zJ))) (N MB (N MO (L bu) (L zD)) (N ae (L aU) (L vA))))) (N Hc (N Mn (N Hk (N ae (N rk (L aw) E) (L aU)) (N uG (L bu) (L vn))) (N Hn (N ae (L uV) (L zB)) (N uL (L rD) (L zO)))) (N aU (N My (N MJ (N y_ (L zX) E) (L u_)) (N qT (L aw) (L ae))) (N MD (N HC (L aw) (L zG)) (N ae (L zp) (L bu)))))
abbrev ac0:=N boot_o_4 (N boot_o_8 (N aU (N aw (N MF (N ae (L ae) E) (L u4)) (N MQ (L ae) (L vh))) (N aw (N MK (L za) (L vc)) (N qW (L uZ) (L zN)))) (N Hh (N gJ (N Hu (N rn (L zV) E) (L zw)) (N ae (L ae) (L zI))) (N Hr (N ae (L zc) (L aU)) (N uM (L bu) (L vz))))) (N Vz (N Mm (N Hj (N Hs (N rj (L ae) E) (L bu)) (N ae (L zh) (L vm))) (N Hm (N MN (L OW) (L vg)) (N uK (L rC) (L ae)))) (N gJ (N Mx (N MI (N aU (L zW) E) (L aw)) (N uJ (L ae) (L zK))) (N aU (N HB (L ae) (L zF)) (N uP (L aw) (L zQ)))))
abbrev ac1:=N boot_o_6 (N boot_o_10 (N ae (N Mt (N ae (N rf (L zT) E) (L zr)) (N aU (L uY) (L zH))) (N ae (N ML (L ae) (L ve)) (N qY (L rA) (L aw)))) (N Mp (N Mw (N Hw (N uS (L vE) E) (L zy)) (N qS (L zl) (L bu))) (N MC (N Hz (L aU) (L ae)) (N uN (L zo) (L vB))))) (N Hd (N ae (N Mu (N MH (N rl (L vC) E) (L zu)) (N uH (L aU) (L vo))) (N Ho (N aw (L uW) (L zC)) (N ae (L u0) (L vt)))) (N Mr (N Mz (N gJ (N ae (L zY) E) (L ae)) (N qU (L rq) (L zL))) (N ae (N HD (L ze) (L ae)) (N aw (L zq) (L aU)))))
abbrev ac2:=N boot_o_0 (N boot_o_1 acY acZ) (N boot_o_2 ac0 ac1)
abbrev ac3:=N ab_ (N boot_o_7 (N Hf (N ae (N ME (N q_ (L zR) E) (N ae (L CV) E)) (N MP (N zf (L ae) E) (L aw))) (N ae (N aU (N aw (L zZ) E) (N zA (L C3) E)) (N qV (N ae (L CP) E) (L zM)))) (N Hg (N Mv (N Ht (N rm (L ae) E) (N ae (L CZ) E)) (N uI (N zj (L CN) E) (L vp))) (N Hq (N Hy (N zb (L ae) E) (L bu)) (N aU (N u3 (L z8) E) (L vv))))) (N ae (N aw (N ae (N aw (N rh (L zU) E) (N zt (L CY) E)) (N OV (N zg (L ae) E) (L vj))) (N MA (N MM (N uU (L ae) E) (N vf (L C4) E)) (N qZ (N rB (L z6) E) (L vq)))) (N Mq (N ae (N Hx (N ae (L vG) E) (N ae (L C1) E)) (N ae (N zm (L aU) E) (L aU))) (N gJ (N HA (N zd (L HK) E) (L zE)) (N uO (N ae (L CT) E) (L zP)))))
abbrev ac4:=N boot_o_5 (N boot_o_9 (N Ml (N Ms (N MG (N uQ (L zS) E) (N u9 (L aw) E)) (N ae (N uX (L HM) E) (L ae))) (N Hl (N ae (N uT (L aU) E) (N vd (L Ad) E)) (N qX (N rz (L ae) E) (L ae)))) (N Hi (N aU (N Hv (N uR (L vD) E) (N zx (L br) E)) (N aw (N zk (L HQ) E) (L zJ))) (N MB (N MO (N bu (L CK) E) (L zD)) (N ae (N aU (L z_) E) (L vA))))) (N Hc (N Mn (N Hk (N ae (N rk (L aw) E) (N aU (L Ab) E)) (N uG (N bu (L aca) E) (L vn))) (N Hn (N ae (N uV (L HG) E) (L zB)) (N uL (N rD (L CS) E) (L zO)))) (N aU (N My (N MJ (N y_ (L zX) E) (N u_ (L aw) E)) (N qT (N aw (L ae) E) (L ae))) (N MD (N HC (N aw (L aU) E) (L zG)) (N ae (N zp (L br) E) (L bu)))))
abbrev ac5:=N boot_o_4 (N boot_o_8 (N aU (N aw (N MF (N ae (L ae) E) (N u4 (L ae) E)) (N MQ (N ae (L aw) E) (L vh))) (N aw (N MK (N za (L bu) E) (N vc (L ae) E)) (N qW (N uZ (L CQ) E) (L zN)))) (N Hh (N gJ (N Hu (N rn (L zV) E) (N zw (L C0) E)) (N ae (N ae (L HP) E) (L zI))) (N Hr (N ae (N zc (L CJ) E) (L aU)) (N uM (N bu (L z9) E) (L vz))))) (N VA (N Mm (N Hj (N Hs (N rj (L ae) E) (N bu (L ae) E)) (N ae (N zh (L CL) E) (L vm))) (N Hm (N MN (N lz (L aw) E) (N vg (L C5) E)) (N uK (N rC (L ae) E) (L ae)))) (N gJ (N Mx (N MI (N aU (L zW) E) (N aw (L ae) E)) (N uJ (N ae (L HR) E) (L zK))) (N aU (N HB (N ae (L ae) E) (L zF)) (N uP (N aw (L CU) E) (L zQ)))))
abbrev ac6:=N boot_o_6 (N boot_o_10 (N ae (N Mt (N ae (N rf (L zT) E) (N zr (L CW) E)) (N aU (N uY (L HN) E) (L zH))) (N ae (N ML (N ae (L HE) E) (N ve (L Ae) E)) (N qY (N rA (L aw) E) (L aw)))) (N Mp (N Mw (N Hw (N uS (L vE) E) (N zy (L aU) E)) (N qS (N zl (L br) E) (L bu))) (N MC (N Hz (N aU (L HJ) E) (L ae)) (N uN (N zo (L Aa) E) (L vB))))) (N Hd (N ae (N Mu (N MH (N rl (L vC) E) (N zu (L Ac) E)) (N uH (N aU (L CM) E) (L vo))) (N Ho (N aw (N uW (L HH) E) (L zC)) (N ae (N u0 (L z7) E) (L vt)))) (N Mr (N Mz (N gJ (N ae (L zY) E) (N ae (L C2) E)) (N qU (N rq (L CO) E) (L zL))) (N ae (N HD (N ze (L HL) E) (L ae)) (N aw (N zq (L aU) E) (L aU)))))
abbrev ac7:=N boot_o_0 (N boot_o_1 ac3 ac4) (N boot_o_2 ac5 ac6)
abbrev X8:=N zf (L ae) (L O4)
abbrev X_:=N zj (L CN) (L IF)
abbrev Yb:=N zb (L ae) (L Iz)
abbrev ac8:=N boot_o_7 (N Hf (N ae (N ME (N q_ (L zR) (L Ik)) (N ae (L CV) E)) (N MP X8 (N aw (L HW) E))) (N ae (N aU (N aw (L zZ) (L aw)) (N zA (L C3) E)) (N qV (N ae (L CP) E) (N zM (L Dc) E)))) (N Hg (N Mv (N Ht (N rm (L ae) (L br)) (N ae (L CZ) E)) (N uI X_ (N vp (L Ia) E))) (N Hq (N Hy Yb (N bu (L HS) E)) (N aU (N u3 (L z8) E) (N vv (L ae) E))))
abbrev Yc:=N zg (L ae) (L IC)
abbrev Yd:=N uU (L ae) (L Ir)
abbrev Ye:=N zm (L aU) (L O5)
abbrev Yg:=N zd (L HK) (L aU)
abbrev ac9:=N acb ac8 (N ae (N aw (N ae (N aw (N rh (L zU) (L Dj)) (N zt (L CY) E)) (N OV Yc (N vj (L HZ) E))) (N MA (N MM Yd (N vf (L C4) E)) (N qZ (N rB (L z6) E) (N vq (L Ie) E)))) (N Mq (N ae (N Hx (N ae (L vG) (L Ip)) (N ae (L C1) E)) (N ae Ye (N aU (L ae) E))) (N gJ (N HA Yg (N zE (L HV) E)) (N uO (N ae (L CT) E) (N zP (L ae) E)))))
abbrev Yh:=N uX (L HM) (L ae)
abbrev Yi:=N zk (L HQ) (L II)
abbrev Yj:=N bu (L CK) (L O2)
abbrev ac_:=N boot_o_9 (N Ml (N Ms (N MG (N uQ (L zS) (L Dh)) (N u9 (L aw) E)) (N ae Yh (N ae (L br) E))) (N Hl (N ae (N uT (L aU) (L ae)) (N vd (L Ad) E)) (N qX (N rz (L ae) E) (N ae (L De) E)))) (N Hi (N aU (N Hv (N uR (L vD) (L Io)) (N zx (L br) E)) (N aw Yi (N zJ (L aw) E))) (N MB (N MO Yj (N zD (L aw) E)) (N ae (N aU (L z_) E) (N vA (L Ii) E))))
abbrev Yk:=N uV (L HG) (L Iv)
abbrev Yl:=N y_ (L zX) (L OZ)
abbrev ada:=N Hc (N Mn (N Hk (N ae (N rk (L aw) (L Il)) (N aU (L Ab) E)) (N uG (N bu (L OX) (L ID)) (N vn (L H0) E))) (N Hn (N ae Yk (N zB (L br) E)) (N uL (N rD (L CS) E) (N zO (L aU) E)))) (N aU (N My (N MJ Yl (N u_ (L aw) E)) (N qT (N aw (L ae) E) (N ae (L C9) E))) (N MD (N HC (N aw (L aU) (L ae)) (N zG (L C6) E)) (N ae (N zp (L br) E) (N bu (L Df) E))))
abbrev Ym:=N za (L bu) (L Iq)
abbrev Yn:=N ae (L HP) (L IG)
abbrev Yo:=N zc (L CJ) (L O1)
abbrev adb:=N boot_o_8 (N aU (N aw (N MF (N ae (L ae) (L Dg)) (N u4 (L ae) E)) (N MQ (N ae (L aw) (L IB)) (N vh (L HX) E))) (N aw (N MK Ym (N vc (L ae) E)) (N qW (N uZ (L CQ) E) (N zN (L Dd) E)))) (N Hh (N gJ (N Hu (N rn (L zV) (L aU)) (N zw (L C0) E)) (N ae Yn (N zI (L ae) E))) (N Hr (N ae Yo (N aU (L ae) E)) (N uM (N bu (L z9) E) (N vz (L Ih) E))))
abbrev Yp:=N zh (L CL) (L ae)
abbrev Yq:=N lz (L aw) (L Iu)
abbrev MR:=N aU (L zW) (L OY)
abbrev MS:=N ae (L HR) (L O6)
abbrev Yr:=N boot_o_4 adb (N VB (N Mm (N Hj (N Hs (N rj (L ae) (L Dk)) (N bu (L ae) E)) (N ae Yp (N vm (L ae) E))) (N Hm (N MN Yq (N vg (L C5) E)) (N uK (N rC (L ae) E) (N ae (L br) E)))) (N gJ (N Mx (N MI MR (N aw (L ae) E)) (N uJ MS (N zK (L Ib) E))) (N aU (N HB (N ae (L ae) (L IA)) (N zF (L ae) E)) (N uP (N aw (L CU) E) (N zQ (L aw) E)))))
abbrev MT:=N uY (L HN) (L aw)
abbrev MU:=N ae (L HE) (L O0)
abbrev MV:=N zl (L br) (L IJ)
abbrev MW:=N aU (L HJ) (L br)
abbrev MX:=N aU (L CM) (L IE)
abbrev MY:=N uW (L HH) (L Iw)
abbrev MZ:=N ze (L HL) (L O3)
abbrev Ys:=N Hd (N ae (N Mu (N MH (N rl (L vC) (L Im)) (N zu (L Ac) E)) (N uH MX (N vo (L H_) E))) (N Ho (N aw MY (N zC (L aU) E)) (N ae (N u0 (L z7) E) (N vt (L Ig) E)))) (N Mr (N Mz (N gJ (N ae (L zY) (L ae)) (N ae (L C2) E)) (N qU (N rq (L CO) E) (N zL (L C_) E))) (N ae (N HD MZ (N ae (L C7) E)) (N aw (N zq (L aU) E) (N aU (L ae) E))))
abbrev Yt:=N boot_o_6 (N boot_o_10 (N ae (N Mt (N ae (N rf (L zT) (L Di)) (N zr (L CW) E)) (N aU MT (N zH (L aU) E))) (N ae (N ML MU (N ve (L Ae) E)) (N qY (N rA (L aw) E) (N aw (L Ic) E)))) (N Mp (N Mw (N Hw (N uS (L vE) (L ae)) (N zy (L aU) E)) (N qS MV (N bu (L C8) E))) (N MC (N Hz MW (N ae (L HU) E)) (N uN (N zo (L Aa) E) (N vB (L Ij) E))))) Ys
abbrev Yu:=N boot_o_0 (N boot_o_1 ac9 (N boot_o_5 ac_ ada)) (N boot_o_2 Yr Yt)
abbrev Yv:=N boot_o_7 (N Hf (N ae (N ME (N q_ (N zR (L aw) E) (L Ik)) (N ae (L CV) (L Pc))) (N MP X8 (N aw (L HW) (L I_)))) (N ae (N aU (N aw (L zZ) (L aw)) (N zA (L C3) (L IY))) (N qV (N ae (L CP) (L O7)) (N zM (L Dc) (L Jf))))) (N Hg (N Mv (N Ht (N rm (N ae (L Jp) E) (L br)) (N ae (L CZ) (L ae))) (N uI X_ (N vp (L Ia) (L aU)))) (N Hq (N Hy Yb (N bu (L HS) (L Pu))) (N aU (N u3 (L z8) (L ae)) (N vv (L ae) (L ae)))))
abbrev Yw:=N ae (N aw (N ae (N aw (N rh (N zU (L Jm) E) (L Dj)) (N zt (L CY) (L ae))) (N OV Yc (N vj (L HZ) (L Jd)))) (N MA (N MM Yd (N vf (L C4) (L br))) (N qZ (N rB (L z6) (L O_)) (N vq (L Ie) (L aw))))) (N Mq (N ae (N Hx (N ae (N vG (L Jr) E) (L Ip)) (N ae (L C1) (L Pk))) (N ae Ye (N aU (L ae) (L PF)))) (N gJ (N HA Yg (N zE (L HV) (L aw))) (N uO (N ae (L CT) (L IP)) (N zP (L ae) (L PM)))))
abbrev Yx:=N boot_o_9 (N Ml (N Ms (N MG (N uQ (N zS (L ae) E) (L Dh)) (N u9 (L aw) (L aU))) (N ae Yh (N ae (L br) (L Jb)))) (N Hl (N ae (N uT (L aU) (L ae)) (N vd (L Ad) (L Po))) (N qX (N rz (L ae) (L O8)) (N ae (L De) (L PK))))) (N Hi (N aU (N Hv (N uR (N vD (L PQ) E) (L Io)) (N zx (L br) (L IU))) (N aw Yi (N zJ (L aw) (L ae)))) (N MB (N MO Yj (N zD (L aw) (L Px))) (N ae (N aU (L z_) (L IL)) (N vA (L Ii) (L Ji)))))
abbrev Yy:=N Hc (N Mn (N Hk (N ae (N rk (N aw (L ae) E) (L Il)) (N aU (L Ab) (L Ph))) (N uG (N bu (L ph) (L ID)) (N vn (L H0) (L PB)))) (N Hn (N ae Yk (N zB (L br) (L Pq))) (N uL (N rD (L CS) (L aw)) (N zO (L aU) (L Jg))))) (N aU (N My (N MJ Yl (N u_ (L aw) (L IW))) (N qT (N aw (L ae) (L br)) (N ae (L C9) (L ae)))) (N MD (N HC (N aw (L aU) (L ae)) (N zG (L C6) (L ae))) (N ae (N zp (L br) (L IS)) (N bu (L Df) (L Jk)))))
abbrev Yz:=N boot_o_8 (N aU (N aw (N MF (N ae (N ae (L Jl) E) (L Dg)) (N u4 (L ae) (L br))) (N MQ (N ae (L aw) (L IB)) (N vh (L HX) (L Ja)))) (N aw (N MK Ym (N vc (L ae) (L IZ))) (N qW (N uZ (L CQ) (L ae)) (N zN (L Dd) (L PJ))))) (N Hh (N gJ (N Hu (N rn (N zV (L ae) E) (L aU)) (N zw (L C0) (L aw))) (N ae Yn (N zI (L ae) (L PD)))) (N Hr (N ae Yo (N aU (L ae) (L Pw))) (N uM (N bu (L z9) (L Pa)) (N vz (L Ih) (L aw)))))
abbrev YA:=N VC (N Mm (N Hj (N Hs (N rj (N ae (L Jo) E) (L Dk)) (N bu (L ae) (L Pe))) (N ae Yp (N vm (L ae) (L Pz)))) (N Hm (N MN Yq (N vg (L C5) (L aU))) (N uK (N rC (L ae) (L ae)) (N ae (L br) (L PL))))) (N gJ (N Mx (N MI MR (N aw (L ae) (L IV))) (N uJ MS (N zK (L Ib) (L PH)))) (N aU (N HB (N ae (L ae) (L IA)) (N zF (L ae) (L I0))) (N uP (N aw (L CU) (L IQ)) (N zQ (L aw) (L Jj)))))
abbrev YB:=N boot_o_10 (N ae (N Mt (N ae (N rf (N zT (L PN) E) (L Di)) (N zr (L CW) (L Pd))) (N aU MT (N zH (L aU) (L Jc)))) (N ae (N ML MU (N ve (L Ae) (L Pp))) (N qY (N rA (L aw) (L O9)) (N aw (L Ic) (L ae))))) (N Mp (N Mw (N Hw (N uS (N vE (L Jq) E) (L ae)) (N zy (L aU) (L ae))) (N qS MV (N bu (L C8) (L aw)))) (N MC (N Hz MW (N ae (L HU) (L ae))) (N uN (N zo (L Aa) (L IM)) (N vB (L Ij) (L ae)))))
abbrev YC:=N Hd (N ae (N Mu (N MH (N rl (N vC (L aw) E) (L Im)) (N zu (L Ac) (L Pj))) (N uH MX (N vo (L H_) (L br)))) (N Ho (N aw MY (N zC (L aU) (L ae))) (N ae (N u0 (L z7) (L IK)) (N vt (L Ig) (L Jh))))) (N Mr (N Mz (N gJ (N ae (L zY) (L ae)) (N ae (L C2) (L IX))) (N qU (N rq (L CO) (L aU)) (N zL (L C_) (L Je)))) (N ae (N HD MZ (N ae (L C7) (L Py))) (N aw (N zq (L aU) (L Pb)) (N aU (L ae) (L ae)))))
abbrev YD:=N boot_o_0 (N boot_o_1 (N acd Yv Yw) (N boot_o_5 Yx Yy)) (N boot_o_2 (N boot_o_4 Yz YA) (N boot_o_6 YB YC))
abbrev YE:=N Hf (N ae (N ME (N q_ (N zR (L aw) E) (N Ik (L QJ) E)) (N ae (N CV (L VM) E) (N Pc (L Ri) E))) (N MP (N zf (N ae (L P1) E) (N O4 (L Q0) E)) (N aw (N HW (L Qu) E) (N I_ (L Rx) E)))) (N ae (N aU (N aw (N zZ (L ae) E) (N aw (L aw) E)) (N zA (N C3 (L aw) E) (N IY (L Wa) E))) (N qV (N ae (N CP (L P_) E) (N O7 (L ae) E)) (N zM (N Dc (L VW) E) (L Jf))))
abbrev YF:=N Hg (N Mv (N Ht (N rm (N ae (L Jp) E) (N br (L QO) E)) (N ae (N CZ (L Qk) E) (N ae (L ae) E))) (N uI (N zj (N CN (L P7) E) (N IF (L Q5) E)) (N vp (N Ia (L ae) E) (L aU)))) (N Hq (N Hy (N zb (N ae (L VF) E) (N Iz (L V3) E)) (N bu (N HS (L aU) E) (N Pu (L Rt) E))) (N aU (N u3 (N z8 (L ae) E) (N ae (L aw) E)) (N vv (N ae (L QF) E) (L ae))))
abbrev YG:=N aw (N ae (N aw (N rh (N zU (L Jm) E) (N Dj (L ae) E)) (N zt (N CY (L aw) E) (N ae (L Rk) E))) (N OV (N zg (N ae (L P5) E) (N IC (L Q3) E)) (N vj (N HZ (L Qw) E) (N Jd (L ae) E)))) (N MA (N MM (N uU (N ae (L ae) E) (N Ir (L QV) E)) (N vf (N C4 (L Qq) E) (N br (L aw) E))) (N qZ (N rB (N z6 (L Qc) E) (N O_ (L V7) E)) (N vq (N Ie (L aw) E) (L aw))))
abbrev YH:=N Mq (N ae (N Hx (N ae (N vG (L Jr) E) (N Ip (L QT) E)) (N ae (N C1 (L VO) E) (N Pk (L ae) E))) (N ae (N zm (N aU (L P8) E) (N O5 (L ae) E)) (N aU (N ae (L ae) E) (L PF)))) (N gJ (N HA (N zd (N HK (L aw) E) (N aU (L aw) E)) (N zE (N HV (L VS) E) (N aw (L Rv) E))) (N uO (N ae (N CT (L ae) E) (N IP (L Rf) E)) (N zP (N ae (L QH) E) (L PM))))
abbrev YI:=N Ml (N Ms (N MG (N uQ (N zS (L ae) E) (N Dh (L aw) E)) (N u9 (N aw (L Qi) E) (N aU (L V9) E))) (N ae (N uX (N HM (L ae) E) (N ae (L ae) E)) (N ae (N br (L VU) E) (N Jb (L aw) E)))) (N Hl (N ae (N uT (N aU (L PU) E) (N ae (L ae) E)) (N vd (N Ad (L ae) E) (N Po (L Rq) E))) (N qX (N rz (N ae (L VJ) E) (N O8 (L Q9) E)) (N ae (N De (L QD) E) (L PK))))
abbrev YJ:=N Hi (N aU (N Hv (N uR (N vD (L PQ) E) (N Io (L QQ) E)) (N zx (N br (L ae) E) (N IU (L Rm) E))) (N aw (N zk (N HQ (L aw) E) (N II (L aw) E)) (N zJ (N aw (L Qy) E) (L ae)))) (N MB (N MO (N bu (N CK (L PZ) E) (N O2 (L QY) E)) (N zD (N aw (L ae) E) (N Px (L ae) E))) (N ae (N aU (N z_ (L Qe) E) (N IL (L ae) E)) (N vA (N Ii (L ae) E) (L Ji))))
abbrev YK:=N Mn (N Hk (N ae (N rk (N aw (L ae) E) (N Il (L QM) E)) (N aU (N Ab (L ae) E) (N Ph (L aw) E))) (N uG (N bu (N ph (L VH) E) (N ID (L V5) E)) (N vn (N H0 (L aw) E) (N PB (L Rz) E)))) (N Hn (N ae (N uV (N HG (L PX) E) (N Iv (L ae) E)) (N zB (N br (L Qt) E) (N Pq (L ae) E))) (N uL (N rD (N CS (L aw) E) (N aw (L Ra) E)) (N zO (N aU (L ae) E) (L Jg))))
abbrev YL:=N aU (N My (N MJ (N y_ (N zX (L aw) E) (N OZ (L V1) E)) (N u_ (N aw (L Qn) E) (N IW (L Ro) E))) (N qT (N aw (N ae (L ae) E) (N br (L Q7) E)) (N ae (N C9 (L QA) E) (L ae)))) (N MD (N HC (N aw (N aU (L ae) E) (N ae (L ae) E)) (N zG (N C6 (L ae) E) (N ae (L Wc) E))) (N ae (N zp (N br (L Qg) E) (N IS (L ae) E)) (N bu (N Df (L VY) E) (L Jk))))
abbrev YM:=N aU (N aw (N MF (N ae (N ae (L Jl) E) (N Dg (L ae) E)) (N u4 (N ae (L Qh) E) (N br (L ae) E))) (N MQ (N ae (N aw (L P4) E) (N IB (L Q2) E)) (N vh (N HX (L ae) E) (N Ja (L ae) E)))) (N aw (N MK (N za (N bu (L VE) E) (N Iq (L QU) E)) (N vc (N ae (L Qp) E) (N IZ (L Rp) E))) (N qW (N uZ (N CQ (L ae) E) (N ae (L aw) E)) (N zN (N Dd (L QC) E) (L PJ))))
abbrev YN:=N Hh (N gJ (N Hu (N rn (N zV (L ae) E) (N aU (L QP) E)) (N zw (N C0 (L Ql) E) (N aw (L V_) E))) (N ae (N ae (N HP (L ae) E) (N IG (L ae) E)) (N zI (N ae (L VV) E) (L PD)))) (N Hr (N ae (N zc (N CJ (L PY) E) (N O1 (L QX) E)) (N aU (N ae (L VQ) E) (N Pw (L Ru) E))) (N uM (N bu (N z9 (L VL) E) (N Pa (L Rb) E)) (N vz (N Ih (L QG) E) (L aw))))
abbrev YO:=N Mm (N Hj (N Hs (N rj (N ae (L Jo) E) (N Dk (L VZ) E)) (N bu (N ae (L Qj) E) (N Pe (L ae) E))) (N ae (N zh (N CL (L ae) E) (N ae (L ae) E)) (N vm (N ae (L ae) E) (N Pz (L Wd) E)))) (N Hm (N MN (N lz (N aw (L aw) E) (N Iu (L QW) E)) (N vg (N C5 (L Qs) E) (N aU (L Rr) E))) (N uK (N rC (N ae (L ae) E) (N ae (L Q_) E)) (N ae (N br (L QE) E) (L PL))))
abbrev YQ:=N gJ (N Mx (N MI (N aU (N zW (L ae) E) (N OY (L V0) E)) (N aw (N ae (L Qm) E) (N IV (L aw) E))) (N uJ (N ae (N HR (L P9) E) (N O6 (L V6) E)) (N zK (N Ib (L aw) E) (L PH)))) (N aU (N HB (N ae (N ae (L P0) E) (N IA (L QZ) E)) (N zF (N ae (L VT) E) (N I0 (L ae) E))) (N uP (N aw (N CU (L aw) E) (N IQ (L Rg) E)) (N zQ (N aw (L ae) E) (L Jj))))
abbrev YR:=N ae (N Mt (N ae (N rf (N zT (L PN) E) (N Di (L QK) E)) (N zr (N CW (L ae) E) (N Pd (L Rj) E))) (N aU (N uY (N HN (L aw) E) (N aw (L aw) E)) (N zH (N aU (L Qv) E) (N Jc (L Ry) E)))) (N ae (N ML (N ae (N HE (L PV) E) (N O0 (L V2) E)) (N ve (N Ae (L VP) E) (N Pp (L ae) E))) (N qY (N rA (N aw (L Qa) E) (N O9 (L ae) E)) (N aw (N Ic (L ae) E) (L ae))))
abbrev YS:=N Mp (N Mw (N Hw (N uS (N vE (L Jq) E) (N ae (L QR) E)) (N zy (N aU (L aw) E) (N ae (L Rn) E))) (N qS (N zl (N br (L VI) E) (N IJ (L Q6) E)) (N bu (N C8 (L Qz) E) (L aw)))) (N MC (N Hz (N aU (N HJ (L ae) E) (N br (L ae) E)) (N ae (N HU (L VR) E) (N ae (L aw) E))) (N uN (N zo (N Aa (L Qf) E) (N IM (L V8) E)) (N vB (N Ij (L aw) E) (L ae))))
abbrev YT:=N ae (N Mu (N MH (N rl (N vC (L aw) E) (N Im (L QN) E)) (N zu (N Ac (L VN) E) (N Pj (L Rl) E))) (N uH (N aU (N CM (L P6) E) (N IE (L Q4) E)) (N vo (N H_ (L Qx) E) (N br (L RA) E)))) (N Ho (N aw (N uW (N HH (L ae) E) (N Iw (L aw) E)) (N zC (N aU (L ae) E) (N ae (L Wb) E))) (N ae (N u0 (N z7 (L Qd) E) (N IK (L ae) E)) (N vt (N Ig (L VX) E) (L Jh))))
abbrev YU:=N Mr (N Mz (N gJ (N ae (N zY (L PR) E) (N ae (L ae) E)) (N ae (N C2 (L ae) E) (N IX (L ae) E))) (N qU (N rq (N CO (L aw) E) (N aU (L Q8) E)) (N zL (N C_ (L ae) E) (L Je)))) (N ae (N HD (N ze (N HL (L VG) E) (N O3 (L V4) E)) (N ae (N C7 (L aw) E) (N Py (L Rw) E))) (N aw (N zq (N aU (L ae) E) (N Pb (L aw) E)) (N aU (N ae (L QI) E) (L ae))))
abbrev YV:=N boot_o_0 (N boot_o_1 (N ace (N boot_o_7 YE YF) (N ae YG YH)) (N boot_o_5 (N boot_o_9 YI YJ) (N Hc YK YL))) (N boot_o_2 (N boot_o_4 (N boot_o_8 YM YN) (N VD YO YQ)) (N boot_o_6 (N boot_o_10 YR YS) (N Hd YT YU)))
abbrev YW:=N Hf (N ae (N ME (N q_ (N zR (L aw) (L ae)) (N Ik (L QJ) (L Xm))) (N ae (N CV (L VM) (L WV)) (N Pc (L Ri) (L XS)))) (N MP (N zf (N ae (L P1) (L WG)) (N O4 (L Q0) (L ae))) (N aw (N HW (L Qu) (L ae)) (N I_ (L Rx) E)))) (N ae (N aU (N aw (N zZ (L ae) (L Wx)) (N aw (L aw) (L Xu))) (N zA (N C3 (L aw) (L aw)) (N IY (L Wa) (L acP)))) (N qV (N ae (N CP (L P_) (L acq)) (N O7 (L ae) (L ae))) (N zM (N Dc (L VW) (L Xf)) (N Jf (L aw) E))))
abbrev YX:=N Hg (N Mv (N Ht (N rm (N ae (L Jp) (L acj)) (N br (L QO) (L ae))) (N ae (N CZ (L Qk) (L ae)) (N ae (L ae) (L ae)))) (N uI (N zj (N CN (L P7) (L ae)) (N IF (L Q5) (L acJ))) (N vp (N Ia (L ae) (L acz)) (N aU (L ae) E)))) (N Hq (N Hy (N zb (N ae (L VF) (L WC)) (N Iz (L V3) (L ae))) (N bu (N HS (L aU) (L W6)) (N Pu (L Rt) E))) (N aU (N u3 (N z8 (L ae) (L WR)) (N ae (L aw) (L aw))) (N vv (N ae (L QF) (L Xj)) (N ae (L Wm) E))))
abbrev YY:=N aw (N ae (N aw (N rh (N zU (L Jm) (L ae)) (N Dj (L ae) (L Xo))) (N zt (N CY (L aw) (L ae)) (N ae (L Rk) (L XU)))) (N OV (N zg (N ae (L P5) (L WI)) (N IC (L Q3) (L ae))) (N vj (N HZ (L Qw) (L ae)) (N Jd (L ae) E)))) (N MA (N MM (N uU (N ae (L ae) (L Wz)) (N Ir (L QV) (L ae))) (N vf (N C4 (L Qq) (L W4)) (N br (L aw) (L aw)))) (N qZ (N rB (N z6 (L Qc) (L aw)) (N O_ (L V7) (L acL))) (N vq (N Ie (L aw) (L Xh)) (N aw (L Wk) E))))
abbrev YZ:=N Mq (N ae (N Hx (N ae (N vG (L Jr) (L aw)) (N Ip (L QT) (L ae))) (N ae (N C1 (L VO) (L acv)) (N Pk (L ae) (L ae)))) (N ae (N zm (N aU (L P8) (L ae)) (N O5 (L ae) (L aw))) (N aU (N ae (L ae) (L aw)) (N PF (L acf) E)))) (N gJ (N HA (N zd (N HK (L aw) (L WD)) (N aU (L aw) (L Xz))) (N zE (N HV (L VS) (L W8)) (N aw (L Rv) E))) (N uO (N ae (N CT (L ae) (L WT)) (N IP (L Rf) (L XQ))) (N zP (N ae (L QH) (L Xk)) (N PM (L Wo) E))))
abbrev Y0:=N Ml (N Ms (N MG (N uQ (N zS (L ae) (L Wr)) (N Dh (L aw) (L acD))) (N u9 (N aw (L Qi) (L aw)) (N aU (L V9) (L acN)))) (N ae (N uX (N HM (L ae) (L aco)) (N ae (L ae) (L XC))) (N ae (N br (L VU) (L W_)) (N Jb (L aw) E)))) (N Hl (N ae (N uT (N aU (L PU) (L ae)) (N ae (L ae) (L aw))) (N vd (N Ad (L ae) (L ae)) (N Po (L Rq) (L X5)))) (N qX (N rz (N ae (L VJ) (L WO)) (N O8 (L Q9) (L XJ))) (N ae (N De (L QD) (L ae)) (N PK (L ae) E))))
abbrev Y3:=N Hi (N aU (N Hv (N uR (N vD (L PQ) (L Wv)) (N Io (L QQ) (L Xq))) (N zx (N br (L ae) (L WZ)) (N IU (L Rm) (L XX)))) (N aw (N zk (N HQ (L aw) (L WK)) (N II (L aw) (L XG))) (N zJ (N aw (L Qy) (L Xd)) (N ae (L Wg) E)))) (N MB (N MO (N bu (N CK (L PZ) (L aw)) (N O2 (L QY) (L acH))) (N zD (N aw (L ae) (L acx)) (N Px (L ae) E))) (N ae (N aU (N z_ (L Qe) (L ae)) (N IL (L ae) (L ae))) (N vA (N Ii (L ae) (L aw)) (N Ji (L ach) E))))
abbrev Y4:=N Mn (N Hk (N ae (N rk (N aw (L ae) (L Wt)) (N Il (L QM) (L aw))) (N aU (N Ab (L ae) (L WX)) (N Ph (L aw) (L aw)))) (N uG (N bu (N ph (L VH) (L aw)) (N ID (L V5) (L XE))) (N vn (N H0 (L aw) (L Xb)) (N PB (L Rz) E)))) (N Hn (N ae (N uV (N HG (L PX) (L acm)) (N Iv (L ae) (L Xw))) (N zB (N br (L Qt) (L ae)) (N Pq (L ae) (L X6)))) (N uL (N rD (N CS (L aw) (L ae)) (N aw (L Ra) (L XN))) (N zO (N aU (L ae) (L acB)) (N Jg (L ae) E))))
abbrev Y5:=N aU (N My (N MJ (N y_ (N zX (L aw) (L ae)) (N OZ (L V1) (L acF))) (N u_ (N aw (L Qn) (L W2)) (N IW (L Ro) (L XZ)))) (N qT (N aw (N ae (L ae) (L WM)) (N br (L Q7) (L XH))) (N ae (N C9 (L QA) (L ae)) (N ae (L Wi) E)))) (N MD (N HC (N aw (N aU (L ae) (L ae)) (N ae (L ae) (L aw))) (N zG (N C6 (L ae) (L aw)) (N ae (L Wc) E))) (N ae (N zp (N br (L Qg) (L acs)) (N IS (L ae) (L ae))) (N bu (N Df (L VY) (L ae)) (N Jk (L aw) E))))
abbrev Y6:=N aU (N aw (N MF (N ae (N ae (L Jl) (L aci)) (N Dg (L ae) (L ae))) (N u4 (N ae (L Qh) (L ae)) (N br (L ae) (L ae)))) (N MQ (N ae (N aw (L P4) (L ae)) (N IB (L Q2) (L acI))) (N vh (N HX (L ae) (L acy)) (N Ja (L ae) E)))) (N aw (N MK (N za (N bu (L VE) (L Wy)) (N Iq (L QU) (L ae))) (N vc (N ae (L Qp) (L W3)) (N IZ (L Rp) (L X0)))) (N qW (N uZ (N CQ (L ae) (L WN)) (N ae (L aw) (L aw))) (N zN (N Dd (L QC) (L Xg)) (N PJ (L Wj) E))))
abbrev Y7:=N Hh (N gJ (N Hu (N rn (N zV (L ae) (L Wu)) (N aU (L QP) (L acE))) (N zw (N C0 (L Ql) (L aw)) (N aw (L V_) (L acO)))) (N ae (N ae (N HP (L ae) (L acp)) (N IG (L ae) (L XF))) (N zI (N ae (L VV) (L Xc)) (N PD (L aw) E)))) (N Hr (N ae (N zc (N CJ (L PY) (L ae)) (N O1 (L QX) (L aw))) (N aU (N ae (L VQ) (L ae)) (N Pw (L Ru) E))) (N uM (N bu (N z9 (L VL) (L WS)) (N Pa (L Rb) (L XO))) (N vz (N Ih (L QG) (L ae)) (N aw (L ae) E))))
abbrev Y8:=N Mm (N Hj (N Hs (N rj (N ae (L Jo) (L aw)) (N Dk (L VZ) (L ae))) (N bu (N ae (L Qj) (L acu)) (N Pe (L ae) (L ae)))) (N ae (N zh (N CL (L ae) (L ae)) (N ae (L ae) (L aw))) (N vm (N ae (L ae) (L aw)) (N Pz (L Wd) E)))) (N Hm (N MN (N lz (N aw (L aw) (L ae)) (N Iu (L QW) (L acG))) (N vg (N C5 (L Qs) (L W5)) (N aU (L Rr) (L acQ)))) (N uK (N rC (N ae (L ae) (L WQ)) (N ae (L Q_) (L XM))) (N ae (N br (L QE) (L ae)) (N PL (L Wl) E))))
abbrev Y9:=N gJ (N Mx (N MI (N aU (N zW (L ae) (L Ww)) (N OY (L V0) (L aw))) (N aw (N ae (L Qm) (L W0)) (N IV (L aw) (L aw)))) (N uJ (N ae (N HR (L P9) (L aw)) (N O6 (L V6) (L acK))) (N zK (N Ib (L aw) (L Xe)) (N PH (L Wh) E)))) (N aU (N HB (N ae (N ae (L P0) (L WE)) (N IA (L QZ) (L ae))) (N zF (N ae (L VT) (L ae)) (N I0 (L ae) E))) (N uP (N aw (N CU (L aw) (L ae)) (N IQ (L Rg) (L XR))) (N zQ (N aw (L ae) (L Xl)) (N Jj (L ae) E))))
abbrev Y_:=N ae (N Mt (N ae (N rf (N zT (L PN) (L Ws)) (N Di (L QK) (L Xn))) (N zr (N CW (L ae) (L WW)) (N Pd (L Rj) (L XT)))) (N aU (N uY (N HN (L aw) (L WH)) (N aw (L aw) (L XD))) (N zH (N aU (L Qv) (L Xa)) (N Jc (L Ry) E)))) (N ae (N ML (N ae (N HE (L PV) (L aw)) (N O0 (L V2) (L Xv))) (N ve (N Ae (L VP) (L acw)) (N Pp (L ae) (L ae)))) (N qY (N rA (N aw (L Qa) (L ae)) (N O9 (L ae) (L ae))) (N aw (N Ic (L ae) (L aw)) (N ae (L acg) E))))
abbrev Za:=N Mp (N Mw (N Hw (N uS (N vE (L Jq) (L ae)) (N ae (L QR) (L Xr))) (N zy (N aU (L aw) (L ae)) (N ae (L Rn) (L XY)))) (N qS (N zl (N br (L VI) (L WL)) (N IJ (L Q6) (L ae))) (N bu (N C8 (L Qz) (L ae)) (N aw (L ae) E)))) (N MC (N Hz (N aU (N HJ (L ae) (L acn)) (N br (L ae) (L Xy))) (N ae (N HU (L VR) (L W7)) (N ae (L aw) E))) (N uN (N zo (N Aa (L Qf) (L aw)) (N IM (L V8) (L acM))) (N vB (N Ij (L aw) (L acC)) (N ae (L Wn) E))))
abbrev Zb:=N ae (N Mu (N MH (N rl (N vC (L aw) (L ae)) (N Im (L QN) (L Xp))) (N zu (N Ac (L VN) (L WY)) (N Pj (L Rl) (L XW)))) (N uH (N aU (N CM (L P6) (L WJ)) (N IE (L Q4) (L ae))) (N vo (N H_ (L Qx) (L ae)) (N br (L RA) E)))) (N Ho (N aw (N uW (N HH (L ae) (L WA)) (N Iw (L aw) (L Xx))) (N zC (N aU (L ae) (L aw)) (N ae (L Wb) (L X7)))) (N ae (N u0 (N z7 (L Qd) (L acr)) (N IK (L ae) (L ae))) (N vt (N Ig (L VX) (L Xi)) (N Jh (L aw) E))))
abbrev Zc:=N Mr (N Mz (N gJ (N ae (N zY (L PR) (L ack)) (N ae (L ae) (L Xs))) (N ae (N C2 (L ae) (L ae)) (N IX (L ae) (L ae)))) (N qU (N rq (N CO (L aw) (L ae)) (N aU (L Q8) (L XI))) (N zL (N C_ (L ae) (L acA)) (N Je (L ae) E)))) (N ae (N HD (N ze (N HL (L VG) (L aw)) (N O3 (L V4) (L XA))) (N ae (N C7 (L aw) (L W9)) (N Py (L Rw) E))) (N aw (N zq (N aU (L ae) (L WU)) (N Pb (L aw) (L aw))) (N aU (N ae (L QI) (L aw)) (N ae (L Wq) E))))
abbrev M0:=N boot_o_0 (N boot_o_1 (N We (N boot_o_7 YW YX) (N ae YY YZ)) (N boot_o_5 (N boot_o_9 Y0 Y3) (N Hc Y4 Y5))) (N boot_o_2 (N boot_o_4 (N boot_o_8 Y6 Y7) (N Wf Y8 Y9)) (N boot_o_6 (N boot_o_10 Y_ Za) (N Hd Zb Zc)))
abbrev lf:Life:=⟨[],[],[],0,[],[],false,#[],[],0,false,false,false,0,[2000,10,10],false,0,true,[],[],0,false⟩
abbrev TA (w:World) (os:OsState):SharedT:=⟨t14 w.params,15,lf,⟨[]⟩,⟨0,0,0,0⟩,187,os⟩
abbrev T0 (w:World) (os:OsState):SharedT:=⟨acS w.params,97,lf,⟨[]⟩,⟨0,0,0,0⟩,300,os⟩
abbrev T1 (w:World) (os:OsState):SharedT:=⟨acX w.params,184,lf,⟨[]⟩,⟨0,0,0,0⟩,421,os⟩
abbrev T2 (w:World) (os:OsState):SharedT:=⟨ac2 w.params,272,lf,⟨[]⟩,⟨0,0,0,0⟩,541,os⟩
abbrev T3 (w:World) (os:OsState):SharedT:=⟨ac7 w.params,341,lf,⟨[]⟩,⟨0,0,0,0⟩,634,os⟩
abbrev T4 (w:World) (os:OsState):SharedT:=⟨Yu w.params,429,lf,⟨[]⟩,⟨0,0,0,0⟩,756,os⟩
abbrev T5 (w:World) (os:OsState):SharedT:=⟨YD w.params,524,lf,⟨[]⟩,⟨0,0,0,0⟩,904,os⟩
abbrev T6 (w:World) (os:OsState):SharedT:=⟨YV w.params,743,lf,⟨[]⟩,⟨0,0,0,0⟩,1196,os⟩
abbrev T7 (w:World) (os:OsState):SharedT:=⟨M0 w.params,983,lf,⟨[]⟩,⟨0,0,0,0⟩,1522,os⟩
abbrev bE:List Stmt:=behindTheImports pw
abbrev nv:Env:={ scope:=pw.main.scope,locals:=mainNs,globals:=mainNs,cells:=[],code:=(r 13),frame:=some 14 }
abbrev cE:Code:=.body bE nv
abbrev BF:List Frame:=[topFrame ⟨0,0,0,0⟩]
abbrev an:Option Value:=(some (r 6))
abbrev Zd:List Stmt:=(bE.drop 0).take 7
abbrev Ze:List Stmt:=(bE.drop 7).take 5
abbrev Zf:List Stmt:=(bE.drop 12).take 5
abbrev Zg:List Stmt:=(bE.drop 17).take 5
abbrev Zh:List Stmt:=(bE.drop 22).take 5
abbrev Zi:List Stmt:=(bE.drop 27).take 19
abbrev Zj:List Stmt:=(bE.drop 46).take 34
abbrev Zk:List Stmt:=(bE.drop 80).take 41
abbrev S0 (w:World) (os:OsState):Shared:=⟨boot_heap w.params,Array.mk [],boot_drawn,boot_toks,os⟩
abbrev th0:Thread:=piecesOf Zd nv cE ⟨0,0,0,0⟩ BF
abbrev th1:Thread:=piecesOf Ze nv cE ⟨18,0,18,8⟩ BF
abbrev th2:Thread:=piecesOf Zf nv cE ⟨32,0,35,28⟩ BF
abbrev th3:Thread:=piecesOf Zg nv cE ⟨52,0,55,26⟩ BF
abbrev th4:Thread:=piecesOf Zh nv cE ⟨66,0,67,8⟩ BF
abbrev th5:Thread:=piecesOf Zi nv cE ⟨84,0,88,24⟩ BF
abbrev th6:Thread:=piecesOf Zj nv cE ⟨124,0,135,31⟩ BF
abbrev th7:Thread:=piecesOf Zk nv cE ⟨332,0,337,43⟩ BF
abbrev thA:Thread:=⟨denote treeTable cE,cE,⟨0,0,0,0⟩,BF⟩
abbrev thB:Thread:=blockOf bE nv cE ⟨0,0,0,0⟩ BF
abbrev thF:Thread:=⟨doneF .next,cE,⟨658,0,675,78⟩,BF⟩
noncomputable abbrev as:List Addr:=[2,3,15,22,23,24,25,28,35,36,37,40,47,49,50,52,53,54,55,56,59,66,68,69,71,72,73,74,75,78,85,87,88,90,91,92,93,94,104,106,107,109,110,111,112,113,114,115,125,127,128,130,131,132,133,134,135,136,146,147,148,149,150,153,160,161,162,165,172,174,175,177,178,179,180,181,184,191,192,193,196,203,205,206,208,209,210,211,212,215,222,224,225,227,228,229,230,231,234,241,243,244,246,247,248,249,250,253,260,262,263,265,266,267,268,269,272,279,280,281,291,292,293,294,295,298,305,307,308,310,311,312,313,314,317,324,325,326,329,336,337,338,341,348,349,350,353,360,362,363,365,366,367,368,369,372,379,381,382,384,385,386,387,388,391,398,400,401,403,404,405,406,407,410,417,419,420,422,423,424,425,426,429,436,438,439,441,442,443,444,445,448,455,457,458,460,461,462,463,464,467,474,476,477,479,480,481,482,483,486,493,494,495,498,501,502,503,505,506,508,509,510,512,513,515,516,517,519,520,522,523,524,526,527,529,530,531,533,534,536,537,538,540,541,543,544,545,547,548,550,551,552,555,556,557,559,560,562,563,564,566,567,569,570,571,573,574,576,577,578,580,581,583,584,585,588,589,590,592,593,595,596,597,605,607,608,610,611,612,614,615,617,618,619,621,622,624,625,626,628,629,631,632,633,635,636,638,639,640,642,643,645,646,647,648,649,650,651,654,656,657,659,660,661,664,665,666,668,669,671,672,673,675,676,678,679,680,682,683,685,686,687,689,690,692,693,694,696,697,699,700,701,703,704,706,707,708,710,711,713,714,715,717,718,720,721,722,724,725,727,728,729,731,732,734,735,736,738,739,741,742,743,745,746,748,749,750,752,753,755,756,757,759,760,762,763,764,766,767,769,770,771,773,774,776,777,778,780,781,783,784,785,787,788,790,791,792,795,796,797,799,800,802,803,804,806,807,809,810,811,813,814,816,817,818,820,821,823,824,825,827,828,830,831,832,834,835,837,838,839,841,842,844,845,846,848,849,851,852,853,855,856,858,859,860,862,863,865,866,867,869,870,872,873,874,876,877,879,880,881,883,884,886,887,888,891,892,893,895,896,898,899,900,902,903,905,906,907,910,911,912,914,915,917,918,919,922,923,924,926,927,929,930,931,933,934,936,937,938,941,942,943,945,946,948,949,950,952,953,955,956,957,959,960,962,963,964,966,967,969,970,971,973,974,976,977,978,981,982]
abbrev K (P:Params):Frag:=as.zip ([boot_o_2,We,Hf,ae,Hg,Hh,Hi,gJ,ae,Hj,Hk,gJ,ae,Hl,ae,Hm,Hn,Ho,Hq,Hr,gJ,ae,Hs,ae,Ht,Hu,Hv,Hw,Hx,gJ,ae,Hy,ae,Hz,HA,HB,HC,HD,ae,qS,ae,qT,qU,qV,qW,qX,qY,qZ,ae,q_,ae,rf,rh,rj,rk,rl,rm,rn,ae,uU,lz,uV,uW,bu,ae,uX,uY,bu,ae,rq,ae,rz,rA,rB,rC,rD,bu,ae,u4,u9,bu,ae,u_,ae,vc,vd,ve,vf,vg,bu,ae,vh,ae,vj,vm,vn,vo,vp,bu,ae,vq,ae,vt,vv,vz,vA,vB,bu,ae,vC,ae,vD,vE,vG,zW,zX,bu,ae,CJ,CK,ae,CL,ph,CM,CN,br,ae,z6,ae,z7,z8,z9,z_,Aa,br,ae,Ab,Ac,br,ae,Ad,Ae,br,ae,C6,C7,br,ae,C8,ae,C9,C_,Dc,Dd,De,br,ae,Df,ae,Dg,Dh,Di,Dj,Dk,br,ae,Iq,ae,Ir,Iu,Iv,Iw,Iz,br,ae,IC,ae,IE,IF,IG,II,IJ,br,ae,IK,ae,IL,IM,IP,IQ,IS,br,ae,IU,ae,IV,IW,IX,IY,IZ,br,ae,I0,ae,I_,Ja,Jb,Jc,Jd,br,ae,Je,Jf,ae,Jg,Jh,ae,Ji,ae,Jj,Jk,ae,Jl,ae,Jm,Jo,ae,Jp,ae,Jq,Jr,ae,PR,ae,PU,PV,ae,PX,ae,PY,PZ,ae,P0,ae,P1,P4,ae,P5,ae,P6,P7,ae,P8,P9,ae,P_,ae,Qa,Qc,ae,Qd,ae,Qe,Qf,ae,Qg,ae,Qh,Qi,ae,Qj,ae,Qk,Ql,ae,Qm,Qn,ae,Qp,ae,Qq,Qs,Qt,ae,Qu,ae,Qv,Qw,ae,Qx,ae,Qy,Qz,ae,QA,ae,QC,QD,ae,QE,ae,QF,QG,ae,QH,ae,QI,QJ,ae,QK,ae,QM,QN,QO,QP,QQ,QR,QT,ae,QU,ae,QV,QW,ae,QX,QY,ae,QZ,ae,Q0,Q2,ae,Q3,ae,Q4,Q5,ae,Q6,ae,Q7,Q8,ae,Q9,ae,Q_,Ra,ae,Rb,ae,Rf,Rg,ae,Ri,ae,Rj,Rk,ae,Rl,ae,Rm,Rn,ae,Ro,ae,Rp,Rq,ae,Rr,ae,Rt,Ru,ae,Rv,ae,Rw,Rx,ae,Ry,ae,Rz,RA,ae,Wg,ae,Wh,Wi,ae,Wj,ae,Wk,Wl,ae,Wm,ae,Wn,Wo,ae,Wq,ae,Wr,Ws,ae,Wt,ae,Wu,Wv,ae,Ww,ae,Wx,Wy,ae,Wz,ae,WA,WC,ae,WD,WE,ae,WG,ae,WH,WI,ae,WJ,ae,WK,WL,ae,WM,ae,WN,WO,ae,WQ,ae,WR,WS,ae,WT,ae,WU,WV,ae,WW,ae,WX,WY,ae,WZ,ae,W0,W2,ae,W3,ae,W4,W5,ae,W6,ae,W7,W8,ae,W9,ae,W_,Xa,ae,Xb,ae,Xc,Xd,ae,Xe,ae,Xf,Xg,ae,Xh,ae,Xi,Xj,ae,Xk,Xl,ae,Xm,ae,Xn,Xo,ae,Xp,ae,Xq,Xr,ae,Xs,Xu,ae,Xv,ae,Xw,Xx,ae,Xy,Xz,ae,XA,ae,XC,XD,ae,XE,ae,XF,XG,ae,XH,XI,ae,XJ,ae,XM,XN,ae,XO,ae,XQ,XR,ae,XS,ae,XT,XU,ae,XW,ae,XX,XY,ae,XZ,ae,X0,X5,ae,X6,X7].map fun o=>o P)
abbrev vw:Program:={ pw with main:={ pw.main with body:=([1,2,3,4,5,7,8,9,10,11,12,13,14,15,16,17,18,19,20,21,22,23,24,25,26,27,28,29,30,32,33,34,35,36,38,39,40,41,42,43,44,45,46,47,48,49,50,51,52,53,54,55,56,58,59,60,61,62,63,64,65,66,67,68,69,70,71,72,73,74,75,76,77,78,79,80,81,83,85,86,87,88,89,91,92,93,94,95,96,98,99,100,101,102,103,104,105,106,107,108,109,110,111,112,113,114,115,116,117,118,119,120]:List Nat).map top } }
theorem pre:∀ w:World,(fun os=>topGo treeTable pw w 11 an 12 (S0 w os) (topStub pw))=fun os=>some ((TA w os).abs,thA):=by
 exact fun w=>by kernel_rfl
theorem blk:∀ w:World,(fun os=>segRun treeTable pw w 11 an 1 1 (TA w os).abs thB)=fun os=>some (Flow.next,(TA w os).abs,cE,(⟨0,0,0,0⟩:Pos)):=by
 exact fun w=>by kernel_rfl
theorem g0:∀ w:World,(fun os=>segRunT treeTable pw w 11 an 1 1153 (TA w os) th0)=fun os=>some (Flow.next,T0 w os,cE,(⟨18,0,18,8⟩:Pos)):=by
 rewrite [PySem.W.Fast.te10110043849684766642]
 exact fun w=>by kernel_rfl
theorem g1:∀ w:World,(fun os=>segRunT treeTable pw w 11 an 1 1095 (T0 w os) th1)=fun os=>some (Flow.next,T1 w os,cE,(⟨32,0,35,28⟩:Pos)):=by
 rewrite [PySem.W.Fast.te10110043849684766642]
 exact fun w=>by kernel_rfl
theorem g2:∀ w:World,(fun os=>segRunT treeTable pw w 11 an 1 1198 (T1 w os) th2)=fun os=>some (Flow.next,T2 w os,cE,(⟨52,0,55,26⟩:Pos)):=by
 rewrite [PySem.W.Fast.te10110043849684766642]
 exact fun w=>by kernel_rfl
theorem g3:∀ w:World,(fun os=>segRunT treeTable pw w 11 an 1 1075 (T2 w os) th3)=fun os=>some (Flow.next,T3 w os,cE,(⟨66,0,67,8⟩:Pos)):=by
 rewrite [PySem.W.Fast.te10110043849684766642]
 exact fun w=>by kernel_rfl
theorem g4:∀ w:World,(fun os=>segRunT treeTable pw w 11 an 1 1200 (T3 w os) th4)=fun os=>some (Flow.next,T4 w os,cE,(⟨84,0,88,24⟩:Pos)):=by
 rewrite [PySem.W.Fast.te10110043849684766642]
 exact fun w=>by kernel_rfl
theorem g5:∀ w:World,(fun os=>segRunT treeTable pw w 11 an 1 1169 (T4 w os) th5)=fun os=>some (Flow.next,T5 w os,cE,(⟨124,0,135,31⟩:Pos)):=by
 rewrite [PySem.W.Fast.te10110043849684766642]
 exact fun w=>by kernel_rfl
theorem g6:∀ w:World,(fun os=>segRunT treeTable pw w 11 an 1 1193 (T5 w os) th6)=fun os=>some (Flow.next,T6 w os,cE,(⟨332,0,337,43⟩:Pos)):=by
 rewrite [PySem.W.Fast.te10110043849684766642]
 exact fun w=>by kernel_rfl
theorem g7:∀ w:World,(fun os=>segRunT treeTable pw w 11 an 1 1142 (T6 w os) th7)=fun os=>some (Flow.next,T7 w os,cE,(⟨658,0,675,78⟩:Pos)):=by
 rewrite [PySem.W.Fast.te10110043849684766642]
 exact fun w=>by kernel_rfl
theorem fin:∀ w:World,(fun os=>topRun treeTable pw w 11 an 2 (T7 w os).abs thF)=fun os=>some (T7 w os).abs:=by
 exact fun w=>by kernel_rfl
theorem chn (w:World) (os:OsState):∀ l,l=(Zd++(Ze++(Zf++(Zg++(Zh++(Zi++(Zj++(Zk++[]))))))))->topRun treeTable pw w 11 an (1153+(1095+(1198+(1075+(1200+(1169+(1193+(1142+2)))))))) (TA w os).abs (restOf l nv cE ⟨0,0,0,0⟩ BF)=some (T7 w os).abs:=fun l e=>by
 rw [e]
 exact piece_app (segRun_of (congrFun (g0 w) os)) (piece_app (segRun_of (congrFun (g1 w) os)) (piece_app (segRun_of (congrFun (g2 w) os)) (piece_app (segRun_of (congrFun (g3 w) os)) (piece_app (segRun_of (congrFun (g4 w) os)) (piece_app (segRun_of (congrFun (g5 w) os)) (piece_app (segRun_of (congrFun (g6 w) os)) (piece_app (segRun_of (congrFun (g7 w) os)) (congrFun (fin w) os))))))))
theorem run (w:World) (os:OsState):topRun treeTable pw w 11 an (12+(1+(1153+(1095+(1198+(1075+(1200+(1169+(1193+(1142+2)))))))))) (S0 w os) (topStub pw)=some (T7 w os).abs:=go_top (congrFun (pre w) os) (piece_block (congrFun (blk w) os) (chn w os bE (by kernel_rfl)))
theorem Uj:∀ P,as=(K P).map (·.1):=fun _=>by kernel_rfl
abbrev H:Hook:=kHook K as Uj
abbrev H1 (P:Params):Heap:=absHeap (M0 P) 983 lf
abbrev SF (w:World) (os:OsState):Shared:=⟨H1 w.params,Array.mk [],⟨0,0,0,0⟩,1522,os⟩
abbrev Xt (s:Shared):Bool:=xlAt vw [] s&&recOk (RowW.records (OpenRow.toRowW (OpenLaw.row PySem.Challenge.rw_rowblade_k23_whole_programs_read))) s
theorem opn:∀ w:World,(fencedOpening treeTable pw w 18560).map (fun s=>(s.heap,s.gens,s.drawn,s.toks))=some (boot_heap w.params,Array.mk [],boot_drawn,boot_toks):=boot_open (by kernel_rfl) (by decide) (fun s=>by kernel_rfl)
theorem siz:∀ w:World,((boot_heap w.params).isNs mainGlobals&&(Array.mk []:Array GenState).size == 0,(boot_heap w.params).objs.size,(boot_heap w.params).nsMap mainGlobals "__annotations__")=(true,11,an):=fun w=>by kernel_rfl
theorem lk1:∀ w:World,(fun os=>(staticsOk (importedModules pw.main.body) (boot_heap w.params) (H1 w.params)&&namesBound pw (H1 w.params)&&gensDone (SF w os)&&laidKept (boot_heap w.params) (H1 w.params)))=fun _=>true:=fun w=>by kernel_rfl
theorem q1:∀ w:World,(fun os=>PyProof.Rows.seen (Be (fun x=>x.name) (L3 vw)) (PyProof.Rows.ownsOf vw) [] { heap:=(SF w os).heap,drawn:=(SF w os).drawn,toks:=(SF w os).toks,os:=(SF w os).os })=fun _=>PyProof.Rows.expectedOf vw:=fun w=>by kernel_rfl
theorem q2:∀ w:World,(fun os=>(SF w os).heap.bltView)=fun _=>bltViewBooted:=fun w=>by kernel_rfl
theorem b1:∀ w:World,(fun os=>(SF w os).heap.keysOk (looseW vw []) (Be (fun x=>x.name) (L3 vw)) (Be (fun x=>x.fst) (PyProof.Rows.litsOf vw)) (Be (fun x=>x.name) (PyProof.Rows.clssOf vw (looseW vw []))))=fun _=>true:=fun w=>by kernel_rfl
theorem b2:∀ w:World,(fun os=>(SF w os).heap.accountedOkI (importedModules pw.main.body))=fun _=>true:=fun w=>by kernel_rfl
theorem b3:∀ w:World,(fun os=>(SF w os).heap.isNs mainGlobals)=fun _=>true:=fun w=>by kernel_rfl
theorem b4:∀ w:World,(fun os=>(SF w os).heap.isNs builtinsNs)=fun _=>true:=fun w=>by kernel_rfl
theorem b5:∀ w:World,(fun os=>PyProof.Rows.tablesOk vw (SF w os).heap)=fun _=>true:=fun w=>by kernel_rfl
theorem b6:∀ w:World,(fun os=>Xt (SF w os))=fun _=>true:=fun w=>by kernel_rfl
theorem q4:∀ w:World,(fun os=>PyProof.Rows.tabsOk vw (SF w os))=fun _=>true:=fun w=>by kernel_rfl
theorem q5:∀ w:World,(fun os=>pinSeenD vw (L4 vw) (SF w os))=fun _=>pinGoodD (L4 vw):=fun w=>by kernel_rfl
theorem q6:∀ w:World,(fun os=>PyProof.Rows.plainSeenE vw (looseW vw []) (SF w os))=fun _=>PyProof.Rows.plainGoodE vw (looseW vw []):=fun w=>by kernel_rfl
theorem q7:∀ w:World,(fun os=>PyProof.Rows.plainSeenD vw [] (SF w os))=fun _=>PyProof.Rows.plainGoodD vw []:=fun w=>by kernel_rfl
theorem q8:∀ w:World,(fun os=>wideSeen vw (SF w os))=fun _=>wideGood vw:=fun w=>by kernel_rfl
theorem q9:∀ w:World,(fun os=>clsSeenW vw [] (SF w os))=fun _=>clsGoodW vw []:=fun w=>by kernel_rfl
theorem lk2:∀ w:World,(fun os=>openSeen vw [] (importedModules pw.main.body) Xt true (SF w os))=fun _=>openGood vw []:=fun w=>funext fun os=>looks_pair (congrFun (q1 w) os) (looks_pair (congrFun (q2 w) os) (looks_pair (by
 show (_&&_&&_&&_&&_&&_&&_)=true
 rw [congrFun (b1 w) os,congrFun (b2 w) os,congrFun (b3 w) os,congrFun (b4 w) os,congrFun (b5 w) os,congrFun (b6 w) os];rfl) (looks_pair (congrFun (q4 w) os) (looks_pair (congrFun (q5 w) os) (looks_pair (congrFun (q6 w) os) (looks_pair (congrFun (q7 w) os) (looks_pair (congrFun (q8 w) os) (congrFun (q9 w) os))))))))
theorem lk3:∀ w:World,(fun os=>Hook.obs H (SF w os))=fun _=>Hook.val H w:=fun w=>by kernel_rfl
theorem left:LeftO pw vw [] Xt (Hook.obs H) (Hook.val H) 18560:=LeftO.of_pieces (H₁:=H1) (gs₁:=Array.mk []) (d₁:=⟨0,0,0,0⟩) (k₁:=1522) opn siz run (by decide) fun w=>funext fun os=>looks_pair (congrFun (lk1 w) os) (looks_pair (congrFun (lk2 w) os) (congrFun (lk3 w) os))
end KH
end
namespace L2
open PySem PySem.Spec PyProof.Rows
section
variable {κ:Type} [DecidableEq κ]
def jR (a7:List (κ × V)) (k:κ):Option V:=(a7.find? fun kv=>decide (kv.1=k)).map (·.2)
def putK (a7:List (κ × V)) (k:κ) (v:V):List (κ × V):=
 if (a7.any fun kv=>decide (kv.1=k))=true then a7.map (fun kv=>if kv.1=k then (kv.1,v) else kv) else a7++[(k,v)]
theorem jl {p:κ × V}{r:List (κ × V)}{k:κ}(e:p.1=k):jR (p::r) k=some p.2:=by simp [jR,yH,e]
theorem jm {p:κ × V}{r:List (κ × V)}{k:κ}(e:¬ p.1=k):jR (p::r) k=jR r k:=by simp [jR,yH,e]
theorem lA (k:κ):∀ a7:List (κ × V),(a7.any fun kv=>decide (kv.1=k))=(jR a7 k).isSome
 | []=>rfl
 | p::r=>by
  rw [i8]
  by_cases e:p.1=k
  ·simp only [jl e,decide_eq_true e,Bool.true_or,Option.isSome_some]
  ·rw [jm e,decide_eq_false e,Bool.false_or];exact lA k r
theorem kh (a7:List (κ × V)) (k:κ) (v:V):(putK a7 k v).length<=a7.length+1:=by
 unfold putK
 split
 ·rw [cT];omega
 ·rw [bJ,cQ,dm];omega
theorem i_.fS {o:Option V}{u:Option Value}(r:i_ o u):o.isSome=u.isSome:=by
 cases o with
 | none=>cases u with
  | none=>rfl
  | some _=>exact (show False from r).elim
 | some _=>cases u with
  | none=>exact (show False from r).elim
  | some _=>rfl
theorem KV.val {a7:List (κ × V)}{vs:List (κ × Value)}(r:KV a7 vs) (k:κ):i_ (jR a7 k) (valueAt vs k):=by
 unfold KV at r
 induction r with
 | nil=>exact True.intro
 | @cons p q ps qs h t ih=>
  obtain ⟨h1,h2⟩:=h
  by_cases e:p.1=k
  ·have e':q.1=k:=h1.symm.trans e
   have b:valueAt (q::qs) k=some q.2:=by simp [valueAt,yH,e']
   rw [jl e,b];exact h2
  ·have e':¬ q.1=k:=fun z=>e (h1.trans z)
   have b:valueAt (q::qs) k=valueAt qs k:=by simp [valueAt,yH,e']
   rw [jm e,b];exact ih
theorem KV.any {a7:List (κ × V)}{vs:List (κ × Value)}(r:KV a7 vs) (k:κ):(a7.any fun kv=>decide (kv.1=k))=vs.any fun kv=>decide (kv.1=k):=by
 unfold KV at r
 induction r with
 | nil=>rfl
 | cons h t ih=>rw [i8,i8,ih,h.1]
theorem KV.RB {a7:List (κ × V)}{vs:List (κ × Value)}(r:KV a7 vs) (k:κ) {y:V}{u:Value}(ry:RelV y u) :
  KV (a7.map fun kv=>if kv.1=k then (kv.1,y) else kv) (vs.map fun kv=>if kv.1=k then (kv.1,u) else kv):=by
 unfold KV at r ⊢
 induction r with
 | nil=>exact .nil
 | @cons p q ps qs h t ih=>
  rw [fR,fR]
  refine .cons ?_ ih
  obtain ⟨h1,h2⟩:=h
  by_cases e:p.1=k
  ·rw [if_pos e,if_pos (h1.symm.trans e)];exact ⟨h1,ry⟩
  ·rw [if_neg e,if_neg (fun z=>e (h1.trans z))];exact ⟨h1,h2⟩
theorem KV.put {a7:List (κ × V)}{vs:List (κ × Value)}(r:KV a7 vs) (k:κ) {y:V}{u:Value}(ry:RelV y u):KV (putK a7 k y) (stored vs k u):=by
 unfold putK stored
 rw [r.any k]
 by_cases e:(vs.any fun kv=>decide (kv.1=k))=true
 ·rw [if_pos e,if_pos e];exact r.RB k ry
 ·rw [if_neg e,if_neg e];exact Paired.snoc r ⟨rfl,ry⟩
theorem KV.length {a7:List (κ × V)}{vs:List (κ × Value)}(r:KV a7 vs):a7.length=vs.length:=Paired.length r
end
theorem wW {P:Program}{w:World}{k:Key}{u:Value}(r:RelV (kV k) u):(ck P w).is k u=true:=by
 cases k with
 | inl i=>obtain ⟨t,e⟩:=(show ∃ t,u=Value.int i t from r);subst e;exact qC P w i t
 | inr x=>obtain ⟨t,e⟩:=(show ∃ t,u=Value.str x t from r);subst e;exact qD P w x t
theorem nI {P:Program}{w:World}:∀ {ks:List Key}{us:List Value},Vals (ks.map kV) us->ItemsAre (ck P w) ks us
 | [],_,r=>by rw [Bo] at r;cases r;exact .nil
 | k::ks,_,r=>by
  rw [fR] at r
  cases r with
  | cons h t=>exact .cons (wW h) (nI t)
abbrev KT (H:Hp):List (List Key × V)->List (List Key × Addr × Value)->Prop:=Paired fun p q=>p.1=q.1/\H q.2.1=some (.tup (p.1.map kV))/\RelV p.2 q.2.2
theorem KT.val {H:Hp}{a7:List (List Key × V)}{xs:List (List Key × Addr × Value)}(r:KT H a7 xs) (k:List Key):i_ (jR a7 k) ((atKey xs k).map (·.2)):=by
 induction r with
 | nil=>exact True.intro
 | @cons p q ps qs h t ih=>
  obtain ⟨h1,_,h2⟩:=h
  by_cases e:p.1=k
  ·have e':q.1=k:=h1.symm.trans e
   have b:atKey (q::qs) k=some q.2:=by simp [atKey,yH,e']
   rw [jl e,b];exact h2
  ·have e':¬ q.1=k:=fun z=>e (h1.trans z)
   have b:atKey (q::qs) k=atKey qs k:=by simp [atKey,yH,e']
   rw [jm e,b];exact ih
theorem KT.RB {H:Hp}{a7:List (List Key × V)}{xs:List (List Key × Addr × Value)}(r:KT H a7 xs) (k:List Key) {y:V}{u:Value}(ry:RelV y u) :
  KT H (a7.map fun kv=>if kv.1=k then (kv.1,y) else kv) (xs.map (putAt k u)):=by
 induction r with
 | nil=>exact .nil
 | @cons p q ps qs h t ih=>
  rw [fR,fR]
  refine .cons ?_ ih
  obtain ⟨h1,h2,h3⟩:=h
  unfold putAt
  by_cases e:p.1=k
  ·rw [if_pos e,if_pos (h1.symm.trans e)];exact ⟨h1,h2,ry⟩
  ·rw [if_neg e,if_neg (fun z=>e (h1.trans z))];exact ⟨h1,h2,h3⟩
theorem KT.put {H:Hp}{a7:List (List Key × V)}{xs:List (List Key × Addr × Value)}(r:KT H a7 xs) (k:List Key) {b:Addr}{y:V}{u:Value}(hb:H b=some (.tup (k.map kV))) (ry:RelV y u) :
  KT H (putK a7 k y) (storedH xs k b u):=by
 have e:(a7.any fun kv=>decide (kv.1=k))=(atKey xs k).isSome:=by
  rw [lA,(r.val k).fS,BR]
 unfold putK storedH
 rw [e]
 by_cases q:(atKey xs k).isSome=true
 ·rw [if_pos q,if_pos q];exact r.RB k ry
 ·rw [if_neg q,if_neg q];exact Paired.snoc r ⟨rfl,hb,ry⟩
theorem KT.keeps {H H':Hp}{a7:List (List Key × V)}{xs:List (List Key × Addr × Value)}(r:KT H a7 xs) (ht:∀ b ys,H b=some (.tup ys)->H' b=some (.tup ys)):KT H' a7 xs:=
 Paired.N4 r fun _ _ z=>⟨z.1,ht _ _ z.2.1,z.2.2⟩
variable {a:Addr}{A:Around}{X:Cx}{H:Hp}{aa:c9}{s:Shared}{σ:St}{y:V}{u:Value}{E:Value->Shared->Prop}
section
variable {P:Program}{w:World}{h:Heap}
theorem M1 {u:HO}(ok:iZ P w H h) (e:Rd H a u):bY P w H h a u:=e.ok ok
theorem Dl {a7:List (Key × V)}(ok:iZ P w H h) (e:Rd H a (.dK a7)):a7.length<=sizeLine/\(a == sysModules)=false/\∃ vs,KV a7 vs/\h.DictOf (ck P w) a vs:=
 show bY P w H h a (.dK a7) from M1 ok e
theorem Zl {a7:List (Key × V)}(ok:iZ P w H h) (e:H a=some (.dK a7)):a7.length<=sizeLine/\(a == sysModules)=false/\∃ vs,KV a7 vs/\h.DictOf (ck P w) a vs:=Dl ok (.inl e)
theorem pj {ks:List Key}(ok:iZ P w H h) (e:H a=some (.tup (ks.map kV))):(tupleKind (ck P w)).is h ks a:=by
 obtain ⟨_,its,r,o,h1,h2,n,h3⟩:=(show bY P w H h a (.tup (ks.map kV)) from ok a _ e)
 exact ⟨o,its.toArray,n,h1,h2,h3,by simpa using nI r⟩
theorem Dm {a7:List (List Key × V)}(ok:iZ P w H h) (e:Rd H a (.dT a7)):a7.length<=sizeLine/\(a == sysModules)=false /\
  ∃ xs,KT H a7 xs/\h.DictOfH (tupleKind (ck P w)) a xs:=by
 obtain ⟨z,y,xs,r,o,es,ep,h1,h2,h3,h4,h5⟩:=(show bY P w H h a (.dT a7) from M1 ok e)
 refine ⟨z,y,xs,r,o,es,ep,h1,h2,h3,h4,fun x hx=>?_,h5⟩
 have all:∀ {l:List (List Key × V)} {m:List (List Key × Addr × Value)},KT H l m->∀ x∈m,(tupleKind (ck P w)).is h x.1 x.2.1:=by
  intro l m q
  induction q with
  | nil=>intro x hx;exact nomatch hx
  | @cons p q ps qs hq t ih=>
   intro x hx
   rcases cA.mp hx with e | hx
   ·subst e
    exact pj ok (by rw [<- hq.1];exact hq.2.1)
   ·exact ih x hx
 exact all r x hx
theorem Zm {a7:List (List Key × V)}(ok:iZ P w H h) (e:H a=some (.dT a7)):a7.length<=sizeLine/\(a == sysModules)=false /\
  ∃ xs,KT H a7 xs/\h.DictOfH (tupleKind (ck P w)) a xs:=Dm ok (.inl e)
end
def Dn (H:Hp) (a:Addr) (y:V) (r:Option V):Prop:=
 (∃ a7 k,Rd H a (.dK a7)/\y=kV k/\r=jR a7 k)\/∃ a7 k b,Rd H a (.dT a7)/\y=.ref b/\H b=some (.tup (k.map kV))/\r=jR a7 k
def Js (H:Hp) (a:Addr) (y v:V) (H':Hp):Prop:=
 (∃ a7 k,H a=some (.dK a7)/\y=kV k/\a7.length<sizeLine/\H'=upd H a (.dK (putK a7 k v))) \/
 ∃ a7 k b,H a=some (.dT a7)/\y=.ref b/\H b=some (.tup (k.map kV))/\a7.length<sizeLine/\H'=upd H a (.dT (putK a7 k v))
theorem Dn.k {H:Hp}{a:Addr}{a7:List (Key × V)}{k:Key}(e:H a=some (.dK a7)):Dn H a (kV k) (jR a7 k):=.inl ⟨a7,k,.inl e,rfl,rfl⟩
theorem Js.k {H:Hp}{a:Addr}{a7:List (Key × V)}{k:Key}{v:V}(e:H a=some (.dK a7)) (hl:a7.length<sizeLine):Js H a (kV k) v (upd H a (.dK (putK a7 k v))):=.inl ⟨a7,k,e,rfl,hl,rfl⟩
section
variable {v:V}{r:Value}{o:Option V}
theorem Inv.big (I:Inv X aa σ H s):sysModules<s.heap.objs.size:=by
 have h:mainGlobals<s.heap.objs.size:=(I.mod.glob.keeps I.bk).lt
 exact LR (by decide) h
theorem ade {Q:Value->Shared->Prop}(hu:A.units+1<cLine) (I:Inv X aa σ H s) (g:Dn H a y o) (ry:RelV y u) (h:∀ s',Inv X aa σ H s'->Q (.bool o.isSome) s') :
  wpAny (model X.prog X.w) A (compareOp .In u (.ref a)) Q E s:=by
 rcases g with ⟨a7,k,e,ey,l⟩ | ⟨a7,k,b,e,ey,eb,l⟩
 ·subst ey
  obtain ⟨z,hd,vs,rel,dd⟩:=Dl I.bW e
  refine wpAny_in_of (wW ry) hd dd.mapOf ?_
  rw [<- (rel.val k).fS,<- l]
  exact h _ (I.tok _)
 ·subst ey
  cases (show u=Value.ref b from ry)
  obtain ⟨z,hd,xs,rel,dd⟩:=Dm I.bW e
  refine wpAny_in_heap (tupleKind_room_in1 hu) (pj I.bW eb) hd dd ?_
  have q:=(rel.val k).fS
  rw [BR] at q
  rw [<- q,<- l]
  exact h _ (I.tok _)
theorem Jt {Q:Value->Shared->Prop}(hu:A.units+1<cLine) (I:Inv X aa σ H s) (g:Dn H a y o) (ry:RelV y u) (h:∀ s',Inv X aa σ H s'->Q (.bool (!o.isSome)) s') :
  wpAny (model X.prog X.w) A (compareOp .NotIn u (.ref a)) Q E s:=by
 rcases g with ⟨a7,k,e,ey,l⟩ | ⟨a7,k,b,e,ey,eb,l⟩
 ·subst ey
  obtain ⟨z,hd,vs,rel,dd⟩:=Dl I.bW e
  refine wpAny_notIn_of (wW ry) hd dd.mapOf ?_
  rw [<- (rel.val k).fS,<- l]
  exact h _ (I.tok _)
 ·subst ey
  cases (show u=Value.ref b from ry)
  obtain ⟨z,hd,xs,rel,dd⟩:=Dm I.bW e
  refine wpAny_notIn_heap (tupleKind_room_in1 hu) (pj I.bW eb) hd dd ?_
  have q:=(rel.val k).fS
  rw [BR] at q
  rw [<- q,<- l]
  exact h _ (I.tok _)
theorem wX {h':Heap}{t':Nat}{ob:HO}(I:Inv X aa σ H s) (mu:UA (H a)) (hs:Heap.SameBut a s.heap h') (he:∃ q,h'.get? a=some q) (new:bY X.prog X.w (upd H a ob) h' a ob) :
  Inv X aa σ (upd H a ob) { s with heap:=h',toks:=t' }:=
 I.write (x:=a) (e:=a) mu (.inl rfl) (fun b q hb z=>(hs.2 b hb).trans z) he new
theorem RC {P:Program}{w:World}{H':Hp}{h':Heap}{a7:List (Key × V)}{vs:List (Key × Value)}(z:a7.length<=sizeLine) (hd:(a == sysModules)=false) (rel:KV a7 vs) (dd:h'.DictOf (ck P w) a vs) :
  bY P w H' h' a (.dK a7):=⟨z,hd,vs,rel,dd⟩
theorem Af {H':Hp}{Q:Unit->Shared->Prop}(hu:A.units+1<cLine) (I:Inv X aa σ H s) (g:Js H a y v H') (ry:RelV y u) (rv:RelV v r) (h:∀ s',Inv X aa σ H' s'->Q () s') :
  wpAny (model X.prog X.w) A (setItem (.ref a) u r) Q E s:=by
 rcases g with ⟨a7,k,e,ey,l,eH⟩ | ⟨a7,k,b,e,ey,eb,l,eH⟩
 ·subst ey eH
  obtain ⟨z,hd,vs,rel,dd⟩:=Zl I.bW e
  have hz:vs.length<=sizeLine:=by rw [<- rel.length];exact z
  have hl:(putK a7 k v).length<=sizeLine:=by have:=kh a7 k v;omega
  refine wpAny_setItem_pairs (hsz:=hz) (wW ry) dd fun h' dd' hs=>h _ ?_
  have he:∃ q,h'.get? a=some q:=let ⟨q,_,_,hq,_⟩:=dd';⟨q,hq⟩
  exact wX I (by rw [e];exact True.intro) hs he (RC hl hd (rel.put k rv) dd')
 ·subst ey eH
  cases (show u=Value.ref b from ry)
  obtain ⟨z,hd,xs,rel,dd⟩:=Zm I.bW e
  have hz:xs.length<=sizeLine:=by rw [<- Paired.length rel];exact z
  have hl:(putK a7 k v).length<=sizeLine:=by have:=kh a7 k v;omega
  refine wpAny_setItem_heap (hsz:=hz) (tupleKind_room_in1 hu) (pj I.bW eb) dd fun h' dd' hs=>h _ ?_
  obtain ⟨q,es,ep,hq,h2,h3,h4,_,h5⟩:=dd'
  refine wX I (by rw [e];exact True.intro) hs ⟨q,hq⟩ ⟨hl,hd,_,(rel.put k eb rv).keeps fun c ys ec=>?_,q,es,ep,hq,h2,h3,h4,h5⟩
  rw [au (Uz ec e (fun z=>nomatch z))]
  exact ec
end
section
variable {a7:List (Key × V)}{k:Key}
end
def Zn (td ty tv:TE):TS:=fun D σ H=>tv σ H fun v H1=>td σ H1 fun x H2=>ty σ H2 fun y H3=>∃ a H4,x=.ref a/\Js H3 a y v H4/\D.nx σ H4
section
variable {o i e value:Expr}{pos bR lr:Pos}{td ty tv:TE}
theorem Ju (hu:X.A.units+1<cLine) (ho:PE X o td) (hi:PE X i ty) (hv:PE X value tv) (hs:swapsWith value (some (.Subscript o i bR)) pos.line X.env=pure false) :
  PS X (.Assign [.Subscript o i bR] value pos) (Zn td ty tv):=by
 intro aa s σ H D I h
 refine wpAny_Assign_Subscript (bS (hv aa s σ H _ I h) fun r s1 ⟨v,H1,I1,rv,q1⟩=>bS (ho aa s1 σ H1 _ I1 q1) fun u s2 ⟨x,H2,I2,rx,q2⟩=>bS (hi aa s2 σ H2 _ I2 q2) fun iv s3 ⟨y,H3,I3,ry,a,H4,ex,g,q3⟩=>?_) hs
 subst ex
 obtain rfl:u=Value.ref a:=rx
 exact Af hu I3 g ry rv fun s4 I4=>⟨σ,H4,I4,q3⟩
end
theorem Dp {P:Program}{w:World}{H:Hp}(h:Heap) (hb:sysModules<h.objs.size):bY P w H (h.push { cls:=.type "dict", data:=.dict #[] }) h.objs.size (.dK []):=
 ⟨gD _,beq_eq_false_iff_ne.mpr (Ne.symm (dU hb)),[],.nil,Heap.DictOf.new h⟩
def RD:TE:=fun _ H Q=>∀ p,H p=none->Q (.ref p) (upd H p (.dK []))
section
variable {pos:Pos}
theorem Dq:PE X (.Dict [] [] pos) RD:=fun aa s σ H Q I h=>
 wpAny_Dict_empty ⟨.ref s.heap.objs.size,_,I.laid (a:=s.heap.objs.size) (o:=.dK []) (t':=s.toks) (fun _ _ q=>Heap.get?_push_of_some _ q) (dS _) (Dp s.heap I.big),rfl,h _ (I.bW.fresh (dS _))⟩
end
section
variable {d:V}{r:Value}{o:Option V}
end
section
variable {o e f:Expr}{cP eL:Pos}{td ty tx:TE}
end
section
variable {a7:List (Key × V)}
end
section
end
end L2
namespace Pf
def gy:List Nat->List Nat->List Nat
 | seen,[]=>seen
 | seen,c::l=>gy (if c∈seen then seen else c::seen) l
end Pf
namespace L2
open PySem PySem.Spec PyProof.Rows
section
variable {prog:Program}{w:World}
def gU (seen:List Nat) (k:Str):Bool:=seen.any fun c=>decide (k=⟨#[c]⟩)
theorem jn {A:Around}{R:Result->Shared->Prop}{I S:Addr}{x:Str}{t:Tok}(hh:A.in1.handled=none) (iE:I≠S) (hb:x.cps.size+1<scanBound) :
  ∀ (l:List Nat) (i:Nat) (seen:List Nat) (s:Shared),x.cps.toList.drop i=l->seen.length<=i->i<=x.cps.size->s.heap.IsStrIter I "str_ascii_iterator" x t i->Heap.SetOf (strKind prog w) s.heap S (gU seen) seen.length ->
   (∀ (h':Heap) (tk:Nat),(∀ b o,b≠S->b≠I->s.heap.get? b=some o->h'.get? b=some o)->Heap.SetOf (strKind prog w) h' S (gU (Pf.gy seen l)) (Pf.gy seen l).length->R (.ok (.ret .none)) { s with heap:=h',toks:=tk }) ->
   codeAny (model prog w) A (Code.builtin "set.update.loop" { pos:=[.ref S,.ref I] }) R s
 | [],i,seen,s,hl,hsn,hi,hit,rE,h=>by
  refine codeAny_builtin F.entry_set_update_loop ?_
  rw [Around.under_plainId F.plain_set_update_loop]
  have hx:x.cps[i]?=none:=by
   have:=List.drop_eq_nil_iff.mp hl
   rw [Array.length_toList] at this
   exact Array.getElem?_eq_none (by omega)
  refine wpAny_bind (wpAny_pyNext_ascii_end hh hit hx fun h' he=>?_)
  refine wpAny_pure ?_
  refine h h' s.toks (fun b o _ hbI hg=>he b o hbI hg) ?_
  obtain ⟨o,es,ep,tb,e1,e2⟩:=rE
  exact ⟨o,es,ep,tb,he _ _ (Ne.symm iE) e1,e2⟩
 | c::l,i,seen,s,hl,hsn,hi,hit,rE,h=>by
  refine codeAny_builtin F.entry_set_update_loop ?_
  rw [Around.under_plainId F.plain_set_update_loop]
  have B7:x.cps.toList[i]?=some c:=by
   have:=congrArg (fun q=>q[0]?) hl
   simpa using this
  have hx:x.cps[i]?=some c:=by simpa using B7
  have fL:i<x.cps.size:=(Array.getElem?_eq_some_iff.mp hx).1
  refine wpAny_bind (wpAny_pyNext_ascii_item hit hx fun h1 adf sb1=>?_)
  have Zo:Heap.SetOf (strKind prog w) h1 S (gU seen) seen.length:=by
   obtain ⟨o,es,ep,tb,e1,e2⟩:=rE
   exact ⟨o,es,ep,tb,(sb1.2 S (Ne.symm iE)).trans e1,e2⟩
  refine wpAny_bind (wpAny_holding (wpAny_holding (wpAny_bind ((strKind prog w).pyHash (k:=⟨#[c]⟩) (strKind_is prog w ⟨#[c]⟩ _) ?_))))
  refine wpAny_setAddHashed_of (strKind_is prog w ⟨#[c]⟩ _) rfl Zo (by omega) fun h2 sb2 Zp=>?_
  refine wpAny_pure ⟨plainId_quiet F.plain_set_update_loop _,?_⟩
  have Zq:gU seen ⟨#[c]⟩=decide (c∈seen):=by
   unfold gU
   rw [GC]
   simp
  have adg:h2.IsStrIter I "str_ascii_iterator" x t (i+1):=by
   obtain ⟨o,e1,e2⟩:=adf
   exact ⟨o,(sb2.2 I iE).trans e1,e2⟩
  refine jn hh iE hb l (i+1) (if c∈seen then seen else c::seen) _ ?_ ?_ (by omega) adg ?_ fun h' tk hk G_=>?_
  ·have:=congrArg List.tail hl
   rw [List.tail_drop] at this
   exact this
  ·split
   ·omega
   ·simp;omega
  ·refine SetOf_congr Zp (fun k=>?_) ?_
   ·by_cases hc:c∈seen
    ·rw [if_pos hc]
     unfold gU
     rw [GC]
     simp only [wB,Lp,decide_eq_true_eq]
     constructor
     ·rintro (z | z)
      ·exact z
      ·exact ⟨c,hc,z⟩
     ·exact fun z=>.inl z
    ·rw [if_neg hc]
     unfold gU
     rw [i8,Bool.or_comm]
   ·rw [Zq]
    by_cases hc:c∈seen
    ·rw [decide_eq_true hc,if_pos rfl,if_pos hc]
    ·rw [decide_eq_false hc,if_neg eK,if_neg hc];rfl
  ·exact h h' tk (fun b o hbS hbI hg=>hk b o hbS hbI ((sb2.2 b hbS).trans ((sb1.2 b hbI).trans hg))) G_
theorem pA {A:Around}{E:Value->Shared->Prop}{s:Shared}{x:Str}{t:Tok}{Q:Value->Shared->Prop}(hh:A.handled=none) (ha:x.cps.all (· < 128)=true) (hb:x.cps.size+1<scanBound)
  (h:∀ h' tk,(∀ b o,s.heap.get? b=some o->h'.get? b=some o)->Heap.SetOf (strKind prog w) h' s.heap.objs.size (gU (Pf.gy [] x.cps.toList)) (Pf.gy [] x.cps.toList).length->Q (.ref s.heap.objs.size) { s with heap:=h',toks:=tk }) :
  wpAny (model prog w) A (call (.type "set") [.str x t]) Q E s:=by
 obtain ⟨hp,g,d,tk0,os⟩:=s
 obtain ⟨c,tl,hm⟩:=F.called_set.mro
 refine wpAny_call (codeAny_of_tree ?_)
 refine wpAny_pure ⟨Code.quiet_builtin _ (by decide +kernel),codeAny_builtin F.entry_type_call ?_⟩
 rw [Around.under_plain (weight_type_call_type _ _ _) rfl]
 unfold Builtin.«type.__call__»
 dsimp only
 refine wpAny_ite_false ?_ ?_
 ·rw [F.called_set.notType];rfl
 refine wpAny_ite_false ?_ ?_
 ·rw [F.called_set.canCreate];rfl
 refine wpAny_bind (wpAny_of_eq (F.typeCall_set_1 _) ?_)
 refine wpAny_bind (wpAny_of_eq hm ?_)
 refine wpAny_ite_false rfl ?_
 refine wpAny_bind (wpAny_of_eq F.called_set.made ?_)
 refine wpAny_bind (wpAny_pure ?_)
 refine wpAny_bind (wpAny_holding (wpAny_call (codeAny_mono (code_set_new_1 (E:=fun _ _=>False) (Q₁:=fun v s'=>∃ led,v=.ref hp.objs.size/\s'=⟨hp.push { cls:=.type "set", data:=.set #[] 0 (SetTable.fresh 0 0 led) },g,d,tk0,os⟩) (.str x t) fun led=>⟨led,rfl,rfl⟩) ?_)))
 intro r s1 hr
 cases r with
 | error e=>exact hr.elim
 | ok f=>
  cases f with
  | next=>exact hr.elim
  | brk=>exact hr.elim
  | cont=>exact hr.elim
  | ret v=>
   obtain ⟨led,rfl,rfl⟩:=hr
   have hg:=Heap.get?_push_size hp (o:={ cls:=.type "set", data:=.set #[] 0 (SetTable.fresh 0 0 led) }) rfl
   have hT:Shared.TypeIs ⟨hp.push { cls:=.type "set", data:=.set #[] 0 (SetTable.fresh 0 0 led) },g,d,tk0,os⟩ (.ref hp.objs.size) "set" := ⟨_,hg,rfl⟩
   refine wpAny_bind (wpAny_isInstance hT F.called_set.sub ?_)
   refine wpAny_ite_false rfl ?_
   refine wpAny_bind (wpAny_holding ?_)
   unfold callSpecial?
   refine wpAny_bind (wpAny_specialOf hT F.called_set.init.lookup ?_)
   dsimp only
   refine wpAny_holding (wpAny_bind (wpAny_of_eq (F.called_set.init.bind _) ?_))
   dsimp only
   refine wpAny_bind (wpAny_call (codeAny_call_builtin F.called_set.init.plain F.entry_set_init (check_set_init_1 hT ?_)))
   have aec:=F.sub_str_set
   have aed:=F.sub_str_frozenset
   wp_walk using wpAny_pyIter_ascii ha
   have hz:(hp.push { cls:=.type "set", data:=.set #[] 0 (SetTable.fresh 0 0 led) }).objs.size=hp.objs.size+1:=Heap.size_push ..
   refine jn (A:=A.in1.in1) (x:=x) (t:=t) (show A.in1.in1.in1.handled=none from hh) ?_ hb x.cps.toList 0 [] _ Bf (gD _) (gD _) ?_ ?_ fun h' tk hk hs=>?_
   ·show (hp.push _).objs.size≠hp.objs.size
    rw [hz];omega
   ·exact ⟨_,Heap.get?_push_size _ rfl,rfl,rfl⟩
   ·refine SetOf_congr ((setObjOf_fresh led).setOf (Heap.get?_push_of_some _ hg) (by decide)) (fun _=>rfl) rfl
   ·refine wpAny_pure (wpAny_pure (wpAny_pure (wpAny_ite_false rfl (wpAny_pure ?_))))
    refine h h' tk (fun b o AX=>?_) hs
    have fL:b<hp.objs.size:=Heap.lt_size AX
    refine hk b o (dU fL) ?_ (Heap.get?_push_of_some _ (Heap.get?_push_of_some _ AX))
    show b≠(hp.push _).objs.size
    rw [hz];exact dU (BO fL)
end
section
variable {X:Cx}{a:Expr}{p p1 pos kH:Pos}{ta:TE}
theorem Ag (hc:X.calm=true) (hml:X.mg "len" = none) (hms:X.mg "set" = none) (ha:PE X a ta) (hgl:Gl X "len" := by rfl) (hgs:Gl X "set" := by rfl)
  (hs:starEach [a] X.env=(false,eval a X.env)::starEach [] X.env:=by rfl) (hpl:(backTo kH (starEach [] X.env)).any (·.1)=false:=by rfl)
  (AV:starEach [.Call (.Name "set" p1) [a] [] kH] X.env=(false,eval (.Call (.Name "set" p1) [a] [] kH) X.env)::starEach [] X.env:=by rfl) (adh:(backTo pos (starEach [] X.env)).any (·.1)=false:=by rfl) :
  PE X (.Call (.Name "len" p) [.Call (.Name "set" p1) [a] [] kH] [] pos) (fun σ H Q=>ta σ H fun v H1=>∃ z:Str,v=.str z/\z.cps.all (· < 128)=true/\z.cps.size+1<scanBound/\Q (.int ((Pf.gy [] z.cps.toList).length:Nat)) H1):=by
 intro aa s σ H Q I h
 have inner:wpAny (model X.prog X.w) X.A (eval (.Call (.Name "set" p1) [a] [] kH) X.env) (fun u s'=>∃ (D:Addr) (n:Nat) (S:Str->Bool) (H1:Hp),u=.ref D/\Inv X aa σ H1 s'/\Heap.SetOf (strKind X.prog X.w) s'.heap D S n/\n<scanBound/\Q (.int (n:Nat)) H1) X.xe s:=by
  have hA:=(bZ ha eu hs) kH aa s σ H (fun vs H1=>∃ z:Str,vs=[.str z]/\z.cps.all (· < 128)=true/\z.cps.size+1<scanBound/\Q (.int ((Pf.gy [] z.cps.toList).length:Nat)) H1) I (by
   show ta σ H _
   exact cast (congrArg (ta σ H) (funext fun v=>funext fun H1=>propext ⟨fun ⟨z,e,q⟩=>⟨z,by rw [e],q⟩,fun ⟨z,e,q⟩=>⟨z,(by cases e;rfl),q⟩⟩)) h)
  refine wpAny_Call_Name_kw (gc I hgs hms PyProof.Rows.boot_set (BU (bS hA fun us s1 ⟨vs,H1,I1,r1,q1⟩=>?_) hs hpl))
  obtain ⟨z,rfl,hz1,hz2,q⟩:=q1
  obtain ⟨u,rfl,⟨t,rfl⟩⟩:=r1.one
  refine pA (I1.ok.hd hc) hz1 hz2 fun h' tk hk rE=>?_
  have fL:(Pf.gy [] z.cps.toList).length<scanBound:=by
   obtain ⟨o,es,ep,tb,_,_,_,_,_,e6,_,e8⟩:=rE
   omega
  exact ⟨_,_,_,H1,rfl,I1.kept (t':=tk) hk,rE,fL,q⟩
 refine wpAny_Call_Name_kw (gc I hgl hml PySem.boot_len (L0 ?_ AV adh))
 rw [AV]
 refine Calls.spliced_cons (bS inner fun u s1 zz=>?_)
 obtain ⟨D,n,S,H1,e,I1,rE,fL,q⟩:=zz
 subst e
 refine wpAny_pure ?_
 obtain ⟨o,es,ep,tb,e1,e2,e3,e4,e5,e6,e7,e8⟩:=rE
 have hsb:scanBound=4096:=rfl
 refine call_len_set e1 e2 e3 e7 (by omega) ⟨.int (n:Nat),H1,I1.kept (t':=s1.toks+1+1) (fun _ _ z=>z),⟨s1.toks+1,?_⟩,q⟩
 rw [e8]
end
end L2
namespace PySem
open Sem (wp)
open AutoSeq1 (wpAny_loadPart')
section
variable {prog:Program}{w:World}{A:Around}{E:Value->Shared->Prop}{s:Shared}
set_option maxHeartbeats 4000000 in
theorem gW (l:Addr) (items:Array Value) (n:Nat) (dX:Option Addr) (sl:Array (Option Value)) (t:Tok) :
  Meets (Builtin.«enumerate.__new__» ⟨[.type "enumerate", .ref l],[(Str.ofString "start", .int 1 t)]⟩) (fun _ R s=>s.heap.get? l=some { cls:=.type "list", dict:=dX,data:=.seq items n,slots:=sl } /\
   R (.ok (.ret (.ref (s.heap.push { cls:=.type "list_iterator", data:=.fields #[.ref l,.int 0 0] }).objs.size)))
    { s with heap:=(s.heap.push { cls:=.type "list_iterator", data:=.fields #[.ref l,.int 0 0] }).push { cls:=.type "enumerate", data:=.fields #[.none,.bool false,.ref s.heap.objs.size,rawInt 1,.none,.none] } }):=
 .of_wp fun prog w A R s h=>by
  obtain ⟨hp,g,d,tk,os⟩:=s;obtain ⟨hl,h⟩:=h
  have adi:=sub_enumerate
  have hL:Heap.IsList (Shared.heap ⟨hp,g,d,tk,os⟩) l items:=⟨_,hl,rfl,n,rfl⟩
  wp_walk using wpAny_loadPart' hl
  refine wpAny_stack_any fun st=>wpAny_pure ?_
  split
  ·rename_i c _ _ _ _ _
   cases (c == Value.type "enumerate")
   ·wp_walk using wpAny_loadPart' hl,wpAny_pyIter_list hL
    exact ⟨_,rfl,h⟩
   ·wp_walk using wpAny_loadPart' hl,wpAny_pyIter_list hL
    exact ⟨_,rfl,h⟩
  ·wp_walk using wpAny_loadPart' hl,wpAny_pyIter_list hL
   exact ⟨_,rfl,h⟩
theorem iN {T newId:String}{self:Value}{rest:List Value}{kw:List (Str × Value)}(hl:typeLookup (.type T) "__init__" = pure (some (.builtin "object.__init__")))
  (hm:Bind.madeBy (.type T)=pure (some newId)) (iE:(some newId != some "object.__new__")=true) :
  Meets (Builtin.«object.__init__» ⟨self::rest,kw⟩) (fun _ R s=>s.TypeIs self T/\R (.ok (.ret .none)) s):=by
 refine Meets.of_wp fun prog w A R s hs=>?_
 obtain ⟨hT,hq⟩:=hs
 cases rest with
 | nil=>
  cases kw with
  | nil=>exact wpAny_pure ⟨_,rfl,hq⟩
  | cons a kw=>
   repeat (any_goals (first | assumption | wp_step))
   exact ⟨_,rfl,hq⟩
 | cons a rest=>
  repeat (any_goals (first | assumption | wp_step))
  exact ⟨_,rfl,hq⟩
theorem gX (a b:Value):checkTypeCall "enumerate" ⟨[a],[(Str.ofString "start", b)]⟩=pure ():=by kernel_rfl
theorem iA (a b:Value):checkBuiltinCall "enumerate.__new__" ⟨[.type "enumerate", a],[(Str.ofString "start", b)]⟩=pure ():=by kernel_rfl
theorem rF (o a b:Value):argsOk "object.__init__" ⟨[o,a],[(Str.ofString "start", b)]⟩:=by
 unfold argsOk;rw [signature?_of (id := "object.__init__") (n:=['_','_','t','i','n','i','_','_']) (o:=['t','c','e','j','b','o']) (by kernel_rfl) F.owner_object];kernel_rfl
set_option maxHeartbeats 4000000 in
theorem jS {l:Addr}{items:Array Value}{t:Tok}{Q:Value->Shared->Prop}(hL:s.heap.IsList l items)
  (h:∀ h',IsEnum h' (s.heap.objs.size+1) s.heap.objs.size 1 .none->h'.IsListIter s.heap.objs.size l 0->h'.objs.size=s.heap.objs.size+2 ->
   (∀ b o,s.heap.get? b=some o->h'.get? b=some o)->Q (.ref (s.heap.objs.size+1)) { s with heap:=h' }) :
  wpAny (model prog w) A (call (.type "enumerate") [.ref l] [(Str.ofString "start", .int 1 t)]) Q E s:=by
 obtain ⟨⟨c,dX,dt,sl⟩,hl,hc,n,hd⟩:=hL
 replace hc:c=.type "list" := hc
 replace hd:dt=.seq items n:=hd
 subst hc hd
 have ft:=F.called_enumerate
 obtain ⟨c,tl,aei⟩:=ft.mro
 have aee:=ft.made
 have adi:=ft.sub
 have hct:=gX (.ref l) (.int 1 t)
 have hcn:=iA (.ref l) (.int 1 t)
 refine wpAny_call (codeAny_of_tree ?_)
 show wpAny _ _ (callAny (.type "enumerate") _) _ _ _
 refine wpAny_pure ⟨Code.quiet_builtin _ (by decide +kernel),codeAny_builtin F.entry_type_call ?_⟩
 rw [Around.under_plain (weight_type_call_type "enumerate" _ _) (units_type_call_type "enumerate" _ _)]
 have h1:=ft.notType
 have h2:=ft.canCreate
 repeat (any_goals (first | assumption | wp_step))
 have hz:(s.heap.push { cls:=.type "list_iterator", data:=.fields #[.ref l,.int 0 0] }).objs.size=s.heap.objs.size+1:=Heap.size_push ..
 have he:IsEnum ((s.heap.push { cls:=.type "list_iterator", data:=.fields #[.ref l,.int 0 0] }).push
   { cls:=.type "enumerate", data:=.fields #[.none,.bool false,.ref s.heap.objs.size,rawInt 1,.none,.none] }) (s.heap.objs.size+1) s.heap.objs.size 1 .none:=by
  have:=Heap.get?_push_size (s.heap.push { cls:=.type "list_iterator", data:=.fields #[.ref l,.int 0 0] })
   (o:={ cls:=.type "enumerate", data:=.fields #[.none,.bool false,.ref s.heap.objs.size,rawInt 1,.none,.none] }) rfl
  rw [hz] at this;exact this
 have fin:=h _ he ⟨_,Heap.get?_push_of_some _ (Heap.get?_push_size _ rfl),rfl,rfl⟩ (by rw [Heap.size_push,hz]) fun b o x=>Heap.get?_push_of_some _ (Heap.get?_push_of_some _ x)
 refine codeAny_mono (codeAny_call_builtin ft.plain F.entry_enumerate_new (wpAny_of_eq hcn (gW l items n dX sl t prog w A.in1 (wants (fun obj s₁=>s₁.TypeIs obj "enumerate" /\ Q obj s₁) E) s ⟨hl,?_⟩))) fun r s₁ hr=>?_
 ·show _/\_
  rw [hz]
  exact ⟨⟨_,he,rfl⟩,fin⟩
 cases r with
 | error e=>exact hr
 | ok fl=>
  cases fl with
  | ret obj=>
   obtain ⟨hT,hq⟩:=hr
   have hli:=ft.init.lookup
   have hbi:=ft.init.bind obj
   repeat (any_goals (first | assumption | wp_step))
   refine codeAny_mono (codeAny_call_builtin ft.init.plain F.entry_object_init (ft.init.check _ _ _ _ _ _ _ _ hT (rF _ _ _) (iN ft.init.lookup ft.made (by decide) prog w A.in1 (wants (fun r s₂=>r=.none/\Q obj s₂) E) s₁ ⟨hT,rfl,hq⟩))) fun r₂ s₂ hr₂=>?_
   cases r₂ with
   | error e=>exact hr₂
   | ok fl₂=>
    cases fl₂ with
    | ret r=>
     obtain ⟨rfl,hq⟩:=hr₂
     repeat (any_goals (first | assumption | wp_step))
    | _=>exact hr₂.elim
  | _=>exact hr.elim
end
end PySem
namespace L2
open PySem PySem.Spec PyProof.Rows
theorem Dr {prog:Program}{w:World}{A:Around}{it:Addr}{fp:List Addr}{n:Nat}{P:Nat->Value->Prop}{St:Nat->Heap->Prop}(D:Draws prog w A it fp n P St) (m:Nat):Draws prog w A it fp (m+n) (fun j x=>∃ i,j=m+i/\P i x) (fun j h=>∃ i,j=m+i/\St i h) where
 live:=fun _ h ⟨i,_,st⟩=>D.live i h st
 frame:=fun _ h h' ⟨i,e,st⟩ k=>⟨i,e,D.frame i h h' st k⟩
 item:=fun j s Q E hj ⟨i,e,st⟩ hQ=>D.item i s Q E (by omega) st fun x h' tk p AU sb=>hQ x h' tk ⟨i,e,p⟩ ⟨i+1,by omega,AU⟩ sb
 done:=fun s Q E ⟨i,e,st⟩ hE=>by
  have:i=n:=by omega
  subst this
  exact D.done s Q E st hE
def Zr (K:bC) (m:Nat) (l:Addr) (xs:List V):It:=
 ⟨fun i H=>i<xs.length/\du K H l xs,fun i H v H'=>∃ p x,H p=none/\xs[i]?=some x/\v=.ref p/\H'=upd H p (.tup [.int ((m+i:Nat):Int),x]),fun i H=>i=xs.length/\du K H l xs⟩
theorem lB {P:Program}{w:World}{K:bC}{elts:List Expr}{x1:Nat}{pos:Pos}{l e it:Addr}{xs:List V}{m:Nat}(hei:e≠it) (hle:l≠e) (hli:l≠it) :
  Turn P w K (.Tuple elts x1 pos) (Zr K m l xs) [e,it] e (fun i h=>(∃ old,IsEnum h e it ((m+i:Nat):Int) old)/\h.IsListIter it l i) where
 mem:=by simp
 obj:=fun i h st b hb=>by
  obtain ⟨⟨old,he⟩,o1,e1,_,d1⟩:=st
  simp only [cA,mK,or_false] at hb
  rcases hb with rfl | rfl
  ·exact ⟨_,he,fun v q=>by cases q⟩
  ·exact ⟨o1,e1,fun v q=>by rw [d1] at q;cases q⟩
 keep:=fun i h h' st k=>by
  obtain ⟨⟨old,he⟩,h1⟩:=st
  exact ⟨⟨old,k e (by simp) _ he⟩,h1.at fun o q=>k it (by simp) o q⟩
 item:=by
  intro X hP hw hK hc i aa s σ H E I hf st hg
  subst hP hw hK
  obtain ⟨hi,hq⟩:=hg
  obtain ⟨⟨old,he⟩,h1⟩:=st
  obtain ⟨its,rv,pl,hsz⟩:=I.list hq
  obtain ⟨u,hu,ru⟩:=rv.get (dR hi)
  have hil:i<its.toArray.size:=by rw [fQ,<- rv.length];exact hi
  have D:=Dr (Draws.list (prog:=X.prog) (w:=X.w) (A:=X.A.in1) (I.ok.hd hc) it l hli its.toArray) m
  refine wpAny_pyNext_enum_itemD (n:=m+its.toArray.size) D he ⟨i,rfl,h1,pl.isList⟩ (by omega) hei (by simp only [cA,mK,or_false,not_or];exact ⟨hei,Ne.symm hle⟩) fun x h' tk px a1 a2 a3 a4 kk=>?_
  obtain ⟨i',ei,px⟩:=px
  have:i'=i:=by omega
  subst this
  have hx:x=u:=by
   rw [List.getElem?_toArray,hu] at px
   exact (jN.inj px).symm
  subst hx
  obtain ⟨i2,ei2,a2,_⟩:=a2
  have:i2=i'+1:=by omega
  subst this
  refine ⟨.ref s.heap.objs.size,rfl,?_⟩
  refine wpAny_letOwnedTupleGo_enum (s:={ s with heap:=h',toks:=tk+1 }) a1 fun Ga b1 b2=>?_
  have lt:∀ {d o},s.heap.get? d=some o->s.heap.objs.size≠d:=fun e=>GD (Heap.lt_size e)
  have fpn:∀ b∈[e,it],s.heap.objs.size≠b:=fun b hb=>by
   obtain ⟨o1,e1,_⟩:=h1
   simp only [cA,mK,or_false] at hb
   rcases hb with rfl | rfl
   ·exact lt he
   ·exact lt e1
  have keep:∀ b o,b ∉ [e,it]->s.heap.get? b=some o->Ga.get? b=some o:=fun b o hb q=>by
   simp only [cA,mK,or_false,not_or] at hb
   exact (b2.2 b hb.1).trans (kk b o hb.1 hb.2 q)
  have hn:H s.heap.objs.size=none:=I.bW.fresh (dS _)
  have hT:Ga.get? s.heap.objs.size=some { cls:=.type "tuple", data:=.seq #[.int ((m+i':Nat):Int) tk,x] }:=(b2.2 _ (lt he)).trans a3
  have Zs:IsTup Ga s.heap.objs.size ([.int ((m+i':Nat):Int) tk,x]:List Value).toArray:=⟨_,hT,rfl,0,rfl⟩
  have Zt:∀ b v,H b=some v->b ∉ [e,it]:=fun b v q hb=>by rw [(hf b hb).1] at q;cases q
  have I1:Inv X aa σ (upd H s.heap.objs.size (.tup [.int ((m+i':Nat):Int),xs[i']])) { s with heap:=Ga,toks:=tk+1 }:=by
   refine I.step (g':=s.gens) (d':=s.drawn) (t':=tk+1) (ch:=[e,it]) (fun b hb=>⟨(hf b hb).2.2.2.1,(hf b hb).2.1,(hf b hb).2.2.2.2.1,(hf b hb).2.2.2.2.2⟩) (fun b o _ _ hb e _=>keep b o hb e) (fun b o _ _ hb e _=>⟨o.slots,keep b o hb e⟩)
    (fun b o hb e n=>by rw [au (Ne.symm (lt e))];exact n) (fun b o hb e=>⟨o,keep b o hb e⟩) (fun b ys e=>by rw [au (aO e hn)];exact e) (fun b o v e=>by rw [au (aO e hn)];exact e)
    (fun b ps e=>⟨#[],by rw [au (aO e hn),e];simp⟩) (fun m hm=>?_) ?_ I.bare
   ·obtain ⟨o,es,ep,ho,r⟩:=hm
    exact ⟨o,es,ep,keep _ o (fun hb=>(hf _ hb).2.1 rfl) ho,r⟩
   ·intro b v e
    by_cases hb:b=s.heap.objs.size
    ·subst hb
     rw [aq] at e
     cases e
     exact ⟨by show 2<=sizeLine;decide,_,.cons ⟨_,rfl⟩ (.cons ru .nil),Zs⟩
    ·rw [au hb] at e
     refine (I.bW b v e).ug (fun c o hc q=>keep c o ?_ q) (fun c q=>by rw [au (aO q hn)];exact q) fun c ys q=>by rw [au (aO q hn)];exact q
     rcases hc with rfl | hc
     ·exact Zt c v e
     ·exact Zt c _ hc
  have eN:((m+i':Nat):Int)+1=((m+(i'+1):Nat):Int):=by omega
  refine ⟨.ref s.heap.objs.size,_,I1,rfl,⟨_,_,hn,dR hi,rfl,rfl⟩,⟨⟨x,eN ▸ b1⟩,a2.at fun o q=>(b2.2 it hei.symm).trans q⟩,fun b hb=>?_⟩
  rw [au (Ne.symm (fpn b hb))];exact (hf b hb).1
 done:=by
  intro X hP hw hK hc i aa s σ H E I hf st hg
  subst hP hw hK
  obtain ⟨hi,hq⟩:=hg
  obtain ⟨⟨old,he⟩,h1⟩:=st
  obtain ⟨its,rv,pl,hsz⟩:=I.list hq
  have hl:=rv.length
  have D:=Dr (Draws.list (prog:=X.prog) (w:=X.w) (A:=X.A.in1) (I.ok.hd hc) it l hli its.toArray) m
  refine wpAny_pyNext_enum_endD (n:=m+its.toArray.size) D he ⟨i,by rw [fQ];omega,h1,pl.isList⟩ fun h' kk=>⟨rfl,?_⟩
  have Zt:∀ b v,H b=some v->b ∉ [e,it]:=fun b v q hb=>by rw [(hf b hb).1] at q;cases q
  have keep:∀ b o,b ∉ [e,it]->s.heap.get? b=some o->h'.get? b=some o:=fun b o hb q=>by
   simp only [cA,mK,or_false,not_or] at hb
   exact kk b o hb.2 q
  refine I.step (g':=s.gens) (d':=s.drawn) (t':=s.toks) (ch:=[e,it]) (fun b hb=>⟨(hf b hb).2.2.2.1,(hf b hb).2.1,(hf b hb).2.2.2.2.1,(hf b hb).2.2.2.2.2⟩) (fun b o _ _ hb e _=>keep b o hb e) (fun b o _ _ hb e _=>⟨o.slots,keep b o hb e⟩)
   (fun b o hb e n=>n) (fun b o hb e=>⟨o,keep b o hb e⟩) (fun _ _ e=>e) (fun _ _ _ e=>e) (fun b ps e=>⟨#[],by rw [e];simp⟩) (fun m hm=>?_) (fun b v e=>?_) I.bare
  ·obtain ⟨o,es,ep,ho,r⟩:=hm
   exact ⟨o,es,ep,keep _ o (fun hb=>(hf _ hb).2.1 rfl) ho,r⟩
  ·refine (I.bW b v e).ug (fun c o hc q=>keep c o ?_ q) (fun _ q=>q) fun _ _ q=>q
   rcases hc with rfl | hc
   ·exact Zt c v e
   ·exact Zt c _ hc
 self:=fun _ _ _ _ _ st h=>by obtain ⟨⟨old,he⟩,_⟩:=st;exact wpAny_pyIter_enum he h
section
variable {X:Cx}
def RE (K:bC) (m:Nat) (ta:TA):TI:=fun σ H R=>ta σ H fun vs H1=>∃ l xs,vs=[.ref l]/\du K H1 l xs/\R (Zr K m l xs) H1
theorem Zu {a:Expr}{ta:TA}{elts:List Expr}{x1:Nat}{lr p pos:Pos}(hg:Gl X "enumerate") (hm:X.mg "enumerate" = none) (ha:PA X [a] ta) (hs:starEach [a] X.env=[(false,eval a X.env)]) :
  PI X (.Tuple elts x1 lr) (.Call (.Name "enumerate" p) [a] [] pos) (RE X.K 0 ta):=by
 intro aa s σ H R I h
 refine Call_ (gc I hg hm L5 (BU (bS (ha pos aa s σ H _ I h) fun us s1 ⟨vs,H1,I1,r1,q1⟩=>?_) (by rw [hs];rfl) rfl))
 obtain ⟨l,xs,e,hq,q⟩:=q1
 subst e
 obtain ⟨u,rfl,rx⟩:=vals1 r1
 cases rx
 obtain ⟨its,rv,pl,hz⟩:=I1.list hq
 refine call_enumerate_list pl.isList fun h' a1 a2 _ kk=>wpAny_pyIter_enum (s:={ s1 with heap:=h' }) a1 ?_
 have ll:l<s1.heap.objs.size:=let ⟨_,e,_⟩:=pl.isList;Heap.lt_size e
 refine ⟨s1.heap.objs.size+1,_,_,_,H1,rfl,I1.kept (t':=s1.toks) kk,lB (l:=l) (it:=s1.heap.objs.size) (GD (yI _)) (dU (BO ll)) (dU ll),⟨⟨_,a1⟩,a2⟩,fun b hb=>?_,q⟩
 have AX:s1.heap.objs.size<=b:=by
  simp only [cA,mK,or_false] at hb
  rcases hb with rfl | rfl
  ·exact uf _ _
  ·exact dS _
 exact I1.um AX (I1.bW.fresh AX)
theorem RG {a:Expr}{ta:TA}{elts:List Expr}{x1 k1:Nat}{lr p pos p1 kp:Pos}(hg:Gl X "enumerate") (hm:X.mg "enumerate" = none) (ha:PA X [a] ta) (hs:starEach [a] X.env=[(false,eval a X.env)]) :
  PI X (.Tuple elts x1 lr) (.Call (.Name "enumerate" p) [a] [⟨some (Str.ofString "start"),.Constant (.int 1) k1 p1,kp⟩] pos) (RE X.K 1 ta):=by
 intro aa s σ H R I h
 refine wpAny_Call_Name_kw (gc I hg hm L5 ?_)
 refine PySem.W.callWith_of (P:=fun _=>True) (by rw [hs];rfl) (fun h _=>⟨.machine,.inr (.inl rfl),.now⟩) ?_
 refine PyProof.Rows.evalArgs_kw2 rfl (bS (ha pos aa s σ H _ I h) fun us s1 ⟨vs,H1,I1,r1,q1⟩=>?_) hs
 show wpAny _ _ (evalAll [(do let v <- eval (.Constant (.int 1) k1 p1) X.env;standAt pos;pure v)]) _ _ s1
 refine wpAny_evalAll_cons (wpAny_bind (wpAny_Constant_int (wpAny_bind (wpAny_standAt (wpAny_pure (wpAny_evalAll_nil ⟨trivial,?_⟩))))))
 obtain ⟨l,xs,e,hq,q⟩:=q1
 subst e
 obtain ⟨u,rfl,rx⟩:=vals1 r1
 cases rx
 have I2:Inv X aa σ H1 { s1 with toks:=s1.toks+1 }:=I1.tok _
 obtain ⟨its,rv,pl,hz⟩:=I2.list hq
 show wpAny _ _ (call (.type "enumerate") [.ref l] [(Str.ofString "start", .int 1 s1.toks)]) _ _ { s1 with toks:=s1.toks+1 }
 refine jS pl.isList fun h' a1 a2 _ kk=>wpAny_pyIter_enum (s:={ s1 with heap:=h',toks:=s1.toks+1 }) a1 ?_
 have ll:l<s1.heap.objs.size:=let ⟨_,e,_⟩:=pl.isList;Heap.lt_size e
 refine ⟨s1.heap.objs.size+1,_,_,_,H1,rfl,I2.kept (t':=s1.toks+1) kk,lB (m:=1) (l:=l) (it:=s1.heap.objs.size) (GD (yI _)) (dU (BO ll)) (dU ll),⟨⟨_,a1⟩,a2⟩,fun b hb=>?_,q⟩
 have AX:s1.heap.objs.size<=b:=by
  simp only [cA,mK,or_false] at hb
  rcases hb with rfl | rfl
  ·exact uf _ _
  ·exact dS _
 exact I2.um AX (I2.bW.fresh AX)
end
end L2
namespace D
inductive Ky where
 | i (n:Int) | s (l:List Nat)
 deriving DecidableEq
inductive T where
 | non | bl (b:Bool) | int (i:Int) | str (l:List Nat) | tup (xs:List T) | lst (xs:List T)
 | scr (ns:List Int)
 | obj (c:Nat) (fs:List T)
 | own (k:Nat)
 | dX (ks:List Ky) (vs:List T)
inductive C where
 | val (t:T) | ol (ts:List T) | od (ks:List Ky) (vs:List T)
 | yg (t:T)
structure Ob where
 c:Nat
 fs:List C
structure S where
 r:List (Option C)
 m:List Ob
inductive Res (α:Type) where
 | ok (a:α) | bad
 | exc (c:Nat) (fs:List T) (s:S)
noncomputable def Res.bind {α β:Type}(x:Res α) (f:α->Res β):Res β:=match x with
 | .ok a=>f a
 | .bad=>.bad
 | .exc c fs s=>.exc c fs s
theorem af {α β:Type}{x:Res α}{f:α->Res β}{b:β}(h:x.bind f=.ok b):∃ a,x=.ok a/\f a=.ok b:=by
 cases x with
 | ok a=>exact ⟨a,rfl,h⟩
 | bad=>cases h
 | exc c fs s=>cases h
noncomputable def cK {α:Type}:Option α->Res α
 | some a=>.ok a
 | none=>.bad
theorem az {α:Type}{o:Option α}{a:α}(h:cK o=.ok a):o=some a:=by
 cases o with
 | none=>cases h
 | some b=>cases h;rfl
noncomputable def gd {α:Type}(p:Prop) [Decidable p] (x:α):Option α:=if p then some x else none
theorem bI {α:Type}{p:Prop} [Decidable p] {x a:α}(h:gd p x=some a):p/\x=a:=by
 unfold gd at h
 split at h
 ·rename_i q;cases h;exact ⟨q,rfl⟩
 ·cases h
abbrev FE:=S->Res (T × S)
abbrev FT:=S->Res (Bool × S)
abbrev FL:=S->Res (List T × S)
inductive Out where
 | nx | rt (t:T) | bk | ct
abbrev FS:=S->Res (Out × S)
abbrev Fn:=List T->List Ob->Res (T × List Ob)
def Zv:T->T->Option T
 | .int i,.int j=>some (.int (i+j))
 | .str a,.str b=>gd (a.length+b.length<=1000000) (.str (a++b))
 | .lst a,.lst b=>gd (a.length+b.length<=1000000) (.lst (a++b))
 | _,_=>none
def Zw:T->T->Option T
 | .int i,.int j=>some (.int (i-j))
 | _,_=>none
def Zx:T->T->Option T
 | .int i,.int j=>gd (((-(2 ^ 64)<i/\i<2 ^ 64)\/(-(2 ^ 64)<j/\j<2 ^ 64))\/(i.natAbs.log2<2000000/\j.natAbs.log2<2000000)) (.int (i*j))
 | .lst a,.int k=>gd (k<1000000/\-1000000<k/\a.length*k.toNat<=1000000) (.lst (ed k.toNat a).flatten)
 | .str a,.int k=>gd (2<=k/\k<1000000/\a≠[]/\a.length*k.toNat<=1000000) (.str (ed k.toNat a).flatten)
 | _,_=>none
def Zy:T->T->Option T
 | .int i,.int j=>gd (0<j/\j<1073741824) (.int (i/j))
 | _,_=>none
def Zz:T->T->Option T
 | .int i,.int j=>gd (0<j) (.int (i % j))
 | _,_=>none
def ZA:T->T->Option T
 | .int i,.int j=>gd (0<=j/\j<=1000000/\i.natAbs<2 ^ 64) (.int (i ^ j.toNat))
 | _,_=>none
def kI:T->Option T
 | .int i=>some (.int (-i))
 | _=>none
def Dt (f:Int->Int->Bool):T->T->Option T
 | .int i,.int j=>some (.bl (f i j))
 | _,_=>none
mutual
noncomputable def eqT:T->T->Bool
 | .non,.non=>true
 | .bl a,.bl b=>a == b
 | .int a,.int b=>decide (a=b)
 | .bl a,.int b=>decide ((if a then 1 else 0:Int)=b)
 | .int a,.bl b=>decide (a=(if b then 1 else 0:Int))
 | .str a,.str b=>decide (a=b)
 | .tup a,.tup b=>gY a b
 | .lst a,.lst b=>gY a b
 | .scr a,.scr b=>decide (a=b)
 | .obj c a,.obj d b=>decide (c=d)&&gY a b
 | .own a,.own b=>decide (a=b)
 | .dX ks a,.dX ls b=>decide (ks=ls)&&gY a b
 | _,_=>false
noncomputable def gY:List T->List T->Bool
 | [],[]=>true
 | a::as,b::bs=>eqT a b&&gY as bs
 | _,_=>false
end
mutual
theorem rG:∀ t:T,eqT t t=true
 | .non=>rfl
 | .bl b=>by cases b<;>rfl
 | .int i=>decide_eq_true rfl
 | .str l=>decide_eq_true rfl
 | .tup xs=>fU xs
 | .lst xs=>fU xs
 | .scr ns=>decide_eq_true rfl
 | .obj c xs=>by
  show (decide (c=c)&&gY xs xs)=true
  rw [decide_eq_true rfl,fU xs];rfl
 | .own k=>decide_eq_true rfl
 | .dX ks xs=>by
  show (decide (ks=ks)&&gY xs xs)=true
  rw [decide_eq_true rfl,fU xs];rfl
theorem fU:∀ ts:List T,gY ts ts=true
 | []=>rfl
 | t::ts=>by
  show (eqT t t&&gY ts ts)=true
  rw [rG t,fU ts];rfl
end
def bq:T->Bool
 | .bl _=>true
 | .int _=>true
 | .str _=>true
 | .non=>true
 | _=>false
def all2 (p:T->T->Bool):List T->List T->Bool
 | a::as,b::bs=>p a b&&all2 p as bs
 | _,_=>true
def shape:Nat->T->T->Bool
 | n+1,.tup as,.tup bs=>all2 (shape n) as bs
 | n+1,.lst as,.lst bs=>all2 (shape n) as bs
 | _,a,b=>bq a&&bq b
def eqD:T->T->Option T:=fun a b=>gd (shape 5 a b=true) (.bl (eqT a b))
def neD:T->T->Option T:=fun a b=>gd (shape 5 a b=true) (.bl (!eqT a b))
def RH:T->Bool
 | .non=>true
 | _=>false
def isD (x:T):T->Option T
 | .non=>some (.bl (RH x))
 | .bl b=>(match x with
  | .bl a=>some (.bl (a == b))
  | _=>none)
 | _=>none
def Gb:T->T->Option Bool
 | .str [c],.str l=>some (decide (c∈l))
 | x,.tup ys=>gd (bq x=true/\ys.all bq=true) (ys.any fun y=>eqT y x)
 | x,.lst ys=>gd (bq x=true/\ys.all bq=true) (ys.any fun y=>eqT y x)
 | _,_=>none
def inD:T->T->Option T:=fun x y=>(Gb x y).map .bl
def RI:T->T->Option T:=fun x y=>(Gb x y).map fun b=>.bl (!b)
noncomputable def atT {α:Type}(xs:List α) (i:Int):Option α:=if 0<=i then (if i<xs.length then xs[i.toNat]? else none) else if -(xs.length:Int)<=i then xs[(i+xs.length).toNat]? else none
def ZC (ks:List Ky) (vs:List T) (k:Ky):Option T:=match ks,vs with
 | a::ks,v::vs=>if a=k then some v else ZC ks vs k
 | _,_=>none
def putK:List Ky->List T->Ky->T->List Ky × List T
 | a::ks,v::vs,k,t=>if a=k then (a::ks,t::vs) else let p:=putK ks vs k t;(a::p.1,v::p.2)
 | _,_,k,t=>([k],[t])
def Du:T->Option Ky
 | .int i=>some (.i i)
 | .str l=>some (.s l)
 | _=>none
def ixD:T->T->Option T
 | .lst xs,.int i=>atT xs i
 | .tup xs,.int i=>atT xs i
 | .str l,.int i=>(atT l i).map fun c=>.str [c]
 | .scr ns,.int i=>(atT ns i).map .int
 | .dX ks vs,x=>(Du x).bind (ZC ks vs)
 | _,_=>none
def iO:T->Option T
 | .str l=>some (.int l.length)
 | .tup xs=>some (.int xs.length)
 | .lst xs=>some (.int xs.length)
 | .scr ns=>some (.int ns.length)
 | .dX ks _=>some (.int ks.length)
 | _=>none
def fm (n d:Nat):Option Int->Nat
 | none=>d
 | some v=>if v<0 then (v+(n:Int)).toNat else min v.toNat n
noncomputable def bD {α:Type}(xs:List α) (lo hi:Option Int):List α:=(xs.drop (fm xs.length 0 lo)).take (fm xs.length xs.length hi-fm xs.length 0 lo)
def Dv (lo hi:Option Int):T->Option T
 | .str l=>some (.str (bD l lo hi))
 | .lst l=>some (.lst (bD l lo hi))
 | .scr ns=>some (.lst ((bD ns lo hi).map .int))
 | _=>none
def Jv:T->Option Bool
 | .bl b=>some b
 | .lst ts=>some (!ts.isEmpty)
 | _=>none
noncomputable def strsOf:List T->Option (List (List Nat))
 | []=>some []
 | .str l::ts=>(strsOf ts).map (l::·)
 | _=>none
noncomputable def bh (sep:List Nat):List (List Nat)->List Nat
 | []=>[]
 | [a]=>a
 | a::b::r=>a++sep++bh sep (b::r)
def wY:T->T->Option T
 | .str sep,.lst ts=>(strsOf ts).bind fun ys=>gd ((ys.map (·.length)).sum+ys.length*sep.length<=1000000) (.str (bh sep ys))
 | _,_=>none
noncomputable def pre (s l:List Nat):Bool:=decide (s.length<=l.length)&&(l.take s.length == s)
noncomputable def RJ (s l:List Nat):Bool:=decide (s.length<=l.length)&&(l.drop (l.length-s.length) == s)
def boolsOf:List T->Option (List Bool)
 | []=>some []
 | .bl b::ts=>(boolsOf ts).map (b::·)
 | _=>none
def RK:T->Option T
 | .lst ts=>(boolsOf ts).map fun bs=>.bl (bs.all id)
 | _=>none
def Jw:T->Option T
 | .lst ts=>(boolsOf ts).map fun bs=>.bl (bs.any id)
 | _=>none
def M3:T->Option T
 | .lst a=>some (.lst a)
 | .tup a=>some (.lst a)
 | _=>none
def ZD:T->Option T
 | .int i=>some (.int (if i<0 then -i else i))
 | _=>none
def bF:FE:=fun _=>.bad
def cF (t:T):FE:=fun s=>.ok (t,s)
def i7 (s:S) (i:Nat) (c:C):S:={ s with r:=s.r.set i (some c) }
noncomputable def vF (i:Nat):FE:=fun s=>match s.r[i]? with
 | some (some (.val t))=>.ok (t,s)
 | some (some (.ol ts))=>.ok (.lst ts,i7 s i (.val (.lst ts)))
 | some (some (.od ks ts))=>.ok (.dX ks ts,i7 s i (.val (.dX ks ts)))
 | _=>.bad
def bG (g:T->Option T) (a:FE):FE:=fun s=>(a s).bind fun p=>(cK (g p.1)).bind fun t=>.ok (t,p.2)
def a_ (g:T->T->Option T) (a b:FE):FE:=fun s=>(a s).bind fun p=>(b p.2).bind fun q=>(cK (g p.1 q.1)).bind fun t=>.ok (t,q.2)
def b_:FL:=fun s=>.ok ([],s)
def dY (a:FE) (r:FL):FL:=fun s=>(a s).bind fun p=>(r p.2).bind fun q=>.ok (p.1::q.1,q.2)
def iB:FL:=fun _=>.bad
def aK (g:List T->Option T) (a:FL):FE:=fun s=>(a s).bind fun p=>(cK (g p.1)).bind fun t=>.ok (t,p.2)
def aL (ts:List T):Option T:=gd (ts.length<=1000) (.tup ts)
def eU (ts:List T):Option T:=gd (ts.length<=1000) (.lst ts)
def mT:FT:=fun _=>.bad
def tB (a:FE):FT:=fun s=>(a s).bind fun p=>(cK (Jv p.1)).bind fun b=>.ok (b,p.2)
def dw (a b:FT):FT:=fun s=>(a s).bind fun p=>if p.1 then b p.2 else .ok (false,p.2)
def gz (a b:FT):FT:=fun s=>(a s).bind fun p=>if p.1 then .ok (true,p.2) else b p.2
def bz (a:FT):FT:=fun s=>(a s).bind fun p=>.ok (!p.1,p.2)
def dg:FT:=fun s=>.ok (true,s)
def RL:T->Option Bool
 | .bl b=>some b
 | _=>none
def dI (a b:FE):FE:=fun s=>(a s).bind fun p=>(cK (RL p.1)).bind fun k=>if k then b p.2 else .ok (.bl false,p.2)
def orV (a b:FE):FE:=fun s=>(a s).bind fun p=>(cK (RL p.1)).bind fun k=>if k then .ok (.bl true,p.2) else b p.2
def rH (a:FE):FE:=fun s=>(a s).bind fun p=>(cK (RL p.1)).bind fun k=>.ok (.bl (!k),p.2)
def qu (c:FT) (a b:FE):FE:=fun s=>(c s).bind fun p=>if p.1 then a p.2 else b p.2
abbrev FO:=S->Res (Option Int × S)
def rJ:FO:=fun s=>.ok (none,s)
def RM:T->Option Int
 | .int i=>some i
 | _=>none
def kJ (a:FE):FO:=fun s=>(a s).bind fun p=>(cK (RM p.1)).bind fun i=>.ok (some i,p.2)
def mU (a:FE) (lo hi:FO):FE:=fun s=>(a s).bind fun p=>(lo p.2).bind fun q=>(hi q.2).bind fun z=>(cK (Dv q.1 z.1 p.1)).bind fun t=>.ok (t,z.2)
def pC:Option (Option C)->Option (List T)
 | some (some (.ol ts))=>some ts
 | _=>none
def fD (i:Nat):FE:=fun s=>(cK (pC s.r[i]?)).bind fun ts=>.ok (.int ts.length,s)
def Ah (tab:List (List Nat)) (c f:Nat):Option Nat:=(tab[c]?).bind fun ns=>ns.idxOf? f
def aG (tab:List (List Nat)) (f:Nat) (a:FE):FE:=fun s=>(a s).bind fun p=>match p.1 with
 | .obj c fs=>(cK ((Ah tab c f).bind fun j=>fs[j]?)).bind fun t=>.ok (t,p.2)
 | .own k=>(cK ((p.2.m[k]?).bind fun ob=>(Ah tab ob.c f).bind fun j=>ob.fs[j]?)).bind fun c=>(match c with
  | .val t=>.ok (t,p.2)
  | _=>.bad)
 | _=>.bad
def c8 (c n:Nat) (fl:FL):FE:=fun s=>(fl s).bind fun p=>if p.1.length=n then .ok (.obj c p.1,p.2) else .bad
def Ai (c:Nat) (g:Fn) (fl:FL):FE:=fun s=>(fl s).bind fun p=>match g (.own p.2.m.length::p.1) (p.2.m++[⟨c,[]⟩]) with
 | .ok (.non,m')=>.ok (.own p.2.m.length,{ p.2 with m:=m' })
 | .exc c fs s'=>.exc c fs { p.2 with m:=s'.m }
 | _=>.bad
def RN (c:Nat):T->Option T
 | .lst ts=>some (.obj c [.lst ts])
 | _=>none
def ai (g:Fn) (ds:List T) (fl:FL):FE:=fun s=>(fl s).bind fun p=>match g (p.1++ds) p.2.m with
 | .ok q=>.ok (q.1,{ p.2 with m:=q.2 })
 | .bad=>.bad
 | .exc c fs s'=>.exc c fs { p.2 with m:=s'.m }
def aM (g:Nat->Option Fn) (o:FE) (fl:FL):FE:=fun s=>(o s).bind fun p=>match p.1 with
 | .own k=>(cK ((p.2.m[k]?).bind fun ob=>g ob.c)).bind fun h=>ai h [] (fun s=>(fl s).bind fun q=>.ok (.own k::q.1,q.2)) p.2
 | .obj c fs=>(cK (g c)).bind fun h=>ai h [] (fun s=>(fl s).bind fun q=>.ok (.obj c fs::q.1,q.2)) p.2
 | _=>.bad
def itD:T->Option (List T)
 | .lst ts=>some ts
 | .tup ts=>some ts
 | .str l=>some (l.map fun c=>.str [c])
 | .scr ns=>some (ns.map .int)
 | _=>none
def gZ (a:FE):FL:=fun s=>(a s).bind fun p=>(cK (itD p.1)).bind fun ts=>.ok (ts,p.2)
def mF (lo:Int) (n:Nat):List T:=(gM n).map fun k=>.int (lo+(k:Nat))
def mV:List T->Option (List T)
 | [.int j]=>gd (j<1000000/\-1000000<j) (mF 0 j.toNat)
 | [.int i,.int j]=>gd (i<1000000/\-1000000<i/\j<1000000/\-1000000<j) (mF i (j-i).toNat)
 | [.int i,.int j,.int k]=>gd (k=-1/\i<1000000/\-1000000<i/\j<1000000/\-1000000<j) ((gM (i-j).toNat).map fun k=>.int (i-(k:Nat)))
 | _=>none
def wZ (g:List T->Option (List T)) (a:FL):FL:=fun s=>(a s).bind fun p=>(cK (g p.1)).bind fun ts=>.ok (ts,p.2)
def fV:Int->List T->List T
 | _,[]=>[]
 | n,t::ts=>.tup [.int n,t]::fV (n+1) ts
def ZE (n:Int):T->Option (List T)
 | .lst ts=>some (fV n ts)
 | _=>none
def ki (n:Int) (a:FE):FL:=fun s=>(a s).bind fun p=>(cK (ZE n p.1)).bind fun ts=>.ok (ts,p.2)
abbrev FG:=T->List (Option C)->Option (List (Option C))
def setG (i:Nat):FG:=fun t r=>some (r.set i (some (.val t)))
def nJ:List Nat->List T->List (Option C)->Option (List (Option C))
 | [],[],r=>some r
 | i::is,t::ts,r=>nJ is ts (r.set i (some (.val t)))
 | _,_,_=>none
def eG (is:List Nat):FG:=fun t r=>match t with
 | .tup ts=>nJ is ts r
 | _=>none
def Jx (r:List (Option C)) (j:Nat):List (Option C):=match r[j]? with
 | some (some (.ol ts))=>r.set j (some (.val (.lst ts)))
 | _=>r
def jo:List Nat->List (Option C)->List (Option C)
 | [],r=>r
 | j::js,r=>jo js (Jx r j)
def iP (k:Nat) (js:List Nat) (r:List (Option C)):List (Option C):=ed k none++js.map fun j=>match r[j]? with
 | some (some (.val t))=>some (.val t)
 | _=>none
def cC (g:FG) (c:FT) (e:FE) (b:List (Option C)):List T->List Ob->Res (List T × List Ob)
 | [],m=>.ok ([],m)
 | t::ts,m=>(cK (g t b)).bind fun b1=>(c ⟨b1,m⟩).bind fun p=>if p.1 then (e p.2).bind fun q=>(cC g c e b ts q.2.m).bind fun z=>.ok (q.1::z.1,z.2) else cC g c e b ts p.2.m
def bj (src:FL) (k:Nat) (js:List Nat) (g:FG) (c:FT) (e:FE):FL:=fun s=>(src s).bind fun p=>if p.1.length<=1000000 then
  (cC g c e (iP k js (jo js p.2.r)) p.1 p.2.m).bind fun q=>.ok (q.1,⟨jo js p.2.r,q.2⟩) else .bad
def bP (fl:FL):FE:=fun s=>(fl s).bind fun p=>.ok (.lst p.1,p.2)
def ao:FS:=fun s=>.ok (.nx,s)
def bM:FS:=fun _=>.bad
def ah (a b:FS):FS:=fun s=>(a s).bind fun p=>match p.1 with
 | .nx=>b p.2
 | o=>.ok (o,p.2)
def aA (i:Nat) (a:FE):FS:=fun s=>(a s).bind fun p=>.ok (.nx,i7 p.2 i (.val p.1))
def kK (i:Nat) (a:FL):FS:=fun s=>(a s).bind fun p=>.ok (.nx,i7 p.2 i (.ol p.1))
def vH (g:FG) (a:FE):FS:=fun s=>(a s).bind fun p=>(cK (g p.1 p.2.r)).bind fun r=>.ok (.nx,{ p.2 with r:=r })
def ak (a:FE):FS:=fun s=>(a s).bind fun p=>.ok (.rt p.1,p.2)
def cX (a:FE):FS:=fun s=>(a s).bind fun p=>.ok (.nx,p.2)
def aQ (c:FT) (a b:FS):FS:=fun s=>(c s).bind fun p=>if p.1 then a p.2 else b p.2
def ZF:FS:=fun s=>.ok (.bk,s)
def ZG:FS:=fun s=>.ok (.ct,s)
def dZ (i:Nat) (a:FE):FS:=fun s=>(cK (pC s.r[i]?)).bind fun _=>(a s).bind fun p=>(cK (pC p.2.r[i]?)).bind fun ts=>(cK (gd (ts.length<1000000) ts)).bind fun ts=>.ok (.nx,i7 p.2 i (.ol (ts++[p.1])))
def dW (i:Nat) (b a:FE):FS:=fun s=>(a s).bind fun p=>(cK (pC p.2.r[i]?)).bind fun _=>(b p.2).bind fun q=>(cK (pC q.2.r[i]?)).bind fun ts=>(cK (RM q.1)).bind fun j=>(cK (gd (0<=j/\j<ts.length) (ts.set j.toNat p.1))).bind fun us=>.ok (.nx,i7 q.2 i (.ol us))
def Dw (g:T->T->Option T) (i:Nat) (a:FE):FS:=fun s=>match s.r[i]? with
 | some (some (.val x))=>(a s).bind fun p=>(cK (g x p.1)).bind fun t=>.ok (.nx,i7 p.2 i (.val t))
 | _=>.bad
def setAt (fs:List C) (j:Nat) (c:C):Option (List C):=if j<fs.length then some (fs.set j c) else if j=fs.length then some (fs++[c]) else none
def M4 (tab:List (List Nat)) (f:Nat) (c:C) (ob:Ob):Option Ob:=(Ah tab ob.c f).bind fun j=>(setAt ob.fs j c).map fun fs=>⟨ob.c,fs⟩
def jq (tab:List (List Nat)) (f:Nat) (o a:FE):FS:=fun s=>(a s).bind fun p=>(o p.2).bind fun q=>match q.1 with
 | .own k=>(cK ((q.2.m[k]?).bind (M4 tab f (.val p.1)))).bind fun ob=>.ok (.nx,{ q.2 with m:=q.2.m.set k ob })
 | _=>.bad
def c_ (g:FG) (b:FS):List T->FS
 | [],s=>.ok (.nx,s)
 | t::ts,s=>(cK (g t s.r)).bind fun r=>(b ⟨r,s.m⟩).bind fun p=>match p.1 with
  | .nx=>c_ g b ts p.2
  | .ct=>c_ g b ts p.2
  | .bk=>.ok (.nx,p.2)
  | .rt t=>.ok (.rt t,p.2)
def jr (src:FL) (g:FG) (b:FS):FS:=fun s=>(src s).bind fun p=>c_ g b p.1 p.2
def b7 (c:FT) (b:FS):Nat->FS
 | 0,_=>.bad
 | n+1,s=>(c s).bind fun p=>if p.1 then (b p.2).bind fun q=>(match q.1 with
  | .nx=>b7 c b n q.2
  | .ct=>b7 c b n q.2
  | .bk=>.ok (.nx,q.2)
  | .rt t=>.ok (.rt t,q.2)) else .ok (.nx,p.2)
def pD (n:Nat) (c:FT) (b:FS):FS:=b7 c b n
def rK (c:Nat) (fl:FL):FE:=fun s=>(fl s).bind fun p=>.ok (.own p.2.m.length,{ p.2 with m:=p.2.m++[⟨c,[.ol p.1]⟩] })
def Aj (c:Nat) (m:List Ob):T->Option (Nat × List T)
 | .own k=>match m[k]? with
  | some ⟨d,[.ol ts]⟩=>if d=c then some (k,ts) else none
  | _=>none
 | _=>none
def kL (c:Nat) (a b:FE):FE:=fun s=>(a s).bind fun p=>(b p.2).bind fun q=>(cK (Aj c q.2.m p.1)).bind fun z=>(cK (RM q.1)).bind fun j=>(cK (atT z.2 j)).bind fun t=>.ok (t,q.2)
def lC (c:Nat) (a b e:FE):FS:=fun s=>(e s).bind fun v=>(a v.2).bind fun p=>(b p.2).bind fun q=>(cK (Aj c q.2.m p.1)).bind fun z=>(cK (RM q.1)).bind fun j=>(cK (gd (0<=j/\j<z.2.length) ())).bind fun _=>.ok (.nx,{ q.2 with m:=q.2.m.set z.1 ⟨c,[.ol (z.2.set j.toNat v.1)]⟩ })
def aR (np n:Nat) (b:FS):Fn:=fun ts m=>if ts.length=np then (b ⟨ts.map (fun t=>some (.val t))++ed (n-ts.length) none,m⟩).bind fun p=>match p.1 with
 | .rt t=>.ok (t,p.2.m)
 | .nx=>.ok (.non,p.2.m)
 | _=>.bad else .bad
mutual
def noOwn:T->Bool
 | .own _=>false
 | .tup xs=>aB xs
 | .lst xs=>aB xs
 | .obj _ xs=>aB xs
 | .dX _ xs=>aB xs
 | _=>true
def aB:List T->Bool
 | []=>true
 | t::ts=>noOwn t&&aB ts
end
noncomputable def aY (g:Fn):Fn:=fun ts m=>if aB ts=true then (match g ts [] with
 | .ok q=>if noOwn q.1=true then .ok (q.1,m) else .bad
 | .bad=>.bad
 | .exc c fs s=>if aB fs=true then .exc c fs ⟨s.r,m⟩ else .bad) else .bad
end D
namespace D
open PySem L2
abbrev SV (l:List Nat):V:=.str ⟨l.toArray⟩
structure KT where
 K:bC
 P:Program
 w:World
 cn:List Str
 fn:List (List Str)
def gE (B:KT) (c:Nat) (C:Addr) (ns:List Str):Prop:=∃ n,B.cn[c]?=some n/\B.fn[c]?=some ns/\ns.Nodup/\mJ B.K mainGlobals n=some (some (.ref C))
theorem gE.eq {B:KT}{c:Nat}{C C':Addr}{ns Gd:List Str}(h:gE B c C ns) (h':gE B c C' Gd):C=C'/\ns=Gd:=by
 obtain ⟨n,a,b,_,d⟩:=h
 obtain ⟨n',a',b',_,d'⟩:=h'
 rw [a] at a';cases a'
 rw [b] at b';cases b'
 rw [d] at d';cases d'
 exact ⟨rfl,rfl⟩
def lD:Ky->Key
 | .i n=>.inl n
 | .s l=>.inr ⟨l.toArray⟩
inductive g8 where
 | loc (i:Nat) | ob (k:Nat) | fld (k j:Nat)
 deriving DecidableEq
structure G where
 HF:Hp
 o:Addr->Option g8
 al:List Addr
mutual
def Rep (B:KT) (al:List Addr) (H:Hp):T->V->Prop
 | .non,v=>v=.non
 | .bl b,v=>v=.bl b
 | .int i,v=>v=.int i
 | .str l,v=>v=SV l/\l.length<=1000000
 | .tup ts,v=>∃ a vs,v=.ref a/\j_ B.K H a vs/\aC B al H ts vs
 | .lst ts,v=>∃ a vs,v=.ref a/\H a=some (.lst vs)/\aC B al H ts vs
 | .scr ns,v=>∃ a,v=.ref a/\du B.K H a (ns.map V.int)
 | .obj c ts,v=>∃ a C dx ns vs,v=.ref a/\gE B c C ns/\H a=some (.ins C dx (ns.zip vs))/\vs.length<=ns.length/\H dx=some (.own a)/\aC B al H ts vs
 | .own k,v=>∃ a,v=.ref a/\al[k]?=some a
 | .dX ks ts,v=>∃ a vs,v=.ref a/\H a=some (.dK ((ks.map lD).zip vs))/\ks.length=vs.length/\aC B al H ts vs
def aC (B:KT) (al:List Addr) (H:Hp):List T->List V->Prop
 | [],vs=>vs=[]
 | t::ts,vs=>∃ v r,vs=v::r/\Rep B al H t v/\aC B al H ts r
end
theorem bU {K:bC}{H H':Hp}(s:aN H H') {a:Addr}{xs:List V}(q:j_ K H a xs):j_ K H' a xs:=by
 rcases q with (q | ⟨o,q⟩) | q
 ·exact .inl (.inl (s _ _ q))
 ·exact .inl (.inr ⟨o,s _ _ q⟩)
 ·exact .inr q
theorem ir {α:Type}{l m:List α}(p:l <+: m) {k:Nat}{a:α}(h:l[k]?=some a):m[k]?=some a:=by
 obtain ⟨r,rfl⟩:=p
 rw [iI (cU.mp h).1];exact h
variable {X:Cx}{a b c e:Expr}{fa fb fc:FE}{g g':G}{H H':Hp}{B:KT}{p pos:Pos}{s s':S}{σ:St}
variable {al al':List Addr}{HF eM:Hp}
mutual
theorem Rep.mv (p:al <+: al') (s:aN H H'):∀ {t:T}{v:V},Rep B al H t v->Rep B al' H' t v
 | .non,_,h=>h
 | .bl _,_,h=>h
 | .int _,_,h=>h
 | .str _,_,h=>h
 | .tup ts,_,h=>by
  obtain ⟨a,vs,e,q,r⟩:=h
  exact ⟨a,vs,e,bU s q,aC.mv p s r⟩
 | .lst ts,_,h=>by
  obtain ⟨a,vs,e,q,r⟩:=h
  exact ⟨a,vs,e,s _ _ q,aC.mv p s r⟩
 | .scr ns,_,h=>by
  obtain ⟨a,e,q⟩:=h
  exact ⟨a,e,s.seq q⟩
 | .obj c ts,_,h=>by
  obtain ⟨a,C,dx,ns,vs,e,z,q,l,q2,r⟩:=h
  exact ⟨a,C,dx,ns,vs,e,z,s _ _ q,l,s _ _ q2,aC.mv p s r⟩
 | .own k,_,h=>by
  obtain ⟨a,e,q⟩:=h
  exact ⟨a,e,ir p q⟩
 | .dX ks ts,_,h=>by
  obtain ⟨a,vs,e,q,l,r⟩:=h
  exact ⟨a,vs,e,s _ _ q,l,aC.mv p s r⟩
theorem aC.mv (p:al <+: al') (s:aN H H'):∀ {ts:List T}{vs:List V},aC B al H ts vs->aC B al' H' ts vs
 | [],_,h=>h
 | t::ts,_,h=>by
  obtain ⟨v,r,e,h1,h2⟩:=h
  exact ⟨v,r,e,Rep.mv p s h1,aC.mv p s h2⟩
end
theorem Rep.same (s:aN H H') {t:T}{v:V}(h:Rep B al H t v):Rep B al H' t v:=h.mv dC s
theorem aC.same (s:aN H H') {t:List T}{v:List V}(h:aC B al H t v):aC B al H' t v:=h.mv dC s
theorem aC.len:∀ {ts:List T}{vs:List V},aC B al H ts vs->ts.length=vs.length
 | [],_,h=>by cases (show _=[] from h);rfl
 | t::ts,_,h=>by
  obtain ⟨v,r,rfl,_,h2⟩:=h
  simp [aC.len h2]
theorem aC.get:∀ {ts:List T}{vs:List V},aC B al H ts vs->∀ {i:Nat}{t:T},ts[i]?=some t->∃ v,vs[i]?=some v/\Rep B al H t v
 | [],_,_,_,_,e=>by simp at e
 | t::ts,_,h,0,_,e=>by
  obtain ⟨v,r,rfl,h1,_⟩:=h
  simp at e;subst e
  exact ⟨v,rfl,h1⟩
 | t::ts,_,h,i+1,_,e=>by
  obtain ⟨v,r,rfl,_,h2⟩:=h
  obtain ⟨v',e',h'⟩:=aC.get h2 (i:=i) (by simpa using e)
  exact ⟨v',by simpa using e',h'⟩
theorem aC.Ak:∀ {ts:List T}{vs:List V},aC B al H ts vs->∀ {i:Nat}{v:V},vs[i]?=some v->∃ t,ts[i]?=some t/\Rep B al H t v
 | [],_,h,_,_,e=>by have h:_=[]:=h;subst h;simp at e
 | t::ts,_,h,0,_,e=>by
  obtain ⟨v,r,rfl,h1,_⟩:=h
  simp at e;subst e
  exact ⟨t,rfl,h1⟩
 | t::ts,_,h,i+1,_,e=>by
  obtain ⟨v,r,rfl,_,h2⟩:=h
  obtain ⟨t',e',h'⟩:=aC.Ak h2 (i:=i) (by simpa using e)
  exact ⟨t',by simpa using e',h'⟩
theorem aC.app:∀ {ts us:List T}{vs ws:List V},aC B al H ts vs->aC B al H us ws->aC B al H (ts++us) (vs++ws)
 | [],_,_,_,h,h'=>by have h:_=[]:=h;subst h;exact h'
 | t::ts,_,_,_,h,h'=>by
  obtain ⟨v,r,rfl,h1,h2⟩:=h
  exact ⟨v,_,rfl,h1,h2.app h'⟩
theorem aC.drop:∀ {ts:List T}{vs:List V}(n:Nat),aC B al H ts vs->aC B al H (ts.drop n) (vs.drop n)
 | ts,vs,0,h=>by simpa using h
 | [],_,n+1,h=>by have h:_=[]:=h;subst h;rfl
 | t::ts,_,n+1,h=>by
  obtain ⟨v,r,rfl,_,h2⟩:=h
  simpa using h2.drop n
theorem aC.take:∀ {ts:List T}{vs:List V}(n:Nat),aC B al H ts vs->aC B al H (ts.take n) (vs.take n)
 | ts,vs,0,h=>by simp [aC]
 | [],_,n+1,h=>by have h:_=[]:=h;subst h;rfl
 | t::ts,_,n+1,h=>by
  obtain ⟨v,r,rfl,h1,h2⟩:=h
  exact ⟨v,r.take n,rfl,h1,h2.take n⟩
theorem aC.set {t:T}{v:V}(q:Rep B al H t v):∀ {ts:List T}{vs:List V}(n:Nat),aC B al H ts vs->aC B al H (ts.set n t) (vs.set n v)
 | [],_,n,h=>by have h:_=[]:=h;subst h;rfl
 | _::ts,_,0,h=>by
  obtain ⟨w,r,rfl,h1,h2⟩:=h
  exact ⟨v,r,rfl,q,h2⟩
 | u::ts,_,n+1,h=>by
  obtain ⟨w,r,rfl,h1,h2⟩:=h
  exact ⟨w,r.set n v,rfl,h1,h2.set q n⟩
theorem aC.flat {ts:List T}{vs:List V}(h:aC B al H ts vs):∀ n:Nat,aC B al H (ed n ts).flatten (ed n vs).flatten
 | 0=>rfl
 | n+1=>by
  rw [uc,uc,ud,ud]
  exact h.app (h.flat n)
theorem aC.one {t:T}{v:V}(q:Rep B al H t v):aC B al H [t] [v]:=⟨v,[],rfl,q,rfl⟩
theorem aC.ints:∀ ns:List Int,aC B al H (ns.map T.int) (ns.map V.int)
 | []=>rfl
 | n::ns=>⟨_,_,rfl,rfl,aC.ints ns⟩
theorem aC.signs:∀ l:List Nat,aC B al H (l.map fun c=>T.str [c]) (l.map fun c=>V.str ⟨#[c]⟩)
 | []=>rfl
 | c::l=>⟨_,_,rfl,⟨rfl,by simp⟩,aC.signs l⟩
mutual
theorem Rep.no:∀ {t:T}{v:V},noOwn t=true->Rep B al H t v->Rep B al' H t v
 | .non,_,_,h=>h
 | .bl _,_,_,h=>h
 | .int _,_,_,h=>h
 | .str _,_,_,h=>h
 | .tup ts,_,n,h=>by
  obtain ⟨a,vs,e,q,r⟩:=h
  exact ⟨a,vs,e,q,aC.no n r⟩
 | .lst ts,_,n,h=>by
  obtain ⟨a,vs,e,q,r⟩:=h
  exact ⟨a,vs,e,q,aC.no n r⟩
 | .scr ns,_,_,h=>h
 | .obj c ts,_,n,h=>by
  obtain ⟨a,C,dx,ns,vs,e,z,q,l,q2,r⟩:=h
  exact ⟨a,C,dx,ns,vs,e,z,q,l,q2,aC.no n r⟩
 | .own k,_,n,h=>by cases n
 | .dX ks ts,_,n,h=>by
  obtain ⟨a,vs,e,q,l,r⟩:=h
  exact ⟨a,vs,e,q,l,aC.no n r⟩
theorem aC.no:∀ {ts:List T}{vs:List V},aB ts=true->aC B al H ts vs->aC B al' H ts vs
 | [],_,_,h=>h
 | t::ts,_,n,h=>by
  obtain ⟨v,r,e,h1,h2⟩:=h
  have n:(noOwn t&&aB ts)=true:=n
  rw [c6] at n
  exact ⟨v,r,e,Rep.no n.1 h1,aC.no n.2 h2⟩
end
structure Gr (HF H eM H':Hp):Prop where
 fr:aN HF eM
 sub:aN eM H'
 rest:∀ b o,H b=some o->HF b=none->H' b=some o/\eM b=none
theorem Gr.refl {HF H:Hp}(s:aN HF H):Gr HF H HF H:=⟨aN.refl _,s,fun _ _ h n=>⟨h,n⟩⟩
theorem Gr.trans {HF H HF1 H1 HF2 H2:Hp}(a:Gr HF H HF1 H1) (b:Gr HF1 H1 HF2 H2):Gr HF H HF2 H2:=
 ⟨a.fr.trans b.fr,b.sub,fun c o h n=>let ⟨h1,n1⟩:=a.rest c o h n;b.rest c o h1 n1⟩
theorem Gr.same {HF H eM H':Hp}(s:aN HF H) (a:Gr HF H eM H'):aN H H':=fun b o h=>by
 cases e:HF b with
 | none=>exact (a.rest b o h e).1
 | some u=>
  have:=s b u e
  rw [h] at this;cases this
  exact a.sub _ _ (a.fr _ _ e)
theorem bo {H:Hp}{p:Addr}{o:HO}(h:H p=none):aN H (upd H p o):=fun b u e=>by rw [au (aO e h)];exact e
theorem Gr.new {HF H:Hp}(s:aN HF H) {p:Addr}{o:HO}(h:H p=none):Gr HF H (upd HF p o) (upd H p o):=by
 have hf:HF p=none:=s.free h
 refine ⟨bo hf,fun b u e=>?_,fun b u e n=>?_⟩
 ·by_cases hb:b=p
  ·subst hb;rw [aq] at e ⊢;exact e
  ·rw [au hb] at e ⊢;exact s _ _ e
 ·have hb:b≠p:=aO e h
  rw [au hb,au hb];exact ⟨e,n⟩
theorem Gr.Dy {HF H:Hp}(s:aN HF H) {p:Addr}{o:HO}(h:H p=none):Gr HF H HF (upd H p o):=
 ⟨aN.refl _,s.trans (bo h),fun b u e n=>⟨bo h _ _ e,n⟩⟩
def bB (B:KT) (g:G) (H:Hp) (p:g8):C->V->Prop
 | .val t,v=>Rep B g.al g.HF t v
 | .ol ts,v=>∃ l vs,v=.ref l/\g.o l=some p/\H l=some (.lst vs)/\aC B g.al g.HF ts vs
 | .od ks ts,v=>∃ l vs,v=.ref l/\g.o l=some p/\H l=some (.dK ((ks.map lD).zip vs))/\ks.length=vs.length/\aC B g.al g.HF ts vs
 | .yg t,v=>∃ HY:Hp,(∀ b u,HY b=some u->g.o b=some p/\H b=some u)/\Rep B [] HY t v
structure Jy (B:KT) (g:G) (H:Hp) (k:Nat) (ob:Ob) (a C dx:Addr) (ns:List Str) (vs:List V):Prop where
 al:g.al[k]?=some a
 o:g.o a=some (.ob k)
 cl:gE B ob.c C ns
 h:H a=some (.ins C dx (ns.zip vs))
 le:vs.length<=ns.length
 ln:vs.length=ob.fs.length
 f:∀ j c,ob.fs[j]?=some c->∃ v,vs[j]?=some v/\bB B g H (.fld k j) c v
structure BxR (B:KT) (g:G) (H:Hp) (k:Nat) (ob:Ob) (a:Addr) (vs:List V) (ts:List T):Prop where
 al:g.al[k]?=some a
 o:g.o a=some (.ob k)
 nc:B.cn[ob.c]?=none
 nf:B.fn[ob.c]?=none
 fs:ob.fs=[.ol ts]
 h:H a=some (.lst vs)
 r:aC B g.al g.HF ts vs
def RO (B:KT) (g:G) (H:Hp) (k:Nat) (ob:Ob):Prop:=(∃ a C dx ns vs,Jy B g H k ob a C dx ns vs)\/∃ a vs ts,BxR B g H k ob a vs ts
structure fW (B:KT) (g:G) (H:Hp) (m:List Ob):Prop where
 sub:aN g.HF H
 live:∀ b p,g.o b=some p->g.HF b=none/\∃ u,H b=some u
 len:m.length=g.al.length
 at_:∀ k ob,m[k]?=some ob->RO B g H k ob
structure lE (B:KT) (g:G) (H:Hp) (σ:St) (r:List (Option C)):Prop where
 len:r.length=σ.length
 at_:∀ i c,r[i]?=some (some c)->∃ v,σ[i]?=some (some v)/\bB B g H (.loc i) c v
structure SR (B:KT) (g:G) (H:Hp) (σ:St) (s:S):Prop where
 st:fW B g H s.m
 lc:lE B g H σ s.r
structure dJ (g:G) (H:Hp) (g':G) (H':Hp):Prop where
 fr:aN g.HF g'.HF
 pre:g.al <+: g'.al
 rest:∀ b u,H b=some u->g.HF b=none->g.o b=none->H' b=some u/\g'.HF b=none/\g'.o b=none
 there:∀ b,H' b=none->H b=none
variable {g1 g2:G}{H1 H2:Hp}
theorem dJ.refl:dJ g H g H:=⟨aN.refl _,dC,fun _ _ h n o=>⟨h,n,o⟩,fun _ h=>h⟩
theorem dJ.trans (a:dJ g H g1 H1) (b:dJ g1 H1 g2 H2):dJ g H g2 H2:=
 ⟨a.fr.trans b.fr,a.pre.trans b.pre,fun c u h n o=>let ⟨h1,n1,o1⟩:=a.rest c u h n o;b.rest c u h1 n1 o1,fun c h=>a.there c (b.there c h)⟩
abbrev G.grow (g:G) (eM:Hp):G:={ g with HF:=eM }
theorem bB.grow (gr:Gr g.HF H eM H') (lv:∀ b p,g.o b=some p->g.HF b=none/\∃ u,H b=some u) {p:g8}:∀ {c:C}{v:V},bB B g H p c v->bB B (g.grow eM) H' p c v
 | .val t,v,h=>h.same gr.fr
 | .ol ts,v,h=>by
  obtain ⟨l,vs,e,o,q,r⟩:=h
  exact ⟨l,vs,e,o,(gr.rest l _ q (lv l p o).1).1,r.same gr.fr⟩
 | .od ks ts,v,h=>by
  obtain ⟨l,vs,e,o,q,n,r⟩:=h
  exact ⟨l,vs,e,o,(gr.rest l _ q (lv l p o).1).1,n,r.same gr.fr⟩
 | .yg t,v,h=>by
  obtain ⟨HY,h1,r⟩:=h
  exact ⟨HY,fun b u e=>let ⟨h2,h3⟩:=h1 b u e;⟨h2,(gr.rest b u h3 (lv b p h2).1).1⟩,r⟩
theorem Jy.grow {k:Nat}{ob:Ob}{a C dx:Addr}{ns:List Str}{vs:List V}(x:Jy B g H k ob a C dx ns vs) (gr:Gr g.HF H eM H') (lv:∀ b p,g.o b=some p->g.HF b=none/\∃ u,H b=some u):Jy B (g.grow eM) H' k ob a C dx ns vs:=
 ⟨x.al,x.o,x.cl,(gr.rest _ _ x.h (lv _ _ x.o).1).1,x.le,x.ln,fun j c e=>let ⟨v,h1,h2⟩:=x.f j c e;⟨v,h1,h2.grow gr lv⟩⟩
theorem RO.grow {k:Nat}{ob:Ob}(x:RO B g H k ob) (gr:Gr g.HF H eM H') (lv:∀ b p,g.o b=some p->g.HF b=none/\∃ u,H b=some u):RO B (g.grow eM) H' k ob:=by
 rcases x with ⟨a,C,dx,ns,vs,y⟩ | ⟨a,vs,ts,y⟩
 ·exact .inl ⟨a,C,dx,ns,vs,y.grow gr lv⟩
 ·exact .inr ⟨a,vs,ts,y.al,y.o,y.nc,y.nf,y.fs,(gr.rest _ _ y.h (lv _ _ y.o).1).1,y.r.same gr.fr⟩
theorem fW.grow {m:List Ob}(x:fW B g H m) (gr:Gr g.HF H eM H'):fW B (g.grow eM) H' m:=
 ⟨gr.sub,fun b p e=>by
  obtain ⟨h1,u,h2⟩:=x.live b p e
  obtain ⟨h3,h4⟩:=gr.rest b u h2 h1
  exact ⟨h4,u,h3⟩,x.len,fun k ob e=>(x.at_ k ob e).grow gr x.live⟩
theorem SR.grow (x:SR B g H σ s) (gr:Gr g.HF H eM H'):SR B (g.grow eM) H' σ s:=
 ⟨x.st.grow gr,x.lc.len,fun i c e=>let ⟨v,h1,h2⟩:=x.lc.at_ i c e;⟨v,h1,h2.grow gr x.st.live⟩⟩
theorem SR.sub (x:SR B g H σ s):aN g.HF H:=x.st.sub
theorem Gr.free (gr:Gr HF H eM H') (sm:aN HF H) {b:Addr}(h:H' b=none):H b=none:=(gr.same sm).free h
theorem SR.mW (x:SR B g H σ s) (gr:Gr g.HF H eM H'):dJ g H (g.grow eM) H':=
 ⟨gr.fr,dC,fun b u h n o=>let ⟨h1,h2⟩:=gr.rest b u h n;⟨h1,h2,o⟩,fun b h=>gr.free x.sub h⟩
variable {m:List Ob}
theorem bB.mv {p:g8}(fr:aN g.HF g'.HF) (pre:g.al <+: g'.al) (k:∀ l,g.o l=some p->g'.o l=some p/\H' l=H l):∀ {c:C}{v:V},bB B g H p c v->bB B g' H' p c v
 | .val t,v,h=>Rep.mv pre fr h
 | .ol ts,v,h=>by
  obtain ⟨l,vs,e,o,q,r⟩:=h
  obtain ⟨o',h'⟩:=k l o
  exact ⟨l,vs,e,o',h'.trans q,r.mv pre fr⟩
 | .od ks ts,v,h=>by
  obtain ⟨l,vs,e,o,q,n,r⟩:=h
  obtain ⟨o',h'⟩:=k l o
  exact ⟨l,vs,e,o',h'.trans q,n,r.mv pre fr⟩
 | .yg t,v,h=>by
  obtain ⟨HY,h1,r⟩:=h
  exact ⟨HY,fun b u e=>let ⟨h2,h3⟩:=h1 b u e;let ⟨h4,h5⟩:=k b h2;⟨h4,h5.trans h3⟩,r⟩
theorem Jy.mv {k:Nat}{ob:Ob}{a C dx:Addr}{ns:List Str}{vs:List V}(x:Jy B g H k ob a C dx ns vs) (fr:aN g.HF g'.HF) (pre:g.al <+: g'.al) (kk:∀ l p,g.o l=some p->(p=.ob k\/∃ j,p=.fld k j)->g'.o l=some p/\H' l=H l):Jy B g' H' k ob a C dx ns vs:=by
 obtain ⟨o',h'⟩:=kk a _ x.o (.inl rfl)
 exact ⟨ir pre x.al,o',x.cl,h'.trans x.h,x.le,x.ln,fun j c e=>let ⟨v,h1,h2⟩:=x.f j c e;⟨v,h1,h2.mv fr pre fun l z=>kk l _ z (.inr ⟨j,rfl⟩)⟩⟩
theorem RO.mv {k:Nat}{ob:Ob}(x:RO B g H k ob) (fr:aN g.HF g'.HF) (pre:g.al <+: g'.al) (kk:∀ l p,g.o l=some p->(p=.ob k\/∃ j,p=.fld k j)->g'.o l=some p/\H' l=H l):RO B g' H' k ob:=by
 rcases x with ⟨a,C,dx,ns,vs,y⟩ | ⟨a,vs,ts,y⟩
 ·exact .inl ⟨a,C,dx,ns,vs,y.mv fr pre kk⟩
 ·obtain ⟨o',h'⟩:=kk a _ y.o (.inl rfl)
  exact .inr ⟨a,vs,ts,ir pre y.al,o',y.nc,y.nf,y.fs,h'.trans y.h,y.r.mv pre fr⟩
theorem fW.mv (x:fW B g H m) (sub:aN g'.HF H') (live:∀ b p,g'.o b=some p->g'.HF b=none/\∃ u,H' b=some u) (fr:aN g.HF g'.HF) (eal:g'.al=g.al) (kk:∀ l p,g.o l=some p->(∀ i,p≠.loc i)->g'.o l=some p/\H' l=H l):fW B g' H' m:=
 ⟨sub,live,by rw [eal];exact x.len,fun k ob e=>(x.at_ k ob e).mv fr (by rw [eal];exact dC) fun l p h q=>kk l p h (by
  rcases q with q | ⟨j,q⟩
  ·subst q;exact fun i z=>by cases z
  ·subst q;exact fun i z=>by cases z)⟩
theorem lE.set {r:List (Option C)}{i:Nat}{v:V}{c:C}(x:lE B g H σ r) (q:bB B g' H' (.loc i) c v) (kk:∀ j c v,j≠i->bB B g H (.loc j) c v->bB B g' H' (.loc j) c v):lE B g' H' (σ.set i (some v)) (r.set i (some c)):=by
 refine ⟨by rw [gC,gC];exact x.len,fun j d h=>?_⟩
 by_cases hj:i=j
 ·subst hj
  have fL:i<r.length:=by have:=(cU.mp h).1;rw [gC] at this;exact this
  rw [gB fL] at h
  cases h
  exact ⟨v,gB (by rw [<- x.len];exact fL),q⟩
 ·rw [iH hj] at h
  obtain ⟨w,h1,h2⟩:=x.at_ j d h
  exact ⟨w,by rw [iH hj];exact h1,kk j d w (Ne.symm hj) h2⟩
theorem SR.set (x:SR B g H σ s) {i:Nat}{t:T}{v:V}(r:Rep B g.al g.HF t v):SR B g H (σ.set i (some v)) (i7 s i (.val t)):=
 ⟨x.st,x.lc.set r fun _ _ _ _ h=>h⟩
def G.jM (g:G) (l:Addr) (o:HO):G:={ g with HF:=upd g.HF l o,o:=fun b=>if b=l then none else g.o b }
theorem rL {p q:g8}{l:Addr}{o:HO}(hl:g.o l=some p) (hf:g.HF l=none) (hq:q≠p) {c:C}{v:V}(h:bB B g H q c v):bB B (g.jM l o) H q c v:=
 bB.mv (g':=g.jM l o) (bo hf) dC (fun b hb=>by
  have:b≠l:=fun e=>hq (by rw [e,hl] at hb;cases hb;rfl)
  exact ⟨by show (if b=l then none else g.o b)=_;rw [if_neg this];exact hb,rfl⟩) h
theorem w_ {p:g8}{l:Addr}{o:HO}(hl:g.o l=some p) (hf:g.HF l=none):dJ g H (g.jM l o) H:=
 ⟨bo hf,dC,fun b u h n z=>by
  have:b≠l:=fun e=>by rw [e,hl] at z;cases z
  exact ⟨h,by show upd g.HF l o b=none;rw [au this];exact n,by show (if b=l then none else g.o b)=none;rw [if_neg this];exact z⟩,fun _ h=>h⟩
theorem xf {i:Nat}{l:Addr}{o:HO}(x:fW B g H m) (hl:g.o l=some (.loc i)) (hh:H l=some o):fW B (g.jM l o) H m:=by
 have hf:=(x.live l _ hl).1
 refine x.mv (fun b u e=>?_) (fun b p e=>?_) (bo hf) rfl fun b p hb hp=>?_
 ·have e:upd g.HF l o b=some u:=e
  by_cases hb:b=l
  ·subst hb;rw [aq] at e;cases e;exact hh
  ·rw [au hb] at e;exact x.sub _ _ e
 ·have e:(if b=l then none else g.o b)=some p:=e
  by_cases hb:b=l
  ·rw [if_pos hb] at e;cases e
  ·rw [if_neg hb] at e
   obtain ⟨h1,h2⟩:=x.live b p e
   exact ⟨by show upd g.HF l o b=none;rw [au hb];exact h1,h2⟩
 ·have:b≠l:=fun e=>hp i (by rw [e,hl] at hb;cases hb;rfl)
  exact ⟨by show (if b=l then none else g.o b)=_;rw [if_neg this];exact hb,rfl⟩
theorem SR.jM (x:SR B g H σ s) {i:Nat}{ts:List T}(h:s.r[i]?=some (some (.ol ts))):∃ g' v,dJ g H g' H/\SR B g' H σ (i7 s i (.val (.lst ts)))/\σ[i]?=some (some v)/\Rep B g'.al g'.HF (.lst ts) v:=by
 obtain ⟨v,h1,l,vs,rfl,ho,hh,r⟩:=x.lc.at_ i _ h
 have hf:=(x.st.live l _ ho).1
 have rp:Rep B (g.jM l (.lst vs)).al (g.jM l (.lst vs)).HF (.lst ts) (.ref l):=⟨l,vs,rfl,aq,r.mv dC (bo hf)⟩
 refine ⟨g.jM l (.lst vs),.ref l,w_ ho hf,⟨xf x.st ho hh,?_⟩,h1,rp⟩
 have:=x.lc.set (i:=i) (v:=.ref l) (c:=.val (.lst ts)) rp fun j c v hj q=>rL (q:=.loc j) ho hf (fun z=>hj (by cases z;rfl)) q
 have es:σ.set i (some (.ref l))=σ:=by
  apply wz
  intro j
  by_cases hj:i=j
  ·subst hj
   rw [gB (cU.mp h1).1,h1]
  ·rw [iH hj]
 rw [es] at this
 exact this
theorem SR.adj (x:SR B g H σ s) {i:Nat}{ks:List Ky}{ts:List T}(h:s.r[i]?=some (some (.od ks ts))):∃ g' v,dJ g H g' H/\SR B g' H σ (i7 s i (.val (.dX ks ts)))/\σ[i]?=some (some v)/\Rep B g'.al g'.HF (.dX ks ts) v:=by
 obtain ⟨v,h1,l,vs,rfl,ho,hh,hl,r⟩:=x.lc.at_ i _ h
 have hf:=(x.st.live l _ ho).1
 have rp:Rep B (g.jM l (.dK ((ks.map lD).zip vs))).al (g.jM l (.dK ((ks.map lD).zip vs))).HF (.dX ks ts) (.ref l):=⟨l,vs,rfl,aq,hl,r.mv dC (bo hf)⟩
 refine ⟨g.jM l (.dK ((ks.map lD).zip vs)),.ref l,w_ ho hf,⟨xf x.st ho hh,?_⟩,h1,rp⟩
 have:=x.lc.set (i:=i) (v:=.ref l) (c:=.val (.dX ks ts)) rp fun j c v hj q=>rL (q:=.loc j) ho hf (fun z=>hj (by cases z;rfl)) q
 have es:σ.set i (some (.ref l))=σ:=by
  apply wz
  intro j
  by_cases hj:i=j
  ·subst hj
   rw [gB (cU.mp h1).1,h1]
  ·rw [iH hj]
 rw [es] at this
 exact this
def G.own (g:G) (l:Addr) (p:g8):G:={ g with o:=fun b=>if b=l then some p else g.o b }
theorem rM {p q:g8}{l:Addr}(hn:g.o l=none) {c:C}{v:V}(h:bB B g H q c v):bB B (g.own l p) H q c v:=
 bB.mv (g:=g) (g':=g.own l p) (aN.refl g.HF) dC (fun b hb=>by
  have:b≠l:=fun e=>by rw [e,hn] at hb;cases hb
  exact ⟨by show (if b=l then some p else g.o b)=_;rw [if_neg this];exact hb,rfl⟩) h
theorem xg {p:g8}{l:Addr}{u:HO}(x:fW B g H m) (hn:g.o l=none) (hf:g.HF l=none) (hh:H l=some u):fW B (g.own l p) H m:=by
 refine x.mv x.sub (fun b q e=>?_) (aN.refl _) rfl fun b q hb hp=>?_
 ·have e:(if b=l then some p else g.o b)=some q:=e
  by_cases hb:b=l
  ·subst hb;exact ⟨hf,u,hh⟩
  ·rw [if_neg hb] at e;exact x.live b q e
 ·have:b≠l:=fun e=>by rw [e,hn] at hb;cases hb
  exact ⟨by show (if b=l then some p else g.o b)=_;rw [if_neg this];exact hb,rfl⟩
theorem SR.own (x:SR B g H σ s) {i:Nat}{l:Addr}{ts:List T}{vs:List V}(hn:g.o l=none) (hf:g.HF l=none) (hh:H l=some (.lst vs)) (r:aC B g.al g.HF ts vs):SR B (g.own l (.loc i)) H (σ.set i (some (.ref l))) (i7 s i (.ol ts)):=
 ⟨xg x.st hn hf hh,x.lc.set (c:=.ol ts) ⟨l,vs,rfl,by show (if l=l then some (g8.loc i) else g.o l)=_;rw [if_pos rfl],hh,r⟩ fun j c v hj q=>rM hn q⟩
theorem SR.adk (x:SR B g H σ s) {i:Nat}{l:Addr}{ks:List Ky}{ts:List T}{vs:List V}(hn:g.o l=none) (hf:g.HF l=none) (hh:H l=some (.dK ((ks.map lD).zip vs))) (hk:ks.length=vs.length) (r:aC B g.al g.HF ts vs):SR B (g.own l (.loc i)) H (σ.set i (some (.ref l))) (i7 s i (.od ks ts)):=
 ⟨xg x.st hn hf hh,x.lc.set (c:=.od ks ts) ⟨l,vs,rfl,by show (if l=l then some (g8.loc i) else g.o l)=_;rw [if_pos rfl],hh,hk,r⟩ fun j c v hj q=>rM hn q⟩
theorem pF {l:Addr}{i:Nat}{u:HO}(x:fW B g H m) (ho:g.o l=some (.loc i)):fW B g (upd H l u) m:=by
 have hf:=(x.live l _ ho).1
 refine x.mv (fun b w e=>?_) (fun b q e=>?_) (aN.refl _) rfl fun b q hb hp=>?_
 ·have:b≠l:=fun z=>by rw [z,hf] at e;cases e
  rw [au this];exact x.sub _ _ e
 ·obtain ⟨h1,w,h2⟩:=x.live b q e
  by_cases hb:b=l
  ·exact ⟨h1,u,by rw [hb,aq]⟩
  ·exact ⟨h1,w,by rw [au hb];exact h2⟩
 ·have:b≠l:=fun e=>hp i (by rw [e,ho] at hb;cases hb;rfl)
  exact ⟨hb,by rw [au this]⟩
theorem jt {l:Addr}{p:g8}{u:HO}(ho:g.o l=some p):dJ g H g (upd H l u):=
 ⟨aN.refl _,dC,fun b w h n z=>by
  have:b≠l:=fun e=>by rw [e,ho] at z;cases z
  exact ⟨by rw [au this];exact h,n,z⟩,fun b h=>by
  by_cases hb:b=l
  ·subst hb;rw [aq] at h;cases h
  ·rw [au hb] at h;exact h⟩
theorem SR.chg (x:SR B g H σ s) {i:Nat}{ts xh:List T}{l:Addr}{eA:List V}(h:s.r[i]?=some (some (.ol ts))) (hσ:σ[i]?=some (some (.ref l))) (r:aC B g.al g.HF xh eA):SR B g (upd H l (.lst eA)) σ (i7 s i (.ol xh))/\dJ g H g (upd H l (.lst eA)):=by
 obtain ⟨v,h1,l',vs,rfl,ho,hh,r0⟩:=x.lc.at_ i _ h
 rw [hσ] at h1;cases h1
 refine ⟨⟨pF x.st ho,?_⟩,jt ho⟩
 have:=x.lc.set (g':=g) (H':=upd H l (.lst eA)) (i:=i) (v:=.ref l) (c:=.ol xh) ⟨l,eA,rfl,ho,aq,r⟩ fun j c v hj q=>q.mv (aN.refl _) dC fun b hb=>by
  have:b≠l:=fun e=>hj (by rw [e,ho] at hb;cases hb;rfl)
  exact ⟨hb,au this⟩
 have es:σ.set i (some (.ref l))=σ:=by
  apply wz
  intro j
  by_cases hj:i=j
  ·subst hj
   rw [gB (cU.mp hσ).1,hσ]
  ·rw [iH hj]
 rw [es] at this
 exact this
theorem SR.adl (x:SR B g H σ s) {i:Nat}{ks Uk:List Ky}{ts xh:List T}{l:Addr}{eA:List V}(h:s.r[i]?=some (some (.od ks ts))) (hσ:σ[i]?=some (some (.ref l))) (hk:Uk.length=eA.length) (r:aC B g.al g.HF xh eA):SR B g (upd H l (.dK ((Uk.map lD).zip eA))) σ (i7 s i (.od Uk xh))/\dJ g H g (upd H l (.dK ((Uk.map lD).zip eA))):=by
 obtain ⟨v,h1,l',vs,rfl,ho,hh,Ul,r0⟩:=x.lc.at_ i _ h
 rw [hσ] at h1;cases h1
 refine ⟨⟨pF x.st ho,?_⟩,jt ho⟩
 have:=x.lc.set (g':=g) (H':=upd H l (.dK ((Uk.map lD).zip eA))) (i:=i) (v:=.ref l) (c:=.od Uk xh) ⟨l,eA,rfl,ho,aq,hk,r⟩ fun j c v hj q=>q.mv (aN.refl _) dC fun b hb=>by
  have:b≠l:=fun e=>hj (by rw [e,ho] at hb;cases hb;rfl)
  exact ⟨hb,au this⟩
 have es:σ.set i (some (.ref l))=σ:=by
  apply wz
  intro j
  by_cases hj:i=j
  ·subst hj
   rw [gB (cU.mp hσ).1,hσ]
  ·rw [iH hj]
 rw [es] at this
 exact this
def ZH:Option g8->Option g8
 | some (.loc _)=>none
 | x=>x
def G.aj (g:G):G:={ g with o:=fun b=>ZH (g.o b) }
theorem Al {q:Option g8}{p:g8}:ZH q=some p ↔ q=some p/\∀ i,p≠.loc i:=by
 cases q with
 | none=>exact ⟨fun h=>(by cases h),fun h=>(by cases h.1)⟩
 | some q=>
  cases q with
  | loc i=>exact ⟨fun h=>(by cases h),fun h=>(by obtain ⟨h,n⟩:=h;cases h;exact absurd rfl (n i))⟩
  | ob k=>exact ⟨fun h=>(by cases h;exact ⟨rfl,fun i z=>(by cases z)⟩),fun h=>h.1⟩
  | fld k j=>exact ⟨fun h=>(by cases h;exact ⟨rfl,fun i z=>(by cases z)⟩),fun h=>h.1⟩
theorem ju {b:Addr}{p:g8}:g.aj.o b=some p ↔ g.o b=some p/\∀ i,p≠.loc i:=Al
theorem fW.aj (x:fW B g H m):fW B g.aj H m:=
 x.mv x.sub (fun b p e=>x.live b p (ju.mp e).1) (aN.refl _) rfl fun l p h n=>⟨ju.mpr ⟨h,n⟩,rfl⟩
def bkP:Option g8->Option g8->Option g8
 | some (.loc i),_=>some (.loc i)
 | _,y=>y
def G.back (g g':G):G:={ g' with o:=fun b=>bkP (g.o b) (g'.o b) }
theorem Dz {b:Addr}{i:Nat}(h:g.o b=some (.loc i)):(G.back g g').o b=some (.loc i):=by
 show bkP (g.o b) (g'.o b)=_
 rw [h];rfl
theorem lF {b:Addr}(h:∀ i,g.o b≠some (.loc i)):(G.back g g').o b=g'.o b:=by
 show bkP (g.o b) (g'.o b)=_
 cases q:g.o b with
 | none=>rfl
 | some p=>cases p with
  | loc i=>exact absurd q (h i)
  | ob k=>rfl
  | fld k j=>rfl
theorem SR.back (x:SR B g H σ s) {m':List Ob}(p:dJ g.aj H g' H') (y:fW B g' H' m'):dJ g H (G.back g g') H'/\SR B (G.back g g') H' σ { s with m:=m' }:=by
 have keep:∀ l i,g.o l=some (.loc i)->H' l=H l/\g'.HF l=none/\g'.o l=none:=fun l i e=>by
  obtain ⟨h1,u,h2⟩:=x.st.live l _ e
  have h3:g.aj.o l=none:=by
   cases q:g.aj.o l with
   | none=>rfl
   | some p=>obtain ⟨a,b⟩:=ju.mp q;rw [e] at a;cases a;exact absurd rfl (b i)
  obtain ⟨h4,h5,h6⟩:=p.rest l u h2 h1 h3
  exact ⟨h4.trans h2.symm,h5,h6⟩
 have adm:∀ l q,g'.o l=some q->∀ i,g.o l≠some (.loc i):=fun l q e i z=>by rw [(keep l i z).2.2] at e;cases e
 refine ⟨⟨p.fr,p.pre,fun b u h n z=>?_,p.there⟩,⟨⟨y.sub,fun b q e=>?_,y.len,fun k ob e=>?_⟩,x.lc.len,fun i c e=>?_⟩⟩
 ·have h3:g.aj.o b=none:=by
   cases q:g.aj.o b with
   | none=>rfl
   | some p=>rw [(ju.mp q).1] at z;cases z
  obtain ⟨h4,h5,h6⟩:=p.rest b u h n h3
  exact ⟨h4,h5,(lF fun i w=>by rw [z] at w;cases w).trans h6⟩
 ·by_cases hl:∃ i,g.o b=some (.loc i)
  ·obtain ⟨i,hl⟩:=hl
   obtain ⟨h1,u,h2⟩:=x.st.live b _ hl
   obtain ⟨h4,h5,_⟩:=keep b i hl
   exact ⟨h5,u,h4.trans h2⟩
  ·rw [lF fun i w=>hl ⟨i,w⟩] at e
   exact y.live b q e
 ·exact (y.at_ k ob e).mv (aN.refl _) dC fun l q h _=>⟨(lF (adm l q h)).trans h,rfl⟩
 ·obtain ⟨v,h1,h2⟩:=x.lc.at_ i c e
  exact ⟨v,h1,bB.mv (g:=g) (g':=G.back g g') p.fr p.pre (fun l o=>⟨Dz o,(keep l i o).1⟩) h2⟩
variable {es:List Expr}{fl:FL}{ft fu:FT}
abbrev KTb:=List Str × List (List Str)
def _root_.L2.Cx.kt (X:Cx) (t:KTb):KT:=⟨X.K,X.prog,X.w,t.1,t.2⟩
def tE (B:KT) (f:FE):TE:=fun σ H Q=>∃ g s t s',SR B g H σ s/\f s=.ok (t,s')/\∀ v g' H',dJ g H g' H'->SR B g' H' σ s'->Rep B g'.al g'.HF t v->Q v H'
def tA (B:KT) (f:FL):TA:=fun σ H Q=>∃ g s ts s',SR B g H σ s/\f s=.ok (ts,s')/\∀ vs g' H',dJ g H g' H'->SR B g' H' σ s'->aC B g'.al g'.HF ts vs->Q vs H'
def tT (B:KT) (f:FT):TT:=fun σ H Q=>∃ g s k s',SR B g H σ s/\f s=.ok (k,s')/\∀ g' H',dJ g H g' H'->SR B g' H' σ s'->Q k H'
def tP (B:KT) (f:FO):TO:=fun σ H Q=>∃ g s k s',SR B g H σ s/\f s=.ok (k,s')/\∀ g' H',dJ g H g' H'->SR B g' H' σ s'->Q k H'
def tO (B:KT) (f:FL):TE:=fun σ H Q=>∃ g s ts s',SR B g H σ s/\f s=.ok (ts,s')/\∀ l vs g' H',dJ g H g' H'->SR B g' H' σ s'->H l=none->g'.HF l=none->g'.o l=none->H' l=some (.lst vs)->aC B g'.al g'.HF ts vs->Q (.ref l) H'
theorem bf {t t':TE}(h:PE X e t) (i:∀ σ H Q,t' σ H Q->t σ H Q):PE X e t':=fun aa s σ H Q I q=>h aa s σ H Q I (i σ H Q q)
theorem DA {t t':TT}(h:PT X e t) (i:∀ σ H Q,t' σ H Q->t σ H Q):PT X e t':=fun aa s σ H Q I q=>h aa s σ H Q I (i σ H Q q)
theorem M5 {t t':TT}(h:PW X e t) (i:∀ σ H Q,t' σ H Q->t σ H Q):PW X e t':=fun wh aa s σ H Q I q=>h wh aa s σ H Q I (i σ H Q q)
theorem M6 {es:List Expr}{t t':TA}(h:PA X es t) (i:∀ σ H Q,t' σ H Q->t σ H Q):PA X es t':=fun po aa s σ H Q I q=>h po aa s σ H Q I (i σ H Q q)
theorem cD {st:Stmt}{t t':TS}(h:PS X st t) (i:∀ D σ H,t' D σ H->t D σ H):PS X st t':=fun aa s σ H D I q=>h aa s σ H D I (i D σ H q)
theorem DB {st:List Stmt}{t t':TS}(h:jb X st t) (i:∀ D σ H,t' D σ H->t D σ H):jb X st t':=fun aa s σ H D I q=>h aa s σ H D I (i D σ H q)
theorem M7 {e:Option Expr}{t t':TO}(h:PO X e t) (i:∀ σ H Q,t' σ H Q->t σ H Q):PO X e t':=fun aa s σ H Q I q=>h aa s σ H Q I (i σ H Q q)
theorem rN {tg:Expr}{t t':TI}(h:PI X tg e t) (i:∀ σ H Rh,t' σ H Rh->t σ H Rh):PI X tg e t':=fun aa s σ H Rh I q=>h aa s σ H Rh I (i σ H Rh q)
theorem aX:PE X e (tE B bF):=fun _ _ _ _ _ _ ⟨_,_,_,_,_,h,_⟩=>by cases h
theorem iQ:PT X e (tT B mT):=fun _ _ _ _ _ _ ⟨_,_,_,_,_,h,_⟩=>by cases h
theorem g9:PE X e (tO B iB):=fun _ _ _ _ _ _ ⟨_,_,_,_,_,h,_⟩=>by cases h
theorem jv {t:T}{v:V}(h:PE X e (tC v)) (r:∀ al H,Rep B al H t v):PE X e (tE B (cF t)):=bf h fun σ H Q z=>by
 obtain ⟨g,s,t',s',x,h,k⟩:=z
 cases h
 exact k v g H .refl x (r _ _)
theorem DC {i:Nat}{x:Str}(hN:X.N[i]?=some x) (hv:t_ X.env.scope x) (hd:bQ x) (kE:iM x):PE X (.Name x pos) (tE B (vF i)):=by
 refine bf (dq hN hv hd kE) fun σ H Q zz=>?_
 obtain ⟨g,s,t,s',x,h,k⟩:=zz
 unfold vF at h
 split at h
 ·rename_i t' hr
  cases h
  obtain ⟨v,h1,h2⟩:=x.lc.at_ i _ hr
  exact ⟨v,h1,k v g H .refl x h2⟩
 ·rename_i ts hr
  cases h
  obtain ⟨g',v,p,y,h1,r⟩:=x.jM hr
  exact ⟨v,h1,k v g' H p y r⟩
 ·rename_i ks ts hr
  cases h
  obtain ⟨g',v,p,y,h1,r⟩:=x.adj hr
  exact ⟨v,h1,k v g' H p y r⟩
 ·cases h
def L1 (X:Cx) (f:T->Option T) (r:V->Hp->VK->Prop):Prop:=∀ (B:KT) (_:B.K=X.K) (al:List Addr) (HF H:Hp) (x:V) (t tx:T) (Q:VK),aN HF H->Rep B al HF tx x->f tx=some t->(∀ v eM H',Gr HF H eM H'->Rep B al eM t v->Q v H')->r x H Q
def nK (X:Cx) (f:T->T->Option T) (r:R2):Prop:=∀ (B:KT) (_:B.K=X.K) (al:List Addr) (HF H:Hp) (x y:V) (t tx ty:T) (Q:VK),aN HF H->Rep B al HF tx x->Rep B al HF ty y->f tx ty=some t->(∀ v eM H',Gr HF H eM H'->Rep B al eM t v->Q v H')->r x y H Q
def LN (X:Cx) (f:List T->Option T) (r:List V->Hp->VK->Prop):Prop:=∀ (B:KT) (_:B.K=X.K) (al:List Addr) (HF H:Hp) (xs:List V) (t:T) (ts:List T) (Q:VK),aN HF H->aC B al HF ts xs->f ts=some t->(∀ v eM H',Gr HF H eM H'->Rep B al eM t v->Q v H')->r xs H Q
theorem DE {f:T->Option T}{r:V->Hp->VK->Prop}(hB:B.K=X.K) (hr:L1 X f r):∀ σ H Q,tE B (bG f fa) σ H Q->tUn r (tE B fa) σ H Q:=by
 rintro σ H Q ⟨g,s,t,s',x,h,k⟩
 obtain ⟨⟨tx,s1⟩,h1,h⟩:=af h
 obtain ⟨t',h2,h⟩:=af h
 cases h
 exact ⟨g,s,tx,s1,x,h1,fun v g1 H1 p1 x1 r1=>hr B hB g1.al g1.HF H1 v _ tx Q x1.sub r1 (az h2) fun u eM H' gr r2=>k u (g1.grow eM) H' (p1.trans (x1.mW gr)) (x1.grow gr) r2⟩
theorem g_ {f:T->T->Option T}{r:R2}(hB:B.K=X.K) (hr:nK X f r):∀ σ H Q,tE B (a_ f fa fb) σ H Q->F9 r (tE B fa) (tE B fb) σ H Q:=by
 rintro σ H Q ⟨g,s,t,s',x,h,k⟩
 obtain ⟨⟨tx,s1⟩,h1,h⟩:=af h
 obtain ⟨⟨ty,s2⟩,h2,h⟩:=af h
 obtain ⟨t',h3,h⟩:=af h
 cases h
 exact ⟨g,s,tx,s1,x,h1,fun v g1 H1 p1 x1 r1=>⟨g1,s1,ty,s2,x1,h2,fun w g2 H2 p2 x2 r2=>
  hr B hB g2.al g2.HF H2 v w _ tx ty Q x2.sub (r1.mv p2.pre p2.fr) r2 (az h3) fun u eM H' gr r3=>k u (g2.grow eM) H' ((p1.trans p2).trans (x2.mW gr)) (x2.grow gr) r3⟩⟩
theorem M8 {f:List T->Option T}{r:List V->Hp->VK->Prop}(hB:B.K=X.K) (hr:LN X f r):∀ σ H Q,tE B (aK f fl) σ H Q->tCB r (tA B fl) σ H Q:=by
 rintro σ H Q ⟨g,s,t,s',x,h,k⟩
 obtain ⟨⟨ts,s1⟩,h1,h⟩:=af h
 obtain ⟨t',h2,h⟩:=af h
 cases h
 exact ⟨g,s,ts,s1,x,h1,fun vs g1 H1 p1 x1 r1=>hr B hB g1.al g1.HF H1 vs _ ts Q x1.sub r1 (az h2) fun u eM H' gr r2=>k u (g1.grow eM) H' (p1.trans (x1.mW gr)) (x1.grow gr) r2⟩
theorem vI:PA X [] (tA B b_):=M6 eu fun σ H Q z=>by
 obtain ⟨g,s,t,s',x,h,k⟩:=z
 cases h
 exact k [] g H .refl x rfl
theorem pG (ha:PE X e (tE B fa)) (hr:PA X es (tA B fl)) (hs:starEach (e::es) X.env=(false,eval e X.env)::starEach es X.env):PA X (e::es) (tA B (dY fa fl)):=M6 (bZ ha hr hs) fun σ H Q z=>by
 obtain ⟨g,s,t,s',x,h,k⟩:=z
 obtain ⟨⟨tx,s1⟩,h1,h⟩:=af h
 obtain ⟨⟨ty,s2⟩,h2,h⟩:=af h
 cases h
 exact ⟨g,s,tx,s1,x,h1,fun v g1 H1 p1 x1 r1=>⟨g1,s1,ty,s2,x1,h2,fun w g2 H2 p2 x2 r2=>k (v::w) g2 H2 (p1.trans p2) x2 ⟨v,w,rfl,r1.mv p2.pre p2.fr,r2⟩⟩⟩
theorem vJ {n:Nat}(h:n<=1000):n<=sizeLine:=by rw [sizeLine_eq];omega
theorem ZI {x1}(h:PA X es (tA B fl)):PE X (.Tuple es x1 pos) (tE B (aK aL fl)):=bf (Cf h) fun σ H Q z=>by
 obtain ⟨g,s,t,s',x,h,k⟩:=z
 obtain ⟨⟨ts,s1⟩,h1,h⟩:=af h
 obtain ⟨t',h2,h⟩:=af h
 cases h
 obtain ⟨z,rfl⟩:=bI (az h2)
 refine ⟨g,s,ts,s1,x,h1,fun vs g1 H1 p1 x1 r1=>⟨vJ (by rw [<- r1.len];exact z),fun q hq=>?_⟩⟩
 have gr:=Gr.new (o:=.tup vs) x1.sub hq
 exact k _ _ _ (p1.trans (x1.mW gr)) (x1.grow gr) ⟨q,vs,rfl,.inl (.inl aq),r1.same gr.fr⟩
theorem ZJ (h:PA X es (tA B fl)):PE X (.List es pos) (tE B (aK eU fl)):=bf (Cg h) fun σ H Q z=>by
 obtain ⟨g,s,t,s',x,h,k⟩:=z
 obtain ⟨⟨ts,s1⟩,h1,h⟩:=af h
 obtain ⟨t',h2,h⟩:=af h
 cases h
 obtain ⟨z,rfl⟩:=bI (az h2)
 refine ⟨g,s,ts,s1,x,h1,fun vs g1 H1 p1 x1 r1=>⟨vJ (by rw [<- r1.len];exact z),fun q hq=>?_⟩⟩
 have gr:=Gr.new (o:=.lst vs) x1.sub hq
 exact k _ _ _ (p1.trans (x1.mW gr)) (x1.grow gr) ⟨q,vs,rfl,aq,r1.same gr.fr⟩
def jT (fl:FL):FL:=fun s=>(fl s).bind fun p=>if p.1.length<=1000 then .ok p else .bad
theorem Dy {l:Addr}{u:HO}(x:SR B g H σ s) (h:H l=none):Gr g.HF H g.HF (upd H l u)/\g.HF l=none/\g.o l=none:=by
 refine ⟨.Dy x.sub h,x.sub.free h,?_⟩
 cases q:g.o l with
 | none=>rfl
 | some p=>obtain ⟨_,u,z⟩:=x.st.live l p q;rw [h] at z;cases z
theorem RQ (h:PA X es (tA B fl)):PE X (.List es pos) (tO B (jT fl)):=bf (Cg h) fun σ H Q z=>by
 obtain ⟨g,s,t,s',x,h,k⟩:=z
 obtain ⟨⟨ts,s1⟩,h1,h⟩:=af h
 dsimp only at h
 split at h
 ·rename_i z
  cases h
  refine ⟨g,s,_,_,x,h1,fun vs g1 H1 p1 x1 r1=>⟨vJ (by rw [<- r1.len];exact z),fun q hq=>?_⟩⟩
  obtain ⟨gr,n1,n2⟩:=Dy (u:=.lst vs) x1 hq
  exact k q vs _ _ (p1.trans (x1.mW gr)) (x1.grow gr) (p1.there q hq) n1 n2 aq r1
 ·cases h
theorem SR.DF {l:Addr}{u:HO}(x:SR B g H σ s) (hf:g.HF l=none) (ho:g.o l=none) (hh:H l=some u):SR B (g.grow (upd g.HF l u)) H σ s:=by
 have sl:∀ p c v,bB B g H p c v->bB B (g.grow (upd g.HF l u)) H p c v:=fun p c v h=>bB.mv (g:=g) (g':=g.grow (upd g.HF l u)) (bo hf) dC (fun _ q=>⟨q,rfl⟩) h
 refine ⟨x.st.mv (fun b w e=>?_) (fun b p e=>?_) (bo hf) rfl fun _ _ q _=>⟨q,rfl⟩,x.lc.len,fun i c e=>let ⟨v,h1,h2⟩:=x.lc.at_ i c e;⟨v,h1,sl _ _ _ h2⟩⟩
 ·have e:upd g.HF l u b=some w:=e
  by_cases hb:b=l
  ·subst hb;rw [aq] at e;cases e;exact hh
  ·rw [au hb] at e;exact x.sub _ _ e
 ·obtain ⟨h1,h2⟩:=x.st.live b p e
  have:b≠l:=fun z=>by subst z;rw [show g.o b=some p from e] at ho;cases ho
  exact ⟨by show upd g.HF l u b=none;rw [au this];exact h1,h2⟩
theorem dJ.DF {g1:G}{H1:Hp}{l:Addr}{u:HO}(p:dJ g H g1 H1) (h0:H l=none) (hf:g1.HF l=none):dJ g H (g1.grow (upd g1.HF l u)) H1:=
 ⟨p.fr.trans (bo hf),p.pre,fun b w h n z=>by
  obtain ⟨a,b',c⟩:=p.rest b w h n z
  have:b≠l:=aO h h0
  exact ⟨a,by show upd g1.HF l u b=none;rw [au this];exact b',c⟩,p.there⟩
theorem DG (h:PE X e (tO B fl)):PE X e (tE B (bP fl)):=bf h fun σ H Q z=>by
 obtain ⟨g,s,t,s',x,h,k⟩:=z
 obtain ⟨⟨ts,s1⟩,h1,h⟩:=af h
 cases h
 refine ⟨g,s,_,_,x,h1,fun l vs g1 H1 p1 x1 h0 n1 n2 hl r1=>?_⟩
 exact k _ _ H1 (p1.DF h0 n1) (x1.DF n1 n2 hl) ⟨l,vs,rfl,aq,r1.same (bo n1)⟩
theorem RS (ha:PT X a (tT B ft)):PW X (.BoolOp .And [a] pos) (tT B ft):=GJ ha
theorem ZK (ha:PT X a (tT B ft)):PW X (.BoolOp .Or [a] pos) (tT B ft):=Oa ha
theorem ZL {rest:List Expr}(ha:PT X a (tT B ft)) (hb:PW X (.BoolOp .And (b::rest) pos) (tT B fu)):PW X (.BoolOp .And (a::b::rest) pos) (tT B (dw ft fu)):=M5 (Oc ha hb) fun σ H Q z=>by
 obtain ⟨g,s,t,s',x,h,k⟩:=z
 obtain ⟨⟨d,s1⟩,h1,h⟩:=af h
 refine ⟨g,s,d,s1,x,h1,fun g1 H1 p1 x1=>?_⟩
 cases d with
 | true=>exact qP ⟨g1,s1,_,_,x1,h,fun g2 H2 p2 x2=>k g2 H2 (p1.trans p2) x2⟩
 | false=>cases h;exact qO (k g1 H1 p1 x1)
theorem adn {rest:List Expr}(ha:PT X a (tT B ft)) (hb:PW X (.BoolOp .Or (b::rest) pos) (tT B fu)):PW X (.BoolOp .Or (a::b::rest) pos) (tT B (gz ft fu)):=M5 (UH ha hb) fun σ H Q z=>by
 obtain ⟨g,s,t,s',x,h,k⟩:=z
 obtain ⟨⟨d,s1⟩,h1,h⟩:=af h
 refine ⟨g,s,d,s1,x,h1,fun g1 H1 p1 x1=>?_⟩
 cases d with
 | true=>cases h;exact qP (k g1 H1 p1 x1)
 | false=>exact qO ⟨g1,s1,_,_,x1,h,fun g2 H2 p2 x2=>k g2 H2 (p1.trans p2) x2⟩
theorem ZM (ha:PT X a (tT B ft)):PT X (.UnaryOp .Not a pos) (tT B (bz ft)):=DA (Od ha) fun σ H Q z=>by
 obtain ⟨g,s,t,s',x,h,k⟩:=z
 obtain ⟨⟨d,s1⟩,h1,h⟩:=af h
 cases h
 exact ⟨g,s,d,s1,x,h1,fun g1 H1 p1 x1=>k g1 H1 p1 x1⟩
theorem kT {t:T}{k:Bool}(h:RL t=some k):t=.bl k:=by
 cases t<;>first | (cases h;done) | (cases h;rfl)
theorem DH {op}(ha:PE X a (tE B fa)):PE X (.BoolOp op [a] pos) (tE B fa):=Oe ha
theorem RT {rest:List Expr}(ha:PE X a (tE B fa)) (hb:PE X (.BoolOp .And (b::rest) pos) (tE B fb)):PE X (.BoolOp .And (a::b::rest) pos) (tE B (dI fa fb)):=bf (Of ha hb) fun σ H Q z=>by
 obtain ⟨g,s,t,s',x,h,k⟩:=z
 obtain ⟨⟨d,s1⟩,h1,h⟩:=af h
 obtain ⟨d',h2,h⟩:=af h
 cases kT (az h2)
 refine ⟨g,s,_,s1,x,h1,fun v g1 H1 p1 x1 r1=>⟨d',r1,?_⟩⟩
 cases d' with
 | true=>exact qP ⟨g1,s1,_,_,x1,h,fun w g2 H2 p2 x2 r2=>k w g2 H2 (p1.trans p2) x2 r2⟩
 | false=>cases h;exact qO (k _ g1 H1 p1 x1 rfl)
theorem ZN {rest:List Expr}(ha:PE X a (tE B fa)) (hb:PE X (.BoolOp .Or (b::rest) pos) (tE B fb)):PE X (.BoolOp .Or (a::b::rest) pos) (tE B (orV fa fb)):=bf (UK ha hb) fun σ H Q z=>by
 obtain ⟨g,s,t,s',x,h,k⟩:=z
 obtain ⟨⟨d,s1⟩,h1,h⟩:=af h
 obtain ⟨d',h2,h⟩:=af h
 cases kT (az h2)
 refine ⟨g,s,_,s1,x,h1,fun v g1 H1 p1 x1 r1=>⟨d',r1,?_⟩⟩
 cases d' with
 | true=>cases h;exact qP (k _ g1 H1 p1 x1 rfl)
 | false=>exact qO ⟨g1,s1,_,_,x1,h,fun w g2 H2 p2 x2 r2=>k w g2 H2 (p1.trans p2) x2 r2⟩
theorem RU (ha:PE X a (tE B fa)):PE X (.UnaryOp .Not a pos) (tE B (rH fa)):=bf (Og ha) fun σ H Q z=>by
 obtain ⟨g,s,t,s',x,h,k⟩:=z
 obtain ⟨⟨d,s1⟩,h1,h⟩:=af h
 obtain ⟨d',h2,h⟩:=af h
 cases kT (az h2)
 cases h
 exact ⟨g,s,_,s1,x,h1,fun v g1 H1 p1 x1 r1=>⟨d',r1,k _ g1 H1 p1 x1 rfl⟩⟩
theorem ZO (hc:PT X c (tT B ft)) (ha:PE X a (tE B fa)) (hb:PE X b (tE B fb)):PE X (.IfExp c a b pos) (tE B (qu ft fa fb)):=bf (BZ hc ha hb) fun σ H Q z=>by
 obtain ⟨g,s,t,s',x,h,k⟩:=z
 obtain ⟨⟨d,s1⟩,h1,h⟩:=af h
 refine ⟨g,s,d,s1,x,h1,fun g1 H1 p1 x1=>?_⟩
 cases d with
 | true=>exact qP ⟨g1,s1,_,_,x1,h,fun w g2 H2 p2 x2 r2=>k w g2 H2 (p1.trans p2) x2 r2⟩
 | false=>exact qO ⟨g1,s1,_,_,x1,h,fun w g2 H2 p2 x2 r2=>k w g2 H2 (p1.trans p2) x2 r2⟩
theorem DI {al:List Addr}{HF:Hp}{t:T}{k:Bool}{v:V}(h:Jv t=some k) (sm:aN HF H) (r:Rep B al HF t v):OF B.K v H k:=by
 cases t<;>first | (cases h;done) | skip
 ·cases h;cases r;rfl
 ·cases h
  obtain ⟨a,vs,rfl,q,rr⟩:=r
  refine .inl ⟨vs,du.of (sm _ _ q),?_⟩
  have:=rr.len
  rename_i xs
  cases xs<;>cases vs<;>first | rfl | (cases this)
theorem M9 (ha:PE X a (tE B fa)) (hB:B.K=X.K) (he:∀ gx,isTrue a X.env gx=(do let v <- gx;standAt a.pos;holding [v] (truthy v))):PT X a (tT B (tB fa)):=DA (B_ ha he) fun σ H Q z=>by
 obtain ⟨g,s,t,s',x,h,k⟩:=z
 obtain ⟨⟨d,s1⟩,h1,h⟩:=af h
 obtain ⟨d',h2,h⟩:=af h
 cases h
 exact ⟨g,s,_,s1,x,h1,fun v g1 H1 p1 x1 r1=>⟨_,hB ▸ DI (az h2) x1.sub r1,k g1 H1 p1 x1⟩⟩
section
theorem fh (l:List Nat):(⟨l.toArray⟩:Str).length=l.length:=by show l.toArray.size=_;simp
theorem szS {l:List Nat}(h:l.length<=1000000):(⟨l.toArray⟩:Str).length<=sizeLine:=by rw [fh,sizeLine_eq];omega
theorem RV (a b:List Nat):(⟨a.toArray⟩:Str)++⟨b.toArray⟩=⟨(a++b).toArray⟩:=by
 show (⟨a.toArray++b.toArray⟩:Str)=_
 simp
def M_:R2:=fun x y H Q=>AW (fun i j=>.int (i+j)) x y H Q\/(∃ i j,x=.str i/\y=.str j/\i.length+j.length<=sizeLine/\Q (.str (i++j)) H)\/Vp x y H Q
theorem Jz:fj X (binaryOp .Add) M_:=Oz.or (uv.or OP)
theorem ZP:nK X Zv M_:=fun B hB al HF H x y t tx ty Q sm rx ry h k=>by
 cases tx<;>first | (cases h;done) | (cases ty<;>first | (cases h;done) | skip)
 ·cases h;exact .inl ⟨_,_,rx,ry,k _ HF H (.refl sm) rfl⟩
 ·obtain ⟨c,rfl⟩:=bI h
  obtain ⟨rfl,_⟩:=rx
  obtain ⟨rfl,_⟩:=ry
  refine .inr (.inl ⟨_,_,rfl,rfl,?_,?_⟩)
  ·rw [fh,fh,sizeLine_eq];omega
  ·rw [RV]
   exact k _ HF H (.refl sm) ⟨rfl,by rw [bJ];omega⟩
 ·obtain ⟨c,rfl⟩:=bI h
  obtain ⟨l,xs,rfl,q,r⟩:=rx
  obtain ⟨m,ys,rfl,q',r'⟩:=ry
  refine .inr (.inr ⟨l,m,xs,ys,rfl,rfl,sm _ _ q,sm _ _ q',by rw [<- r.len,<- r'.len,sizeLine_eq];omega,fun p hp=>?_⟩)
  have gr:=Gr.new (o:=.lst (xs++ys)) sm hp
  exact k _ _ _ gr ⟨p,_,rfl,aq,(r.app r').same gr.fr⟩
theorem ZQ {f:T->T->Option T}{gg:Int->Int->V}{G:Int->Int->T}(hf:∀ tx ty t,f tx ty=some t->∃ i j,tx=.int i/\ty=.int j/\t=G i j) (hg:∀ B al i j H,Rep B al H (G i j) (gg i j)):nK X f (AW gg):=fun B hB al HF H x y t tx ty Q sm rx ry h k=>by
 obtain ⟨i,j,rfl,rfl,rfl⟩:=hf _ _ _ h
 exact ⟨i,j,rx,ry,k _ HF H (.refl sm) (hg B al i j HF)⟩
theorem DJ {f:T->T->Option T}{gg:Int->Int->V}{G:Int->Int->T}{C:Int->Int->Prop}(hf:∀ tx ty t,f tx ty=some t->∃ i j,tx=.int i/\ty=.int j/\t=G i j/\C i j) (hg:∀ B al i j H,Rep B al H (G i j) (gg i j)):nK X f (rI C gg):=fun B hB al HF H x y t tx ty Q sm rx ry h k=>by
 obtain ⟨i,j,rfl,rfl,rfl,c⟩:=hf _ _ _ h
 exact ⟨i,j,rx,ry,c,k _ HF H (.refl sm) (hg B al i j HF)⟩
theorem ZR:nK X Zw (AW fun i j=>.int (i-j)):=ZQ (G:=fun i j=>.int (i-j)) (fun tx ty t h=>by
 cases tx<;>first | (cases h;done) | (cases ty<;>first | (cases h;done) | (cases h;exact ⟨_,_,rfl,rfl,rfl⟩))) fun _ _ _ _ _=>rfl
theorem ZS:nK X Zy (rI U1 fun i j=>.int (i/j)):=DJ (G:=fun i j=>.int (i/j)) (fun tx ty t h=>by
 cases tx<;>first | (cases h;done) | (cases ty<;>first | (cases h;done) | (obtain ⟨c,rfl⟩:=bI h;exact ⟨_,_,rfl,rfl,rfl,c⟩))) fun _ _ _ _ _=>rfl
theorem ZT:nK X Zz (rI (fun _ j=>0<j) fun i j=>.int (i % j)):=DJ (G:=fun i j=>.int (i % j)) (fun tx ty t h=>by
 cases tx<;>first | (cases h;done) | (cases ty<;>first | (cases h;done) | (obtain ⟨c,rfl⟩:=bI h;exact ⟨_,_,rfl,rfl,rfl,c⟩))) fun _ _ _ _ _=>rfl
theorem ZU:nK X ZA (rI U3 fun i j=>.int (i ^ j.toNat)):=DJ (G:=fun i j=>.int (i ^ j.toNat)) (fun tx ty t h=>by
 cases tx<;>first | (cases h;done) | (cases ty<;>first | (cases h;done) | (obtain ⟨c,rfl⟩:=bI h;exact ⟨_,_,rfl,rfl,rfl,c⟩))) fun _ _ _ _ _=>rfl
def xj (i j:Int):Prop:=Ox i j\/(i.natAbs.log2<2000000/\j.natAbs.log2<2000000)
theorem nL {i:Int}(h:i.natAbs.log2<2000000):Builtin.Int.intBits i<=2000000:=by
 unfold Builtin.Int.intBits
 split
 ·omega
 ·omega
theorem xj.ok {i j:Int}(h:xj i j):IntMulOk i j:=by
 rcases h with h | ⟨h1,h2⟩
 ·exact h.ok
 ·have a:=nL h1
  have b:=nL h2
  intro q
  rw [c6] at q
  have c:=of_decide_eq_true (show decide (((Builtin.Int.intBits i:Nat):Int)+(Builtin.Int.intBits j:Nat) > (bitsLine:Nat))=true from q.2)
  have d:(bitsLine:Nat)=134217728:=rfl
  omega
theorem JA:fj X (binaryOp .Mult) (rI xj fun i j=>.int (i*j)):=opI fun _ _ _ _ _ _ _ hc q=>PyProof.Rows.mul_int q hc.ok
def Na:R2:=fun x y H Q=>rI xj (fun i j=>.int (i*j)) x y H Q\/Vr x y H Q
theorem JB:fj X (binaryOp .Mult) Na:=JA.or OQ
def Nb:T->T->Option T
 | .int i,.int j=>Zx (.int i) (.int j)
 | .lst a,.int k=>Zx (.lst a) (.int k)
 | _,_=>none
theorem ZV:nK X Nb Na:=fun B hB al HF H x y t tx ty Q sm rx ry h k=>by
 cases tx<;>first | (cases h;done) | (cases ty<;>first | (cases h;done) | skip)
 ·obtain ⟨c,rfl⟩:=bI h
  exact .inl ⟨_,_,rx,ry,c,k _ HF H (.refl sm) rfl⟩
 ·obtain ⟨c,rfl⟩:=bI h
  obtain ⟨l,xs,rfl,q,r⟩:=rx
  refine .inr ⟨l,_,xs,rfl,ry,sm _ _ q,by omega,by omega,by rw [<- r.len,sizeLine_eq];omega,fun p hp=>?_⟩
  exact k _ _ _ (Gr.new sm hp) ⟨p,_,rfl,aq,(r.flat _).same (bo (sm.free hp))⟩
def bw:Operator->T->T->Option T
 | .Add=>Zv
 | .Sub=>Zw
 | .Mult=>Nb
 | .FloorDiv=>Zy
 | .Mod=>Zz
 | .Pow=>ZA
 | _=>fun _ _=>none
theorem ZW (hB:B.K=X.K) (op:Operator) (ha:PE X a (tE B fa)) (hb:PE X b (tE B fb)):PE X (.BinOp a op b pos) (tE B (a_ (bw op) fa fb)):=by
 have no:∀ f:T->T->Option T,(∀ x y,f x y=none)->PE X (.BinOp a op b pos) (tE B (a_ f fa fb)):=fun f hf _ _ _ _ _ _ z=>by
  obtain ⟨_,_,_,_,_,h,_⟩:=z
  obtain ⟨⟨tx,s1⟩,h1,h⟩:=af h
  obtain ⟨⟨ty,s2⟩,h2,h⟩:=af h
  obtain ⟨t',h3,h⟩:=af h
  rw [hf] at h3
  cases h3
 cases op
 case Add=>exact bf (nt Jz ha hb) (g_ hB ZP)
 case Sub=>exact bf (nt OA ha hb) (g_ hB ZR)
 case Mult=>exact bf (nt JB ha hb) (g_ hB ZV)
 case FloorDiv=>exact bf (nt GS ha hb) (g_ hB ZS)
 case Mod=>exact bf (nt OB ha hb) (g_ hB ZT)
 case Pow=>exact bf (nt OC ha hb) (g_ hB ZU)
 all_goals exact no _ fun _ _=>rfl
theorem ZX (hB:B.K=X.K) (ha:PE X a (tE B fa)):PE X (.UnaryOp .USub a pos) (tE B (bG kI fa)):=
 bf (UZ OD ha) (DE hB fun B hB al HF H x t tx Q sm rx h k=>by
  cases tx<;>first | (cases h;done) | skip
  cases h
  exact ⟨_,rx,k _ HF H (.refl sm) rfl⟩)
end
section
theorem dz {B:KT}{al:List Addr}{H:Hp}{t:T}{v:V}(h:Rep B al H t v) (f:bq t=true):dE v=true:=by
 cases t with
 | non=>cases (show v=.non from h);rfl
 | bl b=>cases (show v=.bl b from h);rfl
 | int i=>cases (show v=.int i from h);rfl
 | str l=>obtain ⟨rfl,_⟩:=h;rfl
 | tup _=>cases f
 | lst _=>cases f
 | scr _=>cases f
 | obj _ _=>cases f
 | own _=>cases f
 | dX _ _=>cases f
theorem str_beq (l m:List Nat):((⟨l.toArray⟩:Str) == ⟨m.toArray⟩)=decide (l=m):=by
 by_cases h:l=m
 ·subst h;simp
 ·rw [decide_eq_false h,beq_eq_false_iff_ne]
  intro e
  injection e with e
  exact h (by simpa using e)
theorem jw {B:KT}{al:List Addr}{H:Hp}{t u:T}{v w:V}(h:Rep B al H t v) (h':Rep B al H u w) (f:bq t=true) (f':bq u=true):Cr v w=eqT t u:=by
 cases t with
 | tup _=>cases f
 | lst _=>cases f
 | scr _=>cases f
 | obj _ _=>cases f
 | own _=>cases f
 | dX _ _=>cases f
 | non=>
  cases (show v=.non from h)
  cases u with
  | tup _=>cases f'
  | lst _=>cases f'
  | scr _=>cases f'
  | obj _ _=>cases f'
  | own _=>cases f'
  | dX _ _=>cases f'
  | non=>cases (show w=.non from h');rfl
  | bl b=>cases (show w=.bl b from h');rfl
  | int i=>cases (show w=.int i from h');rfl
  | str l=>obtain ⟨rfl,_⟩:=h';rfl
 | bl b0=>
  cases (show v=.bl b0 from h)
  cases u with
  | tup _=>cases f'
  | lst _=>cases f'
  | scr _=>cases f'
  | obj _ _=>cases f'
  | own _=>cases f'
  | dX _ _=>cases f'
  | non=>cases (show w=.non from h');rfl
  | bl b=>cases (show w=.bl b from h');rfl
  | int i=>
   cases (show w=.int i from h')
   show ((if b0 then 1 else 0) == i)=decide ((if b0 then 1 else 0:Int)=i)
   rw [BG]
  | str l=>obtain ⟨rfl,_⟩:=h';rfl
 | int i0=>
  cases (show v=.int i0 from h)
  cases u with
  | tup _=>cases f'
  | lst _=>cases f'
  | scr _=>cases f'
  | obj _ _=>cases f'
  | own _=>cases f'
  | dX _ _=>cases f'
  | non=>cases (show w=.non from h');rfl
  | bl b=>
   cases (show w=.bl b from h')
   show (i0 == (if b then 1 else 0))=decide (i0=(if b then 1 else 0:Int))
   rw [BG]
  | int i=>
   cases (show w=.int i from h')
   show (i0 == i)=decide (i0=i)
   rw [BG]
  | str l=>obtain ⟨rfl,_⟩:=h';rfl
 | str l0=>
  obtain ⟨rfl,_⟩:=h
  cases u with
  | tup _=>cases f'
  | lst _=>cases f'
  | scr _=>cases f'
  | obj _ _=>cases f'
  | own _=>cases f'
  | dX _ _=>cases f'
  | non=>cases (show w=.non from h');rfl
  | bl b=>cases (show w=.bl b from h');rfl
  | int i=>cases (show w=.int i from h');rfl
  | str l=>obtain ⟨rfl,_⟩:=h';exact str_beq _ _
theorem jx {aa:c9}{σ:St}{H HF:Hp}{s:Shared}{a:Addr}{vs:List V}(I:Inv X aa σ H s) (sm:aN HF H) (h:j_ X.K HF a vs):∃ its:List Value,Vals vs its/\s.heap.IsTuple a its.toArray:=by
 obtain ⟨its,r,ht,hz⟩:=I.tuple (xs:=vs) (bU sm h)
 exact ⟨its,r,ht⟩
theorem jy {aa:c9}{σ:St}{H HF:Hp}{s:Shared}{a:Addr}{vs:List V}(I:Inv X aa σ H s) (sm:aN HF H) (h:HF a=some (.lst vs)):∃ its:List Value,Vals vs its/\s.heap.IsList a its.toArray:=by
 obtain ⟨its,r,p,hz⟩:=I.list (du.of (sm _ _ h))
 exact ⟨its,r,p.isList⟩
theorem DK {v:V}(f:dE v=true):Cr v v=true:=by
 cases v<;>first | (cases f;done) | rfl | (show (_ == _)=true;exact beq_self_eq_true _)
theorem DL (t u:T):shape 0 t u=(bq t&&bq u):=rfl
theorem xl {al:List Addr}(hB:B.K=X.K) {aa:c9}{σ:St}{H HF:Hp}{s:Shared}(I:Inv X aa σ H s) (sm:aN HF H) (n:Nat):∀ {t u:T}{v:V},Rep B al HF t v->Rep B al HF u v->shape n t u=true->eqT t u=true:=by
 have flat:∀ {t u:T} {v:V},Rep B al HF t v->Rep B al HF u v->(bq t&&bq u)=true->eqT t u=true:=fun h h' f=>by
  obtain ⟨f1,f2⟩:=ue.mp f
  rw [<- jw h h' f1 f2]
  exact DK (dz h f1)
 induction n with
 | zero=>exact fun {t u v} h h' sh=>flat h h' ((DL t u).symm.trans sh)
 | succ n ih=>
  intro t u v h h' sh
  have items:∀ {ts us:List T} {vs:List V},aC B al HF ts vs->aC B al HF us vs->all2 (shape n) ts us=true->gY ts us=true:=by
   intro ts
   induction ts with
   | nil=>intro us vs h h' _;cases (show vs=[] from h);cases us with
    | nil=>rfl
    | cons u us=>obtain ⟨_,_,e,_⟩:=h';cases e
   | cons t ts iht=>intro us vs h h' sh;cases us with
    | nil=>obtain ⟨_,_,e,_⟩:=h;cases (show vs=[] from h');cases e
    | cons u us=>
     obtain ⟨v,r,rfl,h1,h2⟩:=h
     obtain ⟨v',r',e,ZY,Ga⟩:=h'
     cases e
     obtain ⟨sh1,sh2⟩:=ue.mp (show (shape n t u&&all2 (shape n) ts us)=true from sh)
     show (eqT t u&&gY ts us)=true
     rw [ih h1 ZY sh1,iht h2 Ga sh2];rfl
  cases t with
  | tup ts=>
   cases u with
   | tup us=>
    obtain ⟨a,vs,rfl,q,r⟩:=h
    obtain ⟨a',eA,e,q',r'⟩:=h'
    cases e
    have ev:=I.nq (bU sm (hB ▸ q)) (bU sm (hB ▸ q'))
    subst ev
    exact items r r' sh
   | _=>exact flat h h' sh
  | lst ts=>
   cases u with
   | lst us=>
    obtain ⟨a,vs,rfl,q,r⟩:=h
    obtain ⟨a',eA,e,q',r'⟩:=h'
    cases e
    rw [q] at q';cases q'
    exact items r r' sh
   | _=>exact flat h h' sh
  | _=>exact flat h h' (by cases u<;>exact sh)
theorem rO {p:T->T->Bool}:∀ {as bs:List T},all2 p as bs=true->∀ {j:Nat}{a b:T},as[j]?=some a->bs[j]?=some b->p a b=true
 | a::as,b::bs,h,0,_,_,e1,e2=>by
  simp at e1 e2;subst e1 e2
  exact (ue.mp h).1
 | a::as,b::bs,h,j+1,_,_,e1,e2=>rO (ue.mp h).2 (j:=j) (by simpa using e1) (by simpa using e2)
 | [],_,_,_,_,_,e1,_=>by simp at e1
 | _::_,[],_,_,_,_,_,e2=>by simp at e2
theorem eV:∀ (xs ys:List T),((gM (min xs.length ys.length)).all (fun j=>eqT (xs.getD j .non) (ys.getD j .non))&&xs.length == ys.length)=gY xs ys
 | [],[]=>rfl
 | [],_::_=>by simp [gY]
 | _::_,[]=>by simp [gY]
 | x::xs,y::ys=>by
  have ih:=eV xs ys
  rw [cQ,cQ,Nat.succ_min_succ,Bp,ee,Lo]
  have e:(xs.length+1 == ys.length+1)=(xs.length == ys.length):=by
   by_cases h:xs.length=ys.length<;>simp [h]
  rw [e]
  show ((eqT x y&&(gM (min xs.length ys.length)).all fun j=>eqT (xs.getD j .non) (ys.getD j .non))&&_)=(eqT x y&&gY xs ys)
  rw [<- ih,Bool.and_assoc]
theorem lG:∀ {xs ys:List T},xs.length≠ys.length->gY xs ys=false
 | [],[],h=>absurd rfl h
 | [],_::_,_=>rfl
 | _::_,[],_=>rfl
 | x::xs,y::ys,h=>by
  show (eqT x y&&gY xs ys)=false
  rw [lG (fun e=>h (by simp [e])),wC]
theorem in1_units (A:Around):A.in1.units=A.units+1:=rfl
theorem jz {al:List Addr}{HF:Hp}{A:Around}{s:Shared}{ts us:List T}{vs ws:List V}{its its':List Value}{n:Nat}(r:aC B al HF ts vs) (r':aC B al HF us ws) (rv:Vals vs its) (xm:Vals ws its') (sh:all2 (shape n) ts us=true)
  (ih:∀ {t u:T} {v w:V} {x y:Value},Rep B al HF t v->Rep B al HF u w->RelV v x->RelV w y->shape n t u=true->SeqAt.EqAt A s x y (eqT t u)) :
  ∀ j (h1:j<its.toArray.size) (h2:j<its'.toArray.size),SeqAt.EqAt A s its.toArray[j] its'.toArray[j] ((fun j=>eqT (ts.getD j .non) (us.getD j .non)) j):=by
 intro j h1 h2
 have l1:=rv.length
 have l2:=xm.length
 have l3:=r.len
 have l4:=r'.len
 have ZY:j<ts.length:=by rw [l3,l1];simpa using h1
 have Ga:j<us.length:=by rw [l4,l2];simpa using h2
 obtain ⟨v,e1,q1⟩:=r.get (dR ZY)
 obtain ⟨w,e2,q2⟩:=r'.get (dR Ga)
 obtain ⟨x,e3,q3⟩:=rv.get e1
 obtain ⟨y,e4,q4⟩:=xm.get e2
 have q5:its.toArray[j]=x:=by
  obtain ⟨_,z⟩:=cU.mp e3
  simpa using z
 have q6:its'.toArray[j]=y:=by
  obtain ⟨_,z⟩:=cU.mp e4
  simpa using z
 rw [q5,q6]
 have g1:ts.getD j .non=ts[j]:=by rw [Gy,dR ZY];rfl
 have g2:us.getD j .non=us[j]:=by rw [Gy,dR Ga];rfl
 show SeqAt.EqAt A s x y (eqT (ts.getD j .non) (us.getD j .non))
 rw [g1,g2]
 exact ih q1 q2 q3 q4 (rO sh (dR ZY) (dR Ga))
theorem JC {al:List Addr}(hB:B.K=X.K) {aa:c9}{σ:St}{H HF:Hp}{s:Shared}(I:Inv X aa σ H s) (sm:aN HF H) (n:Nat):∀ (A:Around) {t u:T}{v w:V}{x y:Value},A.units+n<cLine->Rep B al HF t v->Rep B al HF u w->RelV v x->RelV w y->shape n t u=true->SeqAt.EqAt A s x y (eqT t u):=by
 induction n with
 | zero=>
  intro A t u v w x y hu rt ru rx ry sh
  have sh:=(DL t u).symm.trans sh
  obtain ⟨f1,f2⟩:=ue.mp sh
  rw [<- jw rt ru f1 f2]
  exact uE rx ry (dz rt f1) (dz ru f2)
 | succ n ih=>
  intro A t u v w x y hu rt ru rx ry sh
  have flat:(bq t&&bq u)=true->SeqAt.EqAt A s x y (eqT t u):=fun sh=>by
   obtain ⟨f1,f2⟩:=ue.mp sh
   rw [<- jw rt ru f1 f2]
   exact uE rx ry (dz rt f1) (dz ru f2)
  cases t with
  | tup ts=>
   cases u with
   | tup us=>
    obtain ⟨a,vs,rfl,q,r⟩:=id rt
    obtain ⟨b,ws,rfl,q',r'⟩:=id ru
    cases rx
    cases ry
    by_cases hab:a=b
    ·subst hab
     rw [xl hB I sm (n+1) rt ru sh]
     exact SeqAt.EqAt.same _
    obtain ⟨its,rv,ht⟩:=jx I sm (hB ▸ q)
    obtain ⟨its',xm,AY⟩:=jx I sm (hB ▸ q')
    have z:=SeqAt.RcAt.tuples ht AY (wD (uf _ _) hu) (jz (A:=A.in1) r r' rv xm sh (fun a b c d e=>ih A.in1 (by rw [in1_units];omega) a b c d e))
    rw [fQ,fQ,<- rv.length,<- xm.length,<- r.len,<- r'.len,eV] at z
    exact .of_refs hab z
   | _=>exact flat sh
  | lst ts=>
   cases u with
   | lst us=>
    obtain ⟨a,vs,rfl,q,r⟩:=id rt
    obtain ⟨b,ws,rfl,q',r'⟩:=id ru
    cases rx
    cases ry
    by_cases hab:a=b
    ·subst hab
     rw [xl hB I sm (n+1) rt ru sh]
     exact SeqAt.EqAt.same _
    obtain ⟨its,rv,ht⟩:=jy I sm q
    obtain ⟨its',xm,AY⟩:=jy I sm q'
    have l1:=rv.length
    have l2:=xm.length
    have l3:=r.len
    have l4:=r'.len
    by_cases hsz:ts.length=us.length
    ·have z:=SeqAt.RcAt.lists ht AY (by rw [fQ,fQ];omega) (wD (uf _ _) hu) (jz (A:=A.in1) r r' rv xm sh (fun a b c d e=>ih A.in1 (by rw [in1_units];omega) a b c d e))
     have e:=eV ts us
     rw [<- hsz,LS,beq_self_eq_true,BH] at e
     rw [fQ,<- l1,<- l3,e] at z
     exact .of_refs hab z
    ·have z:=SeqAt.RcAt.lists_lengths (s:=s) (A:=A) ht AY (by rw [fQ,fQ,bne_iff_ne];omega) (wD (uf _ _) hu)
     rw [<- lG hsz] at z
     exact .of_refs hab z
   | _=>exact flat sh
  | _=>exact flat (by cases u<;>exact sh)
theorem JD {al:List Addr}{HF:Hp}{A:Around}{s:Shared}{t u:T}{v w:V}{x y:Value}(rt:Rep B al HF t v) (ru:Rep B al HF u w) (rx:RelV v x) (ry:RelV w y) (f1:bq t=true) (f2:bq u=true):SeqAt.RcAt A s x y (eqT t u)/\SeqAt.RcNeAt A s x y (!eqT t u):=by
 rw [<- jw rt ru f1 f2]
 have g1:=dz rt f1
 have g2:=dz ru f2
 cases v with
 | non=>
  cases rx
  cases w with
  | non=>cases ry;exact ⟨SeqAt.RcAt.none_none,SeqAt.RcNeAt.none_none⟩
  | bl b=>cases ry;exact ⟨SeqAt.RcAt.none_bool b,SeqAt.RcNeAt.none_bool b⟩
  | int b=>obtain ⟨t,rfl⟩:=ry;exact ⟨SeqAt.RcAt.none_int b t,SeqAt.RcNeAt.none_int b t⟩
  | str b=>obtain ⟨t,rfl⟩:=ry;exact ⟨SeqAt.RcAt.none_str b t,SeqAt.RcNeAt.none_str b t⟩
  | _=>exact absurd (show false=true from g2) eK
 | bl a=>
  cases rx
  cases w with
  | non=>cases ry;exact ⟨SeqAt.RcAt.bool_none a,SeqAt.RcNeAt.bool_none a⟩
  | bl b=>cases ry;exact ⟨SeqAt.RcAt.bool_bool a b,SeqAt.RcNeAt.bool_bool a b⟩
  | int b=>obtain ⟨t,rfl⟩:=ry;exact ⟨SeqAt.RcAt.bool_int a b t,SeqAt.RcNeAt.bool_int a b t⟩
  | str b=>obtain ⟨t,rfl⟩:=ry;exact ⟨SeqAt.RcAt.bool_str a b t,SeqAt.RcNeAt.bool_str a b t⟩
  | _=>exact absurd (show false=true from g2) eK
 | int a=>
  obtain ⟨t',rfl⟩:=rx
  cases w with
  | non=>cases ry;exact ⟨SeqAt.RcAt.int_none a t',SeqAt.RcNeAt.int_none a t'⟩
  | bl b=>cases ry;exact ⟨SeqAt.RcAt.int_bool a t' b,SeqAt.RcNeAt.int_bool a t' b⟩
  | int b=>obtain ⟨t,rfl⟩:=ry;exact ⟨SeqAt.RcAt.int_int a t' b t,SeqAt.RcNeAt.int_int a t' b t⟩
  | str b=>obtain ⟨t,rfl⟩:=ry;exact ⟨SeqAt.RcAt.int_str a t' b t,SeqAt.RcNeAt.int_str a t' b t⟩
  | _=>exact absurd (show false=true from g2) eK
 | str a=>
  obtain ⟨t',rfl⟩:=rx
  cases w with
  | non=>cases ry;exact ⟨SeqAt.RcAt.str_none a t',SeqAt.RcNeAt.str_none a t'⟩
  | bl b=>cases ry;exact ⟨SeqAt.RcAt.str_bool a t' b,SeqAt.RcNeAt.str_bool a t' b⟩
  | int b=>obtain ⟨t,rfl⟩:=ry;exact ⟨SeqAt.RcAt.str_int a t' b t,SeqAt.RcNeAt.str_int a t' b t⟩
  | str b=>obtain ⟨t,rfl⟩:=ry;exact ⟨SeqAt.RcAt.str_str a t' b t,SeqAt.RcNeAt.str_str a t' b t⟩
  | _=>exact absurd (show false=true from g2) eK
 | _=>exact absurd (show false=true from g1) eK
theorem DM {al:List Addr}(hB:B.K=X.K) {aa:c9}{σ:St}{H HF:Hp}{s:Shared}(I:Inv X aa σ H s) (sm:aN HF H) (A:Around) {t u:T}{v w:V}{x y:Value}(hu:A.units+6<cLine) (rt:Rep B al HF t v) (ru:Rep B al HF u w) (rx:RelV v x) (ry:RelV w y) (sh:shape 5 t u=true) :
  SeqAt.RcAt A s x y (eqT t u)/\SeqAt.RcNeAt A s x y (!eqT t u):=by
 have flat:(bq t&&bq u)=true->SeqAt.RcAt A s x y (eqT t u)/\SeqAt.RcNeAt A s x y (!eqT t u):=fun sh=>by
  obtain ⟨f1,f2⟩:=ue.mp sh
  exact JD rt ru rx ry f1 f2
 have Um:A.units<cLine:=by omega
 have dp:=fun {t u:T} {v w:V} {x y:Value} (a:Rep B al HF t v) (b:Rep B al HF u w) (c:RelV v x) (d:RelV w y) (e:shape 4 t u=true)=>JC hB I sm 4 A.in1 (by rw [in1_units];omega) a b c d e
 cases t with
 | tup ts=>
  cases u with
  | tup us=>
   obtain ⟨a,vs,rfl,q,r⟩:=id rt
   obtain ⟨b,ws,rfl,q',r'⟩:=id ru
   cases rx
   cases ry
   obtain ⟨its,rv,ht⟩:=jx I sm (hB ▸ q)
   obtain ⟨its',xm,AY⟩:=jx I sm (hB ▸ q')
   have it:=jz (A:=A.in1) (s:=s) r r' rv xm sh dp
   have z:=SeqAt.RcAt.tuples ht AY Um it
   have z2:=SeqAt.RcNeAt.tuples ht AY Um it
   rw [fQ,fQ,<- rv.length,<- xm.length,<- r.len,<- r'.len,eV] at z z2
   exact ⟨z,z2⟩
  | _=>exact flat sh
 | lst ts=>
  cases u with
  | lst us=>
   obtain ⟨a,vs,rfl,q,r⟩:=id rt
   obtain ⟨b,ws,rfl,q',r'⟩:=id ru
   cases rx
   cases ry
   obtain ⟨its,rv,ht⟩:=jy I sm q
   obtain ⟨its',xm,AY⟩:=jy I sm q'
   have l1:=rv.length
   have l2:=xm.length
   have l3:=r.len
   have l4:=r'.len
   by_cases hsz:ts.length=us.length
   ·have it:=jz (A:=A.in1) (s:=s) r r' rv xm sh dp
    have hs:its.toArray.size=its'.toArray.size:=by rw [fQ,fQ];omega
    have z:=SeqAt.RcAt.lists ht AY hs Um it
    have z2:=SeqAt.RcNeAt.lists ht AY hs Um it
    have e:=eV ts us
    rw [<- hsz,LS,beq_self_eq_true,BH] at e
    rw [fQ,<- l1,<- l3,e] at z z2
    exact ⟨z,z2⟩
   ·have hs:(its.toArray.size != its'.toArray.size)=true:=by rw [fQ,fQ,bne_iff_ne];omega
    have z:=SeqAt.RcAt.lists_lengths (s:=s) (A:=A) ht AY hs Um
    have z2:=SeqAt.RcNeAt.lists_lengths (s:=s) (A:=A) ht AY hs Um
    have e:eqT (.lst ts) (.lst us)=false:=lG hsz
    rw [e]
    exact ⟨z,z2⟩
  | _=>exact flat sh
 | _=>exact flat (by cases u<;>exact sh)
theorem RW (hu:X.A.units+6<cLine):fj X (compareOp .Eq) (fun x y H Q=>∃ B al HF t u,B.K=X.K/\aN HF H/\Rep B al HF t x/\Rep B al HF u y/\shape 5 t u=true/\Q (.bl (eqT t u)) H):=by
 intro aa s σ H x y v u Q I rx ry h
 obtain ⟨B,al,HF,t,u',hB,sm,rt,ru,sh,q⟩:=h
 exact (DM hB I sm X.A hu rt ru rx ry sh).1 _ _ _ _ (gR I q rfl)
theorem RX (hu:X.A.units+6<cLine):fj X (compareOp .NotEq) (fun x y H Q=>∃ B al HF t u,B.K=X.K/\aN HF H/\Rep B al HF t x/\Rep B al HF u y/\shape 5 t u=true/\Q (.bl (!eqT t u)) H):=by
 intro aa s σ H x y v u Q I rx ry h
 obtain ⟨B,al,HF,t,u',hB,sm,rt,ru,sh,q⟩:=h
 exact (DM hB I sm X.A hu rt ru rx ry sh).2 _ _ _ _ (gR I q rfl)
theorem DN:fj X (compareOp .Is) (fun x y H Q=>∃ a b,x=.bl a/\y=.bl b/\Q (.bl (a == b)) H):=by
 intro aa s σ H x y v u Q I rx ry h
 obtain ⟨a,b,rfl,rfl,q⟩:=h
 cases rx
 cases ry
 exact PyProof.Rows.is_bool (gR I q rfl)
theorem rP {B:KT}{al:List Addr}{H:Hp}:∀ {ts:List T}{vs:List V},aC B al H ts vs->ts.all bq=true->vs.all dE=true
 | [],_,h,_=>by cases (show _=[] from h);rfl
 | t::ts,_,h,f=>by
  obtain ⟨v,r,rfl,h1,h2⟩:=h
  rw [ee,c6] at f
  rw [ee,dz h1 f.1,rP h2 f.2];rfl
theorem any_eq {B:KT}{al:List Addr}{H:Hp}{x:T}{xv:V}(hx:Rep B al H x xv) (fx:bq x=true):∀ {ts:List T}{vs:List V},aC B al H ts vs->ts.all bq=true->(vs.any fun y=>Cr y xv)=ts.any fun y=>eqT y x
 | [],_,h,_=>by cases (show _=[] from h);rfl
 | t::ts,_,h,f=>by
  obtain ⟨v,r,rfl,h1,h2⟩:=h
  rw [ee,c6] at f
  rw [i8,i8,jw h1 hx f.1 fx,any_eq hx fx h2 f.2]
theorem vK {α:Type}(xs:List α) (i:Int):atT xs i=Cq xs i:=by
 unfold atT Cq G0
 by_cases h0:0<=i
 ·rw [if_pos h0,if_pos h0]
  by_cases h1:i<xs.length
  ·rw [if_pos h1,if_pos h1];rfl
  ·rw [if_neg h1,if_neg h1];rfl
 ·rw [if_neg h0,if_neg h0]
  by_cases h1:-(xs.length:Int)<=i
  ·rw [if_pos h1,if_pos h1];rfl
  ·rw [if_neg h1,if_neg h1];rfl
theorem pH {B:KT}{al:List Addr}{H:Hp}{ts:List T}{vs:List V}{i:Int}{t:T}(r:aC B al H ts vs) (h:atT ts i=some t):∃ v,Cq vs i=some v/\Rep B al H t v:=by
 rw [vK] at h
 unfold Cq at h ⊢
 rw [<- r.len]
 cases e:G0 ts.length i with
 | none=>rw [e] at h;cases h
 | some j=>
  rw [e] at h
  exact r.get h
end
section
variable {p2:Pos}{flo fhi:FO}{elo ehi:Option Expr}
theorem RY {al:List Addr}{H:Hp}{t:T}{v:V}(h:Rep B al H t v):decide (v=.non)=RH t:=by
 cases t with
 | non=>cases (show v=.non from h);rfl
 | bl b=>cases (show v=.bl b from h);rfl
 | int i=>cases (show v=.int i from h);rfl
 | str l=>obtain ⟨rfl,_⟩:=h;rfl
 | tup ts=>obtain ⟨a,vs,rfl,_⟩:=h;rfl
 | lst ts=>obtain ⟨a,vs,rfl,_⟩:=h;rfl
 | scr ts=>obtain ⟨a,rfl,_⟩:=h;rfl
 | obj _ _=>obtain ⟨a,_,_,_,_,rfl,_⟩:=h;rfl
 | own _=>obtain ⟨a,rfl,_⟩:=h;rfl
 | dX _ _=>obtain ⟨a,xs,rfl,_⟩:=h;rfl
def rIs:R2:=fun x y H Q=>(y=.non/\Q (.bl (decide (x=.non))) H)\/∃ a b,x=.bl a/\y=.bl b/\Q (.bl (a == b)) H
theorem JE {tx ty t:T}(h:isD tx ty=some t):(ty=.non/\t=.bl (RH tx))\/∃ a b,tx=.bl a/\ty=.bl b/\t=.bl (a == b):=by
 cases ty<;>first | (cases h;done) | (cases h;exact .inl ⟨rfl,rfl⟩) | (cases tx<;>first | (cases h;done) | (cases h;exact .inr ⟨_,_,rfl,rfl,rfl⟩))
theorem ado:nK X isD rIs:=fun B hB al HF H x y t tx ty Q sm rx ry h k=>by
 rcases JE h with ⟨rfl,rfl⟩ | ⟨a,b,rfl,rfl,rfl⟩
 ·exact .inl ⟨ry,by rw [RY rx];exact k _ HF H (.refl sm) rfl⟩
 ·exact .inr ⟨a,b,rx,ry,k _ HF H (.refl sm) rfl⟩
def rQ (K:bC) (neg:Bool):R2:=fun x y H Q=>(∃ i j,x=.str i/\y=.str j/\Q (.bl (if neg then (!(!(Builtin.Str.occurrences j i 0 j.length 1).isEmpty)) else (!(Builtin.Str.occurrences j i 0 j.length 1).isEmpty))) H)\/rIn K neg x y H Q
theorem DO:fj X (compareOp .In) (rQ X.K false):=yP.or yV
theorem xn:fj X (compareOp .NotIn) (rQ X.K true):=oV.or pe
theorem JF {tx ty:T}{k:Bool}(h:Gb tx ty=some k):(∃ c l,tx=.str [c]/\ty=.str l/\k=decide (c∈l))\/((∃ ys,(ty=.tup ys\/ty=.lst ys)/\(bq tx=true/\ys.all bq=true)/\k=ys.any fun y=>eqT y tx)):=by
 cases ty with
 | str l=>
  cases tx with
  | str m=>match m with
   | []=>cases h
   | [c]=>cases h;exact .inl ⟨c,l,rfl,rfl,rfl⟩
   | _::_::_=>cases h
  | _=>cases h
 | tup ys=>
  have h:gd (bq tx=true/\ys.all bq=true) (ys.any fun y=>eqT y tx)=some k:=by
   cases tx with
   | str m=>match m with
    | []=>exact h
    | [c]=>exact h
    | _::_::_=>exact h
   | _=>exact h
  obtain ⟨c,rfl⟩:=bI h
  exact .inr ⟨ys,.inl rfl,c,rfl⟩
 | lst ys=>
  have h:gd (bq tx=true/\ys.all bq=true) (ys.any fun y=>eqT y tx)=some k:=by
   cases tx with
   | str m=>match m with
    | []=>exact h
    | [c]=>exact h
    | _::_::_=>exact h
   | _=>exact h
  obtain ⟨c,rfl⟩:=bI h
  exact .inr ⟨ys,.inr rfl,c,rfl⟩
 | _=>
  cases tx with
  | str m=>match m with
   | []=>cases h
   | [c]=>cases h
   | _::_::_=>cases h
  | _=>cases h
theorem DP {neg:Bool}{B:KT}(hB:B.K=X.K) {al:List Addr}{HF H:Hp}{x y:V}{tx ty:T}{k:Bool}{Q:VK}(sm:aN HF H) (rx:Rep B al HF tx x) (ry:Rep B al HF ty y) (h:Gb tx ty=some k) (q:Q (.bl (if neg then !k else k)) H):rQ X.K neg x y H Q:=by
 rcases JF h with ⟨c,l,rfl,rfl,rfl⟩ | ⟨ys,hy,⟨f1,f2⟩,rfl⟩
 ·obtain ⟨rfl,_⟩:=rx
  obtain ⟨rfl,_⟩:=ry
  refine .inl ⟨_,_,rfl,rfl,?_⟩
  have e:(!(Builtin.Str.occurrences ⟨l.toArray⟩ ⟨#[c]⟩ 0 (⟨l.toArray⟩:Str).length 1).isEmpty)=decide (c∈l):=StrLaws.found_one ..
  have e':(!(Builtin.Str.occurrences (⟨l.toArray⟩:Str) ⟨[c].toArray⟩ 0 (⟨l.toArray⟩:Str).length 1).isEmpty)=decide (c∈l):=e
  rw [e']
  exact q
 ·right
  have main:∀ a vs,y=.ref a->(du X.K H a vs\/j_ X.K H a vs)->aC B al HF ys vs->rIn X.K neg x y H Q:=fun a vs ey sq r=>by
   refine ⟨a,vs,ey,sq,dz rx f1,rP r f2,?_⟩
   unfold inV
   rw [any_eq rx f1 r f2]
   exact q
  rcases hy with rfl | rfl
  ·obtain ⟨a,vs,rfl,q1,r⟩:=ry
   exact main a vs rfl (.inr (hB ▸ bU sm q1)) r
  ·obtain ⟨a,vs,rfl,q1,r⟩:=ry
   exact main a vs rfl (.inl (du.of (sm _ _ q1))) r
theorem adp:nK X inD (rQ X.K false):=fun B hB al HF H x y t tx ty Q sm rx ry h k=>by
 unfold inD at h
 cases e:Gb tx ty with
 | none=>rw [e] at h;cases h
 | some d=>rw [e] at h;cases h;exact DP hB sm rx ry e (k _ HF H (.refl sm) rfl)
theorem ZZ:nK X RI (rQ X.K true):=fun B hB al HF H x y t tx ty Q sm rx ry h k=>by
 unfold RI at h
 cases e:Gb tx ty with
 | none=>rw [e] at h;cases h
 | some d=>rw [e] at h;cases h;exact DP hB sm rx ry e (k _ HF H (.refl sm) rfl)
def Z2 (X:Cx) (neg:Bool):R2:=fun x y H Q=>∃ B al HF t u,B.K=X.K/\aN HF H/\Rep B al HF t x/\Rep B al HF u y/\shape 5 t u=true/\Q (.bl (if neg then !eqT t u else eqT t u)) H
theorem adq:nK X eqD (Z2 X false):=fun B hB al HF H x y t tx ty Q sm rx ry h k=>by
 obtain ⟨c,rfl⟩:=bI h
 exact ⟨B,al,HF,tx,ty,hB,sm,rx,ry,c,k _ HF H (.refl sm) rfl⟩
theorem ads:nK X neD (Z2 X true):=fun B hB al HF H x y t tx ty Q sm rx ry h k=>by
 obtain ⟨c,rfl⟩:=bI h
 exact ⟨B,al,HF,tx,ty,hB,sm,rx,ry,c,k _ HF H (.refl sm) rfl⟩
theorem xo (f:Int->Int->Bool):nK X (Dt f) (AW fun i j=>.bl (f i j)):=ZQ (G:=fun i j=>.bl (f i j)) (fun tx ty t h=>by
 cases tx<;>first | (cases h;done) | (cases ty<;>first | (cases h;done) | (cases h;exact ⟨_,_,rfl,rfl,rfl⟩))) fun _ _ _ _ _=>rfl
def JG:CmpOp->T->T->Option T
 | .Eq=>eqD
 | .NotEq=>neD
 | .Lt=>Dt fun i j=>decide (i<j)
 | .LtE=>Dt fun i j=>decide (i<=j)
 | .Gt=>Dt fun i j=>decide (j<i)
 | .GtE=>Dt fun i j=>decide (j<=i)
 | .Is=>isD
 | .IsNot=>fun _ _=>none
 | .In=>inD
 | .NotIn=>RI
theorem RZ {op:CmpOp}{k:Nat}(hr:bO k X.A):∃ r,fj X (compareOp op) r/\nK X (JG op) r:=by
 have hu:X.A.units+6<cLine:=by have:=hr.units;omega
 cases op
 case Eq=>exact ⟨_,RW hu,adq⟩
 case NotEq=>exact ⟨_,RX hu,ads⟩
 case Lt=>exact ⟨_,U4,xo _⟩
 case LtE=>exact ⟨_,U5,xo _⟩
 case Gt=>exact ⟨_,U6,xo _⟩
 case GtE=>exact ⟨_,U7,xo _⟩
 case Is=>exact ⟨_,OE.or DN,ado⟩
 case IsNot=>exact ⟨fun _ _ _ _=>False,fun _ _ _ _ _ _ _ _ _ _ _ _ z=>z.elim,fun _ _ _ _ _ _ _ _ _ _ _ _ _ _ h=>by cases h⟩
 case In=>exact ⟨_,DO,adp⟩
 case NotIn=>exact ⟨_,xn,ZZ⟩
def aZ (a:FE):FT:=fun s=>(a s).bind fun p=>(cK (RL p.1)).bind fun b=>.ok (b,p.2)
theorem Nc {f:FE}{σ:St}{H:Hp}{Q:Bool->Hp->Prop}(h:tT B (aZ f) σ H Q):tE B f σ H (fun x H'=>∃ k,x=.bl k/\Q k H'):=by
 obtain ⟨g,s,t,s',x,h,k⟩:=h
 obtain ⟨⟨d,s1⟩,h1,h⟩:=af h
 obtain ⟨d',h2,h⟩:=af h
 cases kT (az h2)
 cases h
 exact ⟨g,s,_,s1,x,h1,fun v g1 H1 p1 x1 r1=>⟨_,r1,k g1 H1 p1 x1⟩⟩
def gi:T->T->Option T
 | .dX _ _,_=>none
 | x,y=>ixD x y
theorem DQ {tx ty t:T}(h:gi tx ty=some t):∃ i,ty=.int i/\((∃ xs,(tx=.lst xs\/tx=.tup xs)/\atT xs i=some t)\/(∃ l c,tx=.str l/\atT l i=some c/\t=.str [c])\/∃ ns n,tx=.scr ns/\atT ns i=some n/\t=.int n):=by
 cases tx<;>first | (cases h;done) | (cases ty<;>first | (cases h;done) | skip)
 ·rename_i l i
  have h:(atT l i).map (fun c=>T.str [c])=some t:=h
  cases e:atT l i with
  | none=>rw [e] at h;cases h
  | some c=>rw [e] at h;cases h;exact ⟨i,rfl,.inr (.inl ⟨l,c,rfl,e,rfl⟩)⟩
 ·exact ⟨_,rfl,.inl ⟨_,.inr rfl,h⟩⟩
 ·exact ⟨_,rfl,.inl ⟨_,.inl rfl,h⟩⟩
 ·rename_i l i
  have h:(atT l i).map T.int=some t:=h
  cases e:atT l i with
  | none=>rw [e] at h;cases h
  | some c=>rw [e] at h;cases h;exact ⟨i,rfl,.inr (.inr ⟨l,c,rfl,e,rfl⟩)⟩
theorem R0 {α β:Type}(f:α->β) {l:List α}{i:Int}{c:α}(h:atT l i=some c):Cq (l.map f) i=some (f c):=by
 rw [vK] at h
 unfold Cq at h ⊢
 rw [cT]
 cases e:G0 l.length i with
 | none=>rw [e] at h;cases h
 | some j=>
  rw [e] at h
  show (Be f _)[j]?=_
  rw [gb,show _[j]?=some c from h]
  rfl
theorem adt:nK X gi (rIx X.K):=fun B hB al HF H x y t tx ty Q sm rx ry h k=>by
 obtain ⟨i,rfl,⟨xs,hx | hx,e⟩ | ⟨l,c,rfl,e,rfl⟩ | ⟨ns,n,rfl,e,rfl⟩⟩:=DQ h
 ·subst hx
  obtain ⟨p,vs,rfl,q,r⟩:=rx
  obtain ⟨v,e,rv⟩:=pH r e
  exact .inl ⟨p,vs,_,v,rfl,ry,du.of (sm _ _ q),e,k v HF H (.refl sm) rv⟩
 ·subst hx
  obtain ⟨p,vs,rfl,q,r⟩:=rx
  obtain ⟨v,e,rv⟩:=pH r e
  exact .inr (.inl ⟨p,vs,_,v,rfl,ry,hB ▸ bU sm q,e,k v HF H (.refl sm) rv⟩)
 ·obtain ⟨rfl,hz⟩:=rx
  refine .inr (.inr ⟨_,_,c,rfl,ry,szS hz,?_,k _ HF H (.refl sm) ⟨rfl,by simp⟩⟩)
  rw [<- vK];exact e
 ·obtain ⟨p,rfl,q⟩:=rx
  exact .inl ⟨p,_,_,.int n,rfl,ry,hB ▸ sm.seq q,R0 V.int e,k _ HF H (.refl sm) rfl⟩
theorem Z3 (hB:B.K=X.K) (ha:PE X a (tE B fa)) (hb:PE X b (tE B fb)) (hs:jf b):PE X (.Subscript a b pos) (tE B (a_ gi fa fb)):=bf (Mg OJ ha hb hs) (g_ hB adt)
end
end D
namespace L2
open PySem PySem.Spec PyProof.Rows
section
variable {X:Cx}
theorem nM:∀ (ls:List Str) (t:Nat),Vals (ls.map V.str) (strsFrom t ls)
 | [],_=>.nil
 | x::ls,t=>.cons ⟨_,rfl⟩ (nM ls (t+1))
theorem DR:wQ X "str.split" (fun x vs H Q=>∃ a b,x=.str a/\vs=[.str b]/\(b.length == 0)=false/\a.length<=sizeLine/\(Txt.split a b).length<=sizeLine/\∀ l,H l=none->Q (.ref l) (upd H l (.lst ((Txt.split a b).map V.str)))):=by
 intro aa s σ H x vs v us Q I rx rv h
 obtain ⟨a,b,rfl,rfl,hb,ha,hz,q⟩:=h
 obtain ⟨t,rfl⟩:=rx
 obtain ⟨u,rfl,⟨t',rfl⟩⟩:=rv.one
 unfold Txt.split at hz q
 by_cases c1:(decide (a.length<b.length) || decide (Builtin.Str.strKind a<Builtin.Str.strKind b))=true
 ·rw [if_pos c1] at hz q
  refine call_meets F.slot_str_split (typeIs_str s a t) F.entry_str_split (F.args_str_split_2 _ _) (meets_str_split_cannot_occur a b t t' c1) ?_
  exact ⟨.ref s.heap.objs.size,_,I.yW (t':=s.toks) (ys:=[V.str a]) (.cons ⟨_,rfl⟩ .nil) hz,rfl,q _ I.fresh⟩
 ·rw [if_neg c1] at hz q
  have c1':(decide (a.length<b.length) || decide (Builtin.Str.strKind a<Builtin.Str.strKind b))=false:=by
   rcases LK (decide (a.length<b.length) || decide (Builtin.Str.strKind a<Builtin.Str.strKind b)) with z | z
   ·exact absurd z c1
   ·exact z
  by_cases c2:(Builtin.Str.occurrences a b 0 a.length (a.length+1)).isEmpty=true
  ·rw [if_pos c2] at hz q
   refine call_meets F.slot_str_split (typeIs_str s a t) F.entry_str_split (F.args_str_split_2 _ _) (meets_str_split_not_found a b t t' c1' hb c2) ?_
   exact ⟨.ref s.heap.objs.size,_,I.yW (t':=s.toks) (ys:=[V.str a]) (.cons ⟨_,rfl⟩ .nil) hz,rfl,q _ I.fresh⟩
  ·rw [if_neg c2] at hz q
   have c2':(Builtin.Str.occurrences a b 0 a.length (a.length+1)).isEmpty=false:=by
    rcases LK (Builtin.Str.occurrences a b 0 a.length (a.length+1)).isEmpty with z | z
    ·exact absurd z c2
    ·exact z
   refine call_meets F.slot_str_split (typeIs_str s a t) F.entry_str_split (F.args_str_split_2 _ _) (meets_str_split_sep a b t t' c1' hb c2' ha hz) ?_
   exact ⟨.ref s.heap.objs.size,_,I.yW (nM _ _) (by rw [cT];exact hz),rfl,q _ I.fresh⟩
end
section
variable {X:Cx}
theorem DS:wQ X "str.find" (fun x vs H Q=>∃ a b,x=.str a/\vs=[.str b]/\Q (.int (Txt.find a b)) H):=by
 intro aa s σ H x vs v us Q I rx rv h
 obtain ⟨a,b,rfl,rfl,q⟩:=h
 obtain ⟨t,rfl⟩:=rx
 obtain ⟨u,rfl,⟨t',rfl⟩⟩:=rv.one
 exact SC.find ⟨.int _,H,I.tok _,⟨_,rfl⟩,q⟩
end
end L2
namespace D
open PySem L2
variable {X:Cx}{env:Env}{a b c e o tg:Expr}{fa fb fc fo:FE}{fl:FL}{g g':G}{H H':Hp}{B:KT}{es:List Expr}{cP eL p pos:Pos}{s s':S}{σ:St}{x y:Str}
section
variable {p2:Pos}{flo fhi:FO}{elo ehi:Option Expr}
theorem DT (lo hi:Option Int) (n:Nat):Builtin.Str.strSliceIndices lo hi 1 n=Builtin.Str.strSliceIndices (some ((D.fm n 0 lo:Nat):Int)) (some ((D.fm n n hi:Nat):Int)) 1 n:=by
 have c:∀ v:Int,max 0 (min (if v<0 then v+(n:Int) else v) (n:Int))=((if v<0 then (v+(n:Int)).toNat else min v.toNat n:Nat):Int):=fun v=>by
  by_cases hv:v<0
  ·rw [if_pos hv,if_pos hv];omega
  ·rw [if_neg hv,if_neg hv];omega
 have d:∀ m:Nat,m<=n->max 0 (min (if ((m:Nat):Int)<0 then ((m:Nat):Int)+(n:Int) else ((m:Nat):Int)) (n:Int))=((m:Nat):Int):=fun m hm=>by
  rw [if_neg (by omega)];omega
 have l1:D.fm n 0 lo<=n:=by
  cases lo with
  | none=>exact gD _
  | some v=>show (if v<0 then (v+(n:Int)).toNat else min v.toNat n)<=n;split<;>omega
 have l2:D.fm n n hi<=n:=by
  cases hi with
  | none=>exact dS _
  | some v=>show (if v<0 then (v+(n:Int)).toNat else min v.toNat n)<=n;split<;>omega
 unfold Builtin.Str.strSliceIndices
 simp only [show ((1:Int) > 0) from by decide,if_true]
 rw [d _ l1,d _ l2]
 congr 1
 ·cases lo with
  | none=>rfl
  | some v=>exact c v
 ·cases hi with
  | none=>rfl
  | some v=>exact c v
theorem DU (n d:Nat) (hd:d<=n) (o:Option Int):D.fm n d o<=n:=by
 cases o with
 | none=>exact hd
 | some v=>show (if v<0 then (v+(n:Int)).toNat else min v.toNat n)<=n;split<;>omega
theorem cut_str (l:List Nat) (lo hi:Option Int):Txt.slice ⟨l.toArray⟩ lo hi=⟨(bD l lo hi).toArray⟩:=by
 have e0:Txt.slice ⟨l.toArray⟩ lo hi=StrLaws.sliceText ⟨l.toArray⟩ lo hi:=rfl
 have e1:StrLaws.sliceText ⟨l.toArray⟩ lo hi=StrLaws.sliceText ⟨l.toArray⟩ (some ((D.fm l.length 0 lo:Nat):Int)) (some ((D.fm l.length l.length hi:Nat):Int)):=by
  unfold StrLaws.sliceText
  rw [fh,DT]
 rw [e0,e1]
 have h2:=DU l.length l.length (dS _) hi
 by_cases hab:D.fm l.length 0 lo<=D.fm l.length l.length hi
 ·rw [StrLaws.sliceText_nat _ hab (by rw [fh];exact h2)]
  rfl
 ·have h1:=DU l.length 0 (gD _) lo
  have e3:bD l lo hi=[]:=by
   unfold bD
   rw [show D.fm l.length l.length hi-D.fm l.length 0 lo=0 by omega,List.take_zero]
  rw [e3]
  have e4:Builtin.Str.strSliceIndices (some ((D.fm l.length 0 lo:Nat):Int)) (some ((D.fm l.length l.length hi:Nat):Int)) 1 l.length=[]:=by
   have d:∀ m:Nat,m<=l.length->max 0 (min (if ((m:Nat):Int)<0 then ((m:Nat):Int)+(l.length:Int) else ((m:Nat):Int)) (l.length:Int))=((m:Nat):Int):=fun m hm=>by
    rw [if_neg (by omega)];omega
   unfold Builtin.Str.strSliceIndices
   simp only [show ((1:Int) > 0) from by decide,if_true]
   rw [d _ h1,d _ h2]
   simp only [sliceRange]
   rw [if_pos (by decide),if_neg (by omega)]
   rfl
  unfold StrLaws.sliceText
  rw [fh,e4]
  rw [if_neg (by simp;omega)]
  rfl
theorem DV {α:Type}(l:List α) (lo hi:Option Int):(bD l lo hi).length<=l.length:=by
 unfold bD
 rw [yE,Bl]
 omega
theorem xq (xs:List V) (lo hi:Option Int):yU xs lo hi=bD xs lo hi:=by
 have e:∀ (n d:Nat) (o:Option Int),HT.fm n d o=D.fm n d o:=fun n d o=>by cases o<;>rfl
 unfold yU bD
 rw [e,e]
theorem aC.cut {B:KT}{al:List Addr}{H:Hp}{ts:List T}{vs:List V}(r:aC B al H ts vs) (lo hi:Option Int):aC B al H (bD ts lo hi) (bD vs lo hi):=by
 unfold bD
 rw [r.len]
 exact (r.drop _).take _
theorem JH {α β:Type}(f:α->β) (l:List α) (lo hi:Option Int):(bD l lo hi).map f=bD (l.map f) lo hi:=by
 unfold bD
 rw [cT,Lq,List.map_drop]
theorem rR {B:KT}{al:List Addr}{H:Hp}:∀ {ts:List T}{vs:List V}{ls:List (List Nat)},aC B al H ts vs->strsOf ts=some ls->vs=(ls.map fun l=>(⟨l.toArray⟩:Str)).map V.str
 | [],_,_,h,e=>by cases (show _=[] from h);cases e;rfl
 | t::ts,_,ls,h,e=>by
  obtain ⟨v,r,rfl,h1,h2⟩:=h
  cases t<;>first | (cases e;done) | skip
  rename_i l
  have e:(strsOf ts).map (l::·)=some ls:=e
  cases e':strsOf ts with
  | none=>rw [e'] at e;cases e
  | some ms=>
   rw [e'] at e;cases e
   obtain ⟨rfl,_⟩:=h1
   rw [rR h2 e']
   rfl
theorem join_eq (sep:List Nat):∀ ls:List (List Nat),Str.join ⟨sep.toArray⟩ (ls.map fun l=>(⟨l.toArray⟩:Str))=⟨(bh sep ls).toArray⟩
 | []=>rfl
 | [c]=>rfl
 | c::d::r=>by
  have ih:=join_eq sep (d::r)
  show (⟨c.toArray⟩:Str)++⟨sep.toArray⟩++Str.join ⟨sep.toArray⟩ ((d::r).map fun l=>(⟨l.toArray⟩:Str))=⟨(c++sep++bh sep (d::r)).toArray⟩
  rw [ih,RV,RV]
theorem nN (sep:List Nat):∀ ls:List (List Nat),(bh sep ls).length<=(ls.map (·.length)).sum+ls.length*sep.length
 | []=>by simp [bh]
 | [c]=>by simp [bh]
 | c::d::r=>by
  have ih:=nN sep (d::r)
  show (c++sep++bh sep (d::r)).length<=_
  rw [bJ,bJ,fR,List.sum_cons,cQ,LQ]
  omega
theorem DW (ls:List (List Nat)):((ls.map fun l=>(⟨l.toArray⟩:Str)).map (·.length))=ls.map (·.length):=by
 rw [kB]
 apply Bq
 intro l _
 exact fh l
theorem R1 (l s:List Nat):Txt.startswith ⟨l.toArray⟩ ⟨s.toArray⟩=pre s l:=by
 unfold Txt.startswith pre
 rw [StrLaws.subAt_eq]
 show (decide (0+(⟨s.toArray⟩:Str).length<=l.toArray.size)&&((l.drop 0).take (⟨s.toArray⟩:Str).length == s))=_
 rw [fh,fQ,qB,Bf]
theorem R3 (l s:List Nat):Txt.endswith ⟨l.toArray⟩ ⟨s.toArray⟩=RJ s l:=by
 unfold Txt.endswith RJ
 rw [StrLaws.subAt_eq,fh,fh]
 show (decide (0+s.length<=l.length)&&((l.drop (l.length-s.length)).take s.length == s))=_
 rw [qB]
 by_cases h:s.length<=l.length
 ·rw [decide_eq_true h,BI,BI]
  rw [Lr (by rw [Bl];omega)]
 ·rw [decide_eq_false h,BE,BE]
theorem jU {B:KT}{al:List Addr}{H:Hp}:∀ {ts:List T}{vs:List V}{ks:List Bool},aC B al H ts vs->boolsOf ts=some ks->vs=ks.map V.bl
 | [],_,_,h,e=>by cases (show _=[] from h);cases e;rfl
 | t::ts,_,ls,h,e=>by
  obtain ⟨v,r,rfl,h1,h2⟩:=h
  cases t<;>first | (cases e;done) | skip
  rename_i l
  have e:(boolsOf ts).map (l::·)=some ls:=e
  cases e':boolsOf ts with
  | none=>rw [e'] at e;cases e
  | some ms=>
   rw [e'] at e;cases e
   cases (show v=.bl l from h1)
   rw [jU h2 e']
   rfl
def rT (tn T:String):Option Bool:=if (Value.type tn == Value.type T)=true then some true else if PySem.W.kitMeta T=true then (fastBuiltinMro tn).map (·.contains (Value.type T)) else none
theorem jV (K:bC) {tn T:String}{b:Bool}(h:rT tn T=some b):oB K (.type tn) (.type T)=some b:=h
structure iR (T:String):Prop where
 non:rT "NoneType" T=some false
 bl:rT "bool" T=some (T == "bool" || T == "int")
 int:rT "int" T=some (T == "int")
 str:rT "str" T=some (T == "str")
 tup:rT "tuple" T=some (T == "tuple")
 lst:rT "list" T=some (T == "list")
 dic:rT "dict" T=some (T == "dict")
theorem R4:iR "int" := by constructor<;>decide +kernel
theorem JI:iR "bool" := by constructor<;>decide +kernel
theorem R5:iR "str" := by constructor<;>decide +kernel
theorem DX:iR "tuple" := by constructor<;>decide +kernel
theorem JJ:iR "list" := by constructor<;>decide +kernel
def bg (c:Nat):List Nat->List (List Nat)
 | []=>[[]]
 | d::l=>if d=c then []::bg c l else match bg c l with
  | p::r=>(d::p)::r
  | []=>[[d]]
theorem iS {c:Nat}:∀ {p:List Nat},c ∉ p->bg c p=[p]
 | [],_=>rfl
 | d::p,h=>by
  have hd:d≠c:=fun e=>h (by rw [e];exact eE ..)
  have hp:c ∉ p:=fun e=>h (eZ _ e)
  unfold bg
  rw [if_neg hd,iS hp]
theorem lH {c:Nat}(l:List Nat):∀ {p:List Nat},c ∉ p->bg c (p++[c]++l)=p::bg c l
 | [],_=>by
  show bg c (c::l)=_
  rw [bg,if_pos rfl]
 | d::p,h=>by
  have hd:d≠c:=fun e=>h (by rw [e];exact eE ..)
  have hp:c ∉ p:=fun e=>h (eZ _ e)
  show bg c (d::(p++[c]++l))=_
  rw [bg,if_neg hd,lH l hp]
theorem kj {c:Nat}:∀ {ls:List (List Nat)},ls≠[]->(∀ p∈ls,c ∉ p)->bg c (bh [c] ls)=ls
 | [],h,_=>absurd rfl h
 | [p],_,h=>iS (h p (eE ..))
 | p::q::r,_,h=>by
  show bg c (p++[c]++bh [c] (q::r))=_
  rw [lH _ (h p (eE ..)),kj (by simp) fun x hx=>h x (eZ _ hx)]
theorem split_len (x y:Str):(Txt.split x y).length<=x.length+2:=by
 unfold Txt.split
 split
 ·simp
 ·split
  ·simp
  ·rw [length_partsBetween]
   have:=StrLaws.occ_length_le x y 0 x.length (x.length+1)
   omega
theorem DY (x y:Str):Txt.split x y≠[]:=by
 unfold Txt.split
 split
 ·simp
 ·split
  ·simp
  ·intro e
   have:=length_partsBetween x (Builtin.Str.occurrences x y 0 x.length (x.length+1)) y.length
   rw [e] at this
   simp at this
theorem DZ (a:List Nat) (c:Nat):Txt.split ⟨a.toArray⟩ ⟨#[c]⟩=(bg c a).map fun l=>(⟨l.toArray⟩:Str):=by
 obtain ⟨L,hL⟩:∃ L:List (List Nat),L=(Txt.split ⟨a.toArray⟩ ⟨#[c]⟩).map fun p=>p.cps.toList:=⟨_,rfl⟩
 have e1:Txt.split ⟨a.toArray⟩ ⟨#[c]⟩=L.map fun l=>(⟨l.toArray⟩:Str):=by
  rw [hL,kB]
  conv=>lhs;rw [<- List.map_id (Txt.split ⟨a.toArray⟩ ⟨#[c]⟩)]
  apply Bq
  intro p _
  show p=(⟨p.cps.toList.toArray⟩:Str)
  rw [Array.toArray_toList]
 have iE:L≠[]:=by
  rw [hL]
  intro e
  exact DY _ _ (Ls.mp e)
 have nk:∀ p∈L,c ∉ p:=by
  rw [hL]
  intro p hp
  obtain ⟨q,hq,rfl⟩:=i9.mp hp
  exact StrLaws.split_free _ c q hq
 have hj:=StrLaws.join_split ⟨a.toArray⟩ ⟨#[c]⟩
 rw [e1,show (⟨#[c]⟩:Str)=⟨([c]:List Nat).toArray⟩ from rfl,join_eq] at hj
 have hj2:bh [c] L=a:=by
  injection hj with hj
  simpa using hj
 rw [e1,<- hj2,kj iE nk]
theorem nO {B:KT}{al:List Addr}{H:Hp}:∀ {ls:List (List Nat)},(∀ l∈ls,l.length<=1000000)->aC B al H (ls.map T.str) (ls.map fun l=>SV l)
 | [],_=>rfl
 | l::ls,h=>⟨_,_,rfl,⟨rfl,h l (eE ..)⟩,nO fun x hx=>h x (eZ _ hx)⟩
theorem jA (c:Nat):∀ (a:List Nat),∀ l∈bg c a,l.length<=a.length
 | [],l,h=>by
  rw [eo.mp h];simp
 | d::a,l,h=>by
  have ih:=jA c a
  rw [bg] at h
  split at h
  ·rcases cA.mp h with e | e
   ·rw [e];simp
   ·have:=ih l e;simp;omega
  ·split at h
   ·rename_i p r hpr
    rcases cA.mp h with e | e
    ·have:=ih p (by rw [hpr];exact eE ..)
     rw [e];simp;omega
    ·have:=ih l (by rw [hpr];exact eZ _ e)
     simp;omega
   ·rw [eo.mp h];simp
theorem Z4:PO X none (tP B rJ):=M7 GY fun σ H Q z=>by
 obtain ⟨g,s,t,s',x,h,k⟩:=z
 cases h
 exact k g H .refl x
theorem JK {t:T}{i:Int}(h:RM t=some i):t=.int i:=by
 cases t<;>first | (cases h;done) | (cases h;rfl)
theorem Z5 (ha:PE X a (tE B fa)):PO X (some a) (tP B (kJ fa)):=M7 (GZ ha) fun σ H Q z=>by
 obtain ⟨g,s,t,s',x,h,k⟩:=z
 obtain ⟨⟨d,s1⟩,h1,h⟩:=af h
 obtain ⟨i,h2,h⟩:=af h
 cases JK (az h2)
 cases h
 exact ⟨g,s,_,s1,x,h1,fun v g1 H1 p1 x1 r1=>⟨_,r1,k g1 H1 p1 x1⟩⟩
def adu (K:bC):V->Option Int->Option Int->Hp->VK->Prop:=fun x lo hi H Q=>(∃ z,x=.str z/\z.length<=sizeLine/\Q (.str (Txt.slice z lo hi)) H)\/Vm K x lo hi H Q
theorem adv:Mf X (adu X.K):=OU.or G2
theorem adw (hB:B.K=X.K) (ha:PE X a (tE B fa)) (hl:PO X elo (tP B flo)) (hh:PO X ehi (tP B fhi)):PE X (.Subscript a (.Slice elo ehi none p2) pos) (tE B (mU fa flo fhi)):=by
 refine bf (Cp adv ha hl hh) fun σ H Q zz=>?_
 obtain ⟨g,s,t,s',x,h,k⟩:=zz
 obtain ⟨⟨tx,s1⟩,h1,h⟩:=af h
 obtain ⟨⟨lo,s2⟩,h2,h⟩:=af h
 obtain ⟨⟨hi,s3⟩,h3,h⟩:=af h
 obtain ⟨t',h4,h⟩:=af h
 cases h
 have h4:Dv lo hi tx=some _:=az h4
 refine ⟨g,s,_,s1,x,h1,fun v g1 H1 p1 x1 r1=>⟨g1,s1,_,s2,x1,h2,fun g2 H2 p2 x2=>⟨g2,s2,_,_,x2,h3,fun g3 H3 p3 x3=>?_⟩⟩⟩
 have r3:=(r1.mv p2.pre p2.fr).mv p3.pre p3.fr
 have pp:=(p1.trans p2).trans p3
 cases tx<;>first | (cases h4;done) | skip
 ·cases h4
  obtain ⟨rfl,hz⟩:=r3
  refine .inl ⟨_,rfl,szS hz,?_⟩
  rw [cut_str]
  exact k _ g3 H3 pp x3 ⟨rfl,gO (DV _ _ _) hz⟩
 ·cases h4
  obtain ⟨a,vs,rfl,q,r⟩:=r3
  refine .inr ⟨a,vs,rfl,du.of (x3.sub _ _ q),fun l hl=>?_⟩
  rw [xq]
  have gr:=Gr.new (o:=.lst (bD vs lo hi)) x3.sub hl
  exact k _ _ _ (pp.trans (x3.mW gr)) (x3.grow gr) ⟨l,_,rfl,aq,(r.cut _ _).same gr.fr⟩
 ·cases h4
  obtain ⟨a,rfl,q⟩:=r3
  refine .inr ⟨a,_,rfl,hB ▸ x3.sub.seq q,fun l hl=>?_⟩
  rw [xq,<- JH]
  exact k _ _ _ (pp.trans (x3.mW (Gr.new x3.sub hl))) (x3.grow (Gr.new x3.sub hl)) ⟨l,_,rfl,aq,aC.ints _⟩
end
section
def noStar:Expr->Bool
 | .Starred _ _=>false
 | _=>true
theorem aH (h:noStar e=true):starEach (e::es) env=(false,eval e env)::starEach es env:=by
 cases e<;>first | rfl | (cases h)
theorem cY:∀ {es:List Expr},es.all noStar=true->(backTo pos (starEach es env)).any (·.1)=false
 | [],_=>rfl
 | e::es,h=>by
  rw [ee,c6] at h
  rw [aH h.1]
  show (false || (backTo pos (starEach es env)).any (·.1))=false
  rw [cY h.2];rfl
theorem lI:∀ {es:List Expr},es.all noStar=true->(backTo pos (starEach es env)).all (fun x=>!x.1)=true
 | [],_=>rfl
 | e::es,h=>by
  rw [ee,c6] at h
  rw [aH h.1]
  show (true&&(backTo pos (starEach es env)).all (fun x=>!x.1))=true
  rw [lI h.2];rfl
theorem lJ (h:(e::es).all noStar=true) (hl:es.length<29):((backTo eL (starEach (e::es) env)).all (fun x=>!x.1)&&(backToKw eL (keywordEach [] env)).all (fun x=>x.1.isSome)
   && decide ((e::es).length+([]:List Keyword).length+(if ([]:List Keyword).isEmpty then 0 else 1)<30))=true:=by
 rw [lI h,c6]
 exact ⟨rfl,decide_eq_true (show es.length+1+0+0<30 by omega)⟩
def dM:Expr->Bool
 | .Call (.Name _ _) [] [] _=>false
 | _=>true
theorem iu {f:Str}{gx:Sem Value}(h:dM o=true):attributeBase o f env gx=gx:=by
 unfold attributeBase
 split
 ·cases h
 ·rfl
def LM (X:Cx) (f:List Nat->List T->Option T) (r:V->List V->Hp->VK->Prop):Prop:=∀ (B:KT) (_:B.K=X.K) (al:List Addr) (HF H:Hp) (l:List Nat) (xs:List V) (t:T) (ts:List T) (Q:VK),aN HF H->l.length<=1000000->aC B al HF ts xs->f l ts=some t->(∀ v eM H',Gr HF H eM H'->Rep B al eM t v->Q v H')->r (SV l) xs H Q
def JL:T->Option (List Nat)
 | .str l=>some l
 | _=>none
def jB (f:List Nat->List T->Option T) (o:FE) (fl:FL):FE:=fun s=>(o s).bind fun p=>(cK (JL p.1)).bind fun l=>(fl p.2).bind fun q=>(cK (f l q.1)).bind fun t=>.ok (t,q.2)
theorem D0 {t:T}{l:List Nat}(h:JL t=some l):t=.str l:=by
 cases t<;>first | (cases h;done) | (cases h;rfl)
theorem adx {f:List Nat->List T->Option T}{r:V->List V->Hp->VK->Prop}(hB:B.K=X.K) (hr:LM X f r):∀ σ H Q,tE B (jB f fo fl) σ H Q->tBM X.K "str" r (tE B fo) (tA B fl) σ H Q:=by
 rintro σ H Q ⟨g,s,t,s',x,h,k⟩
 obtain ⟨⟨tx,s1⟩,h1,h⟩:=af h
 obtain ⟨l,h2,h⟩:=af h
 obtain ⟨⟨ts,s2⟩,h3,h⟩:=af h
 obtain ⟨t',h4,h⟩:=af h
 cases h
 cases D0 (az h2)
 refine ⟨g,s,_,s1,x,h1,fun v g1 H1 p1 x1 r1=>?_⟩
 obtain ⟨rfl,hz⟩:=r1
 exact ⟨rfl,g1,s1,_,_,x1,h3,fun vs g2 H2 p2 x2 r2=>hr B hB g2.al g2.HF H2 l vs _ ts Q x2.sub hz r2 (az h4) fun u eM H' gr r3=>k u (g2.grow eM) H' ((p1.trans p2).trans (x2.mW gr)) (x2.grow gr) r3⟩
def qv (l:List Nat):List T->Option T
 | [.str s]=>some (.bl (pre s l))
 | _=>none
def ewM (l:List Nat):List T->Option T
 | [.str s]=>some (.bl (RJ s l))
 | _=>none
def joinM (l:List Nat):List T->Option T
 | [t]=>wY (.str l) t
 | _=>none
def splitM (l:List Nat):List T->Option T
 | [.str [c]]=>gd (l.length<=100000) (.lst ((bg c l).map .str))
 | _=>none
open PySem.Spec PyProof.Rows in
def lK (l:List Nat):List T->Option T
 | [.str s]=>some (.int (Txt.find ⟨l.toArray⟩ ⟨s.toArray⟩))
 | [.str s,.int i]=>some (.int (Txt.find3 ⟨l.toArray⟩ ⟨s.toArray⟩ i))
 | _=>none
theorem b8 {al:List Addr}{H:Hp}{t:T}{xs:List V}(r:aC B al H [t] xs):∃ v,xs=[v]/\Rep B al H t v:=by
 obtain ⟨v,w,rfl,h,e⟩:=r
 cases (show w=[] from e)
 exact ⟨v,rfl,h⟩
theorem JM {al:List Addr}{H:Hp}{t u:T}{xs:List V}(r:aC B al H [t,u] xs):∃ v w,xs=[v,w]/\Rep B al H t v/\Rep B al H u w:=by
 obtain ⟨v,ws,rfl,h,e⟩:=r
 obtain ⟨w,rfl,h'⟩:=b8 e
 exact ⟨v,w,rfl,h,h'⟩
theorem ady:LM X qv (fun x vs H Q=>∃ a b,x=.str a/\vs=[.str b]/\Q (.bl (Txt.startswith a b)) H):=fun B hB al HF H l xs t ts Q sm hz r h k=>by
 match ts,h with
 | [.str s],h=>
  cases h
  obtain ⟨v,rfl,rfl,_⟩:=b8 r
  refine ⟨_,_,rfl,rfl,?_⟩
  rw [R1]
  exact k _ HF H (.refl sm) rfl
theorem adz:LM X ewM (fun x vs H Q=>∃ a b,x=.str a/\vs=[.str b]/\Q (.bl (Txt.endswith a b)) H):=fun B hB al HF H l xs t ts Q sm hz r h k=>by
 match ts,h with
 | [.str s],h=>
  cases h
  obtain ⟨v,rfl,rfl,_⟩:=b8 r
  refine ⟨_,_,rfl,rfl,?_⟩
  rw [R3]
  exact k _ HF H (.refl sm) rfl
theorem R6:LM X joinM (fun x vs H Q=>∃ sep l ys,x=.str sep/\vs=[.ref l]/\du X.K H l (ys.map V.str)/\(ys.map (·.length)).sum+ys.length*sep.length<=16777216/\Q (.str (Str.join sep ys)) H):=fun B hB al HF H l xs t ts Q sm hz r h k=>by
 match ts,h with
 | [u],h=>
  obtain ⟨v,rfl,ru⟩:=b8 r
  have h:wY (.str l) u=some t:=h
  cases u with
  | lst us=>
   have h:(strsOf us).bind (fun ys=>gd ((ys.map (·.length)).sum+ys.length*l.length<=1000000) (T.str (bh l ys)))=some t:=h
   obtain ⟨ls,h1,h⟩:=e9.mp h
   obtain ⟨z,rfl⟩:=bI h
   obtain ⟨a,vs,rfl,q,r⟩:=ru
   have e:=rR r h1
   subst e
   refine ⟨_,a,_,rfl,rfl,du.of (sm _ _ q),?_,?_⟩
   ·rw [DW,cT,fh];omega
   ·rw [join_eq]
    exact k _ HF H (.refl sm) ⟨rfl,gO (nN _ _) z⟩
  | _=>cases h
theorem m_find:LM X lK (fun x vs H Q=>(∃ a b,x=.str a/\vs=[.str b]/\Q (.int (Txt.find a b)) H)\/∃ a b i,x=.str a/\vs=[.str b,.int i]/\Q (.int (Txt.find3 a b i)) H):=fun B hB al HF H l xs t ts Q sm hz r h k=>by
 match ts,h with
 | [.str s],h=>
  cases h
  obtain ⟨v,rfl,rfl,_⟩:=b8 r
  exact .inl ⟨_,_,rfl,rfl,k _ HF H (.refl sm) rfl⟩
 | [.str s,.int i],h=>
  cases h
  obtain ⟨v,w,rfl,⟨rfl,_⟩,rfl⟩:=JM r
  exact .inr ⟨_,_,_,rfl,rfl,k _ HF H (.refl sm) rfl⟩
theorem m_split:LM X splitM (fun x vs H Q=>∃ a b,x=.str a/\vs=[.str b]/\(b.length == 0)=false/\a.length<=sizeLine/\(Txt.split a b).length<=sizeLine/\∀ l,H l=none->Q (.ref l) (upd H l (.lst ((Txt.split a b).map V.str)))):=fun B hB al HF H l xs t ts Q sm hz r h k=>by
 match ts,h with
 | [.str [c]],h=>
  obtain ⟨z,rfl⟩:=bI h
  obtain ⟨v,rfl,rfl,_⟩:=b8 r
  have hsl:=split_len ⟨l.toArray⟩ ⟨([c]:List Nat).toArray⟩
  rw [fh] at hsl
  refine ⟨_,_,rfl,rfl,rfl,by rw [fh,sizeLine_eq];omega,by rw [sizeLine_eq];omega,fun q hq=>?_⟩
  have e:(Txt.split ⟨l.toArray⟩ ⟨([c]:List Nat).toArray⟩).map V.str=(bg c l).map fun l=>SV l:=by
   rw [show (⟨([c]:List Nat).toArray⟩:Str)=⟨#[c]⟩ from rfl,DZ,kB];rfl
  rw [e]
  refine k _ _ _ (Gr.new sm hq) ⟨q,_,rfl,aq,nO fun m hm=>?_⟩
  have:=jA c l m hm
  omega
 | [.str []],h=>cases h
 | [.str (_::_::_)],h=>cases h
theorem wQ.or {id:String}{r r':V->List V->Hp->VK->Prop}(h:wQ X id r) (h':wQ X id r'):wQ X id (fun x vs H Q=>r x vs H Q\/r' x vs H Q):=fun aa s σ H x vs v us Q I rx rv q=>by
 rcases q with q | q
 ·exact h aa s σ H x vs v us Q I rx rv q
 ·exact h' aa s σ H x vs v us Q I rx rv q
structure SMt (X:Cx) (n:Str) (f:List Nat->List T->Option T):Prop where
 ex:∃ id r,Slot "str" n id/\typeOf (.builtin id)=pure (.type "method_descriptor")/\wQ X id r/\LM X f r
theorem Z6 {n:Str}{f:List Nat->List T->Option T}(M:SMt X n f) (hB:B.K=X.K) (ho:PE X o (tE B fo)) (ha:PA X (e::es) (tA B fl)) (hb:dM o=true) (hs:(e::es).all noStar=true) (hl:es.length<29) (ji:(cP.endLine == eL.line)=true) :
  PE X (.Call (.Attribute o n cP) (e::es) [] eL) (tE B (jB f fo fl)):=by
 obtain ⟨id,r,h1,h2,h3,h4⟩:=M.ex
 have G_:=hs
 rw [ee,c6] at G_
 exact bf (Mi PySem.F.plainAttrs_str h1 h2 h3 ho ha (iu hb) (lJ hs hl) ji (aH G_.1) (cY G_.2)) (adx hB h4)
def vL:List (Str × (List Nat->List T->Option T)):=[("startswith", qv),("endswith", ewM),("join", joinM),("split", splitM),("find", lK)]
theorem R7:∀ p∈vL,SMt X p.1 p.2:=by
 intro p h
 simp only [vL,cA,mK,or_false] at h
 rcases h with rfl | rfl | rfl | rfl | rfl
 ·exact ⟨_,_,PySem.F.slot_str_startswith,PySem.F.type_str_startswith,mS,ady⟩
 ·exact ⟨_,_,PySem.F.slot_str_endswith,PySem.F.type_str_endswith,qQ,adz⟩
 ·exact ⟨_,_,PySem.F.slot_str_join,PySem.F.type_str_join,Hb,R6⟩
 ·exact ⟨_,_,PySem.F.slot_str_split,PySem.F.type_str_split,DR,m_split⟩
 ·exact ⟨_,_,PySem.F.slot_str_find,PySem.F.type_str_find,wQ.or DS CG,m_find⟩
end
section
def ba:List T->Option T
 | [t]=>(match t with
  | .dX _ _=>none
  | t=>iO t)
 | _=>none
theorem Z7:LN X ba (fun xs H Q=>∃ x n,xs=[x]/\U9 X.K x H n/\Q (.int n) H):=fun B hB al HF H xs t ts Q sm r h k=>by
 match ts,h with
 | [tx],h=>
  obtain ⟨v,rfl,rx⟩:=b8 r
  cases tx<;>first | (cases h;done) | skip
  ·cases h
   obtain ⟨rfl,hz⟩:=rx
   exact ⟨_,_,rfl,⟨szS hz,(fh _).symm⟩,k _ HF H (.refl sm) rfl⟩
  ·cases h
   obtain ⟨a,vs,rfl,q,r⟩:=rx
   exact ⟨_,_,rfl,.inr ⟨vs,hB ▸ bU sm q,r.len⟩,k _ HF H (.refl sm) rfl⟩
  ·cases h
   obtain ⟨a,vs,rfl,q,r⟩:=rx
   exact ⟨_,_,rfl,.inl ⟨vs,du.of (sm _ _ q),r.len⟩,k _ HF H (.refl sm) rfl⟩
  ·cases h
   obtain ⟨a,rfl,q⟩:=rx
   exact ⟨_,_,rfl,.inl ⟨_,hB ▸ sm.seq q,(cT _).symm⟩,k _ HF H (.refl sm) rfl⟩
def Am:List T->Option T
 | [t]=>ZD t
 | _=>none
theorem Z8:LN X Am (fun xs H Q=>∃ i,xs=[.int i]/\Q (.int (if i<0 then -i else i)) H):=fun B hB al HF H xs t ts Q sm r h k=>by
 match ts,h with
 | [tx],h=>
  obtain ⟨v,rfl,rx⟩:=b8 r
  have h:ZD tx=some t:=h
  cases tx<;>first | (cases h;done) | skip
  cases h
  exact ⟨_,by rw [show v=_ from rx],k _ HF H (.refl sm) rfl⟩
def JN:List T->Option T
 | [t]=>RK t
 | _=>none
def pI:List T->Option T
 | [t]=>Jw t
 | _=>none
theorem Z9:LN X JN (fun xs H Q=>∃ (p:Addr) (ks:List Bool),xs=[.ref p]/\du X.K H p (ks.map V.bl)/\Q (.bl (ks.all id)) H):=fun B hB al HF H xs t ts Q sm r h k=>by
 match ts,h with
 | [tx],h=>
  obtain ⟨v,rfl,rx⟩:=b8 r
  have h:RK tx=some t:=h
  cases tx with
  | lst us=>
   obtain ⟨ks,h1,h⟩:=cV.mp (show (boolsOf us).map _=some t from h)
   obtain ⟨a,vs,rfl,q,r⟩:=rx
   have e:=jU r h1
   subst e h
   exact ⟨a,ks,rfl,du.of (sm _ _ q),k _ HF H (.refl sm) rfl⟩
  | _=>cases h
theorem Z_:LN X pI (fun xs H Q=>∃ (p:Addr) (ks:List Bool),xs=[.ref p]/\du X.K H p (ks.map V.bl)/\Q (.bl (ks.any id)) H):=fun B hB al HF H xs t ts Q sm r h k=>by
 match ts,h with
 | [tx],h=>
  obtain ⟨v,rfl,rx⟩:=b8 r
  have h:Jw tx=some t:=h
  cases tx with
  | lst us=>
   obtain ⟨ks,h1,h⟩:=cV.mp (show (boolsOf us).map _=some t from h)
   obtain ⟨a,vs,rfl,q,r⟩:=rx
   have e:=jU r h1
   subst e h
   exact ⟨a,ks,rfl,du.of (sm _ _ q),k _ HF H (.refl sm) rfl⟩
  | _=>cases h
def gF (i:Int):List Nat:=(toString i).toList.map Char.toNat
def strN:List T->Option T
 | [.int i]=>gd (i.natAbs.log2<1920/\(gF i).length<=1000000) (.str (gF i))
 | _=>none
theorem aaa:LN X strN (fun xs H Q=>∃ i,xs=[.int i]/\i.natAbs.log2<1920/\Q (.str (toString i)) H):=fun B hB al HF H xs t ts Q sm r h k=>by
 match ts,h with
 | [.int i],h=>
  obtain ⟨v,rfl,rx⟩:=b8 r
  obtain ⟨⟨h1,h2⟩,rfl⟩:=bI h
  cases rx
  refine ⟨i,rfl,h1,k _ HF H (.refl sm) ⟨?_,h2⟩⟩
  show V.str (Str.ofString (toString i))=_
  rw [Str.ofString_eq_toList]
  rfl
def pJ:List T->Option T
 | [.str l]=>(PySem.intText? ⟨l.toArray⟩).bind fun n=>gd (l.length<=640) (.int n)
 | [.bl b]=>some (.int (if b then 1 else 0))
 | _=>none
abbrev aab:List V->Hp->VK->Prop:=fun xs H Q=>(∃ y n,xs=[.str y]/\PySem.intText? y=some n/\y.length<=640/\Q (.int n) H)\/∃ b,xs=[.bl b]/\Q (.int (if b then 1 else 0)) H
theorem An:fk X (.type "int") aab:=by
 intro aa s σ H xs us Q I r h
 rcases h with ⟨y,n,rfl,hn,hl,q⟩ | ⟨b,rfl,q⟩
 ·obtain ⟨u,rfl,t,rfl⟩:=vals1 r
  exact PySem.W.KIN.call_text hn hl ⟨.int n,H,I.tok _,⟨_,rfl⟩,q⟩
 ·obtain ⟨u,rfl,e⟩:=vals1 r
  cases (show u=Value.bool b from e)
  exact PySem.call_int_bool ⟨.int (if b then 1 else 0),H,I.tok _,⟨_,rfl⟩,q⟩
theorem aac:LN X pJ aab:=fun B hB al HF H xs t ts Q sm r h k=>by
 match ts,h with
 | [.str l],h=>
  obtain ⟨v,rfl,rx⟩:=b8 r
  obtain ⟨n,h1,h⟩:=e9.mp h
  obtain ⟨z,rfl⟩:=bI h
  obtain ⟨rfl,_⟩:=rx
  exact .inl ⟨_,n,rfl,h1,by rw [fh];exact z,k _ HF H (.refl sm) rfl⟩
 | [.bl b],h=>
  obtain ⟨v,rfl,rx⟩:=b8 r
  cases h
  cases rx
  exact .inr ⟨b,rfl,k _ HF H (.refl sm) rfl⟩
def Nd:List T->Option T
 | [t]=>M3 t
 | _=>none
theorem R8:LN X Nd (fun xs H Q=>∃ p ys,xs=[.ref p]/\(du X.K H p ys\/j_ X.K H p ys)/\∀ l,H l=none->Q (.ref l) (upd H l (.lst ys))):=fun B hB al HF H xs t ts Q sm r h k=>by
 match ts,h with
 | [tx],h=>
  obtain ⟨v,rfl,rx⟩:=b8 r
  have h:M3 tx=some t:=h
  cases tx<;>first | (cases h;done) | skip
  ·cases h
   obtain ⟨l,xs,rfl,q,r⟩:=rx
   exact ⟨l,xs,rfl,.inr (hB ▸ bU sm q),fun p hp=>k _ _ _ (Gr.new sm hp) ⟨p,_,rfl,aq,r.same (bo (sm.free hp))⟩⟩
  ·cases h
   obtain ⟨l,xs,rfl,q,r⟩:=rx
   exact ⟨l,xs,rfl,.inl (du.of (sm _ _ q)),fun p hp=>k _ _ _ (Gr.new sm hp) ⟨p,_,rfl,aq,r.same (bo (sm.free hp))⟩⟩
structure Blt (X:Cx) (n:Str) (f:List T->Option T):Prop where
 ex:∃ r,LN X f r/\((∃ id,bootBuiltins n=some (.builtin id)/\fk X (.builtin id) r)\/∃ ty,bootBuiltins n=some (.type ty)/\fk X (.type ty) r)
 nn:n ≠ "__name__"
 nd:bQ n
theorem Nf {f:List T->Option T}(M:Blt X x f) (hB:B.K=X.K) (hg:Gl X x) (hm:X.mg x=none) (ha:PA X (e::es) (tA B fl)) (hs:(e::es).all noStar=true):PE X (.Call (.Name x p) (e::es) [] pos) (tE B (aK f fl)):=by
 obtain ⟨⟨r,h1,h2⟩,nn,nd⟩:=M
 rw [ee,c6] at hs
 rcases h2 with ⟨id,hb,hc⟩ | ⟨ty,hb,hc⟩
 ·exact bf (gS hc hg hm hb ha nn nd (aH hs.1) (cY hs.2)) (M8 hB h1)
 ·exact bf (nC hc hg hm hb ha nn nd (aH hs.1) (cY hs.2)) (M8 hB h1)
def vM:List (Str × (List T->Option T)):=[("len", ba),("abs", Am),("all", JN),("any", pI),("str", strN),("int", pJ),("list", Nd)]
theorem D3 (hc:X.calm=true):∀ p∈vM,Blt X p.1 p.2:=by
 intro p h
 simp only [vM,cA,mK,or_false] at h
 rcases h with rfl | rfl | rfl | rfl | rfl | rfl | rfl
 ·exact ⟨⟨_,Z7,.inl ⟨_,PySem.boot_len,qL⟩⟩,by decide,by decide⟩
 ·exact ⟨⟨_,Z8,.inl ⟨_,PyProof.Rows.boot_abs,Ca⟩⟩,by decide,by decide⟩
 ·exact ⟨⟨_,Z9,.inl ⟨_,PyProof.Rows.boot_all,CH hc⟩⟩,by decide,by decide⟩
 ·exact ⟨⟨_,Z_,.inl ⟨_,PyProof.Rows.boot_any,CI hc⟩⟩,by decide,by decide⟩
 ·exact ⟨⟨_,aaa,.inr ⟨_,L6,oW⟩⟩,by decide,by decide⟩
 ·exact ⟨⟨_,aac,.inr ⟨_,L7,An⟩⟩,by decide,by decide⟩
 ·exact ⟨⟨_,R8,.inr ⟨_,BV,jh⟩⟩,by decide,by decide⟩
end
structure Pg where
 cn:List Str
 an:List Str
 tab:List (List Nat)
 sub:List (List Nat)
def Pg.fn (P:Pg):List (List Str):=P.tab.map fun l=>l.map fun i=>P.an.getD i Str.empty
structure Uo (K:bC) (mg:Str->Option Value) (n:Str) (ns:List Str) (C:Addr):Prop where
 at_:mJ K mainGlobals n=some (some (.ref C))
 gl:mg n=some (.ref C)
 nd:ns.Nodup
 lJ:ns.length<=100
 cl:oX K C
 na:∀ f∈ns,eQ K C f
 ca:fH K (.ref C) "__class__" = some (some (.builtin "object.__class__"))
 mo:Gs K C (.type "object")=some true
structure mX (K:bC) (mg:Str->Option Value) (P:Pg):Prop where
 cls:∀ (c:Nat) (n:Str) (ns:List Str),P.cn[c]?=some n->P.fn[c]?=some ns->∃ C,Uo K mg n ns C
 sub:∀ (c d:Nat) (n n':Str) (C D:Addr) (l:List Nat),P.cn[c]?=some n->P.cn[d]?=some n'->mg n=some (.ref C)->mg n'=some (.ref D)->P.sub[c]?=some l->oB K (.ref C) (.ref D)=some (decide (d∈l))
 gt:Gp K (.builtin "object.__class__") "__get__" = some (some (.builtin "getset_descriptor.__get__"))/\Gq K (.builtin "object.__class__")=some true
abbrev Pg.kt (P:Pg) (X:Cx):KT:=⟨X.K,X.prog,X.w,P.cn,P.fn⟩
variable {P:Pg}
theorem mX.of (O:mX X.K X.mg P) {c:Nat}{C:Addr}{ns:List Str}(h:gE (P.kt X) c C ns):∃ n,P.cn[c]?=some n/\P.fn[c]?=some ns/\Uo X.K X.mg n ns C:=by
 obtain ⟨n,h1,h2,h3,h4⟩:=h
 obtain ⟨C',F⟩:=O.cls c n ns h1 h2
 have:C=C':=by
  have:=(show mJ X.K mainGlobals n=some (some (.ref C)) from h4).symm.trans F.at_
  injection this with this
  injection this with this
  injection this
 subst this
 exact ⟨n,h1,h2,F⟩
theorem gj {f:Str}:∀ {ns:List Str}{vs:List V}{j:Nat},ns.Nodup->ns[j]?=some f->(ns.zip vs).lookup f=vs[j]?
 | [],vs,j,_,h=>by simp at h
 | n::ns,[],j,_,_=>by simp
 | n::ns,v::vs,0,nd,h=>by
  simp at h;subst h
  rw [oF,List.lookup_cons_self];rfl
 | n::ns,v::vs,j+1,nd,h=>by
  simp at h
  have e:(f == n)=false:=beq_eq_false_iff_ne.mpr fun z=>by subst z;exact (ku.mp nd).1 (iJ h)
  rw [oF,iK,e]
  simpa using gj (ku.mp nd).2 h
theorem lL {f:Str}:∀ {ns:List Str}{vs:List V},f ∉ ns->(ns.zip vs).lookup f=none
 | [],vs,_=>by simp
 | n::ns,[],_=>by simp
 | n::ns,v::vs,h=>by
  have e:(f == n)=false:=beq_eq_false_iff_ne.mpr fun z=>h (by rw [z];exact eE ..)
  rw [oF,iK,e]
  exact lL fun z=>h (eZ _ z)
theorem xr {f:Str}{v:V}:∀ {ns:List Str}{vs:List V}{j:Nat},ns.Nodup->ns[j]?=some f->vs.length<=ns.length->j<vs.length->L2.dW f v (ns.zip vs)=ns.zip (vs.set j v)
 | [],vs,j,_,h,_,_=>by simp at h
 | n::ns,[],j,_,_,_,h=>by simp at h
 | n::ns,w::vs,0,nd,h,_,_=>by
  simp at h;subst h
  show (if n=n then (n,v)::ns.zip vs else (n,w)::L2.dW n v (ns.zip vs))=_
  rw [if_pos rfl];rfl
 | n::ns,w::vs,j+1,nd,h,hl,hj=>by
  simp at h hl hj
  show (if n=f then (n,v)::ns.zip vs else (n,w)::L2.dW f v (ns.zip vs))=_
  rw [if_neg fun z=>(ku.mp nd).1 (by rw [z];exact iJ h),xr (ku.mp nd).2 h hl hj]
  rfl
theorem pK {f:Str}{v:V}:∀ {ns:List Str}{vs:List V},ns.Nodup->ns[vs.length]?=some f->L2.dW f v (ns.zip vs)=ns.zip (vs++[v])
 | [],vs,_,h=>by simp at h
 | n::ns,[],nd,h=>by
  simp at h;subst h
  show L2.dW n v []=(n,v)::ns.zip []
  simp [L2.dW]
 | n::ns,w::vs,nd,h=>by
  simp at h
  show (if n=f then (n,v)::ns.zip vs else (n,w)::L2.dW f v (ns.zip vs))=_
  rw [if_neg fun z=>(ku.mp nd).1 (by rw [z];exact iJ h),pK (ku.mp nd).2 h]
  rfl
theorem JO {l:List Nat}{f j:Nat}(h:l.idxOf? f=some j):l[j]?=some f:=by
 rw [Lu,Lv] at h
 obtain ⟨hj,h1,_⟩:=h
 rw [dR hj,eq_of_beq h1]
theorem kU {c f j:Nat}{n:Str}{ns:List Str}(hf:P.an[f]?=some n) (hc:P.fn[c]?=some ns) (h:Ah P.tab c f=some j):ns[j]?=some n:=by
 unfold Ah at h
 obtain ⟨l,h1,h2⟩:=e9.mp h
 unfold Pg.fn at hc
 rw [gb,h1] at hc
 cases hc
 rw [gb,JO h2]
 show some (P.an.getD f Str.empty)=_
 rw [Gy,hf];rfl
theorem aad (O:mX X.K X.mg P) {f:Nat}{n:Str}(hf:P.an[f]?=some n) (he:PE X e (tE (P.kt X) fa)) (hb:dM e=true):PE X (.Attribute e n pos) (tE (P.kt X) (aG P.tab f fa)):=by
 refine bf (Cd he (iu hb)) fun σ H Q zz=>?_
 obtain ⟨g,s,t,s',x,h,k⟩:=zz
 obtain ⟨⟨tx,s1⟩,h1,h⟩:=af h
 refine ⟨g,s,_,s1,x,h1,fun v g1 H1 p1 x1 r1=>?_⟩
 cases tx<;>first | (cases h;done) | skip
 ·rename_i c fs
  obtain ⟨u,h2,h⟩:=af h
  cases h
  obtain ⟨j,h3,h4⟩:=e9.mp (az h2)
  obtain ⟨a,C,dx,ns,vs,rfl,hC,hq,hl,hd,r⟩:=r1
  obtain ⟨m,hm,nG,F⟩:=O.of hC
  have hj:=kU hf nG h3
  obtain ⟨w,hw,GO⟩:=r.get h4
  exact ⟨a,C,dx,_,w,rfl,x1.sub _ _ hq,F.cl,F.na _ (iJ hj),by rw [gj F.nd hj,hw],k _ g1 H1 p1 x1 GO⟩
 ·rename_i kk
  obtain ⟨c,h2,h⟩:=af h
  obtain ⟨ob,h3,h4⟩:=e9.mp (az h2)
  obtain ⟨j,h5,h6⟩:=e9.mp h4
  obtain ⟨a,rfl,ha⟩:=r1
  rcases x1.st.at_ kk ob h3 with ⟨a',C,dx,ns,vs,Z⟩ | ⟨a',vs,ts,Z⟩
  case inr=>
   rw [Z.fs] at h6
   cases j with
   | zero=>cases h6;cases h
   | succ j=>cases h6
  have:=Z.al.symm.trans ha
  cases this
  obtain ⟨m,hm,nG,F⟩:=O.of Z.cl
  have hj:=kU hf nG h5
  obtain ⟨w,hw,sl⟩:=Z.f j c h6
  cases c with
  | val t'=>
   cases h
   exact ⟨a,C,dx,_,w,rfl,Z.h,F.cl,F.na _ (iJ hj),by rw [gj F.nd hj,hw],k _ g1 H1 p1 x1 sl⟩
  | ol ts=>cases h
  | od ks ts=>cases h
  | yg t=>cases h
def tyB (ty:String):T->Option Bool
 | .non=>some false
 | .bl _=>some (ty == "bool" || ty == "int")
 | .int _=>some (ty == "int")
 | .str _=>some (ty == "str")
 | .tup _=>some (ty == "tuple")
 | .lst _=>some (ty == "list")
 | _=>none
def ua (ty:String):T->Option T:=fun t=>(tyB ty t).map .bl
theorem R9 {B:KT}{al:List Addr}{H:Hp}{t:T}{v:V}{Ty:String}{u:Bool}(ka:iR Ty) (r:Rep B al H t v) (h:tyB Ty t=some u):∃ tn,iz B.K H v tn/\oB B.K tn (.type Ty)=some u:=by
 cases t with
 | non=>cases (show v=.non from r);cases h;exact ⟨_,.non,jV B.K ka.non⟩
 | bl b=>cases (show v=.bl b from r);cases h;exact ⟨_,.bl _,jV B.K ka.bl⟩
 | int i=>cases (show v=.int i from r);cases h;exact ⟨_,.int _,jV B.K ka.int⟩
 | str l=>obtain ⟨rfl,_⟩:=r;cases h;exact ⟨_,.str _,jV B.K ka.str⟩
 | tup ts=>obtain ⟨a,vs,rfl,q,_⟩:=r;cases h;exact ⟨_,.tup q,jV B.K ka.tup⟩
 | lst ts=>obtain ⟨a,vs,rfl,q,_⟩:=r;cases h;exact ⟨_,.lst q,jV B.K ka.lst⟩
 | _=>cases h
def rV:List (Str × String):=[("int", "int"),("bool", "bool"),("str", "str"),("tuple", "tuple"),("list", "list")]
theorem aae:∀ q∈rV,iR q.2/\bootBuiltins q.1=some (.type q.2)/\q.1 ≠ "__name__" /\ (q.1 == ("__debug__" : Str))=false:=by
 intro p h
 simp only [rV,cA,mK,or_false] at h
 rcases h with rfl | rfl | rfl | rfl | rfl
 ·exact ⟨R4,L7,by decide,by decide⟩
 ·exact ⟨JI,PyProof.Rows.boot_bool,by decide,by decide⟩
 ·exact ⟨R5,L6,by decide,by decide⟩
 ·exact ⟨DX,PyProof.Rows.boot_tuple,by decide,by decide⟩
 ·exact ⟨JJ,BV,by decide,by decide⟩
theorem R_ {B:KT}(hB:B.K=X.K) {ty:String}{py:Pos}(hy:(y,ty)∈rV) (hm:X.mg "isinstance" = none) (hmt:X.mg y=none) (ha:PE X a (tE B fa)) (hg:Gl X "isinstance") (hgt:Gl X y) (hs:noStar a=true) :
  PE X (.Call (.Name "isinstance" p) [a,.Name y py] [] pos) (tE B (bG (ua ty) fa)):=by
 obtain ⟨ka,hb,hn,hd⟩:=aae _ hy
 have AV:starEach [Expr.Name y py] X.env=(false,eval (.Name y py) X.env)::starEach [] X.env:=rfl
 refine bf (gS qR hg hm BW (bZ ha (bZ (GI hgt hmt hb (v:=.ty ty) rfl hn hd) eu AV) (aH hs)) (he:=aH hs) (hpl:=rfl))
  (DE hB (r:=fun x H Q=>∃ x' T' t b,[x,.ty ty]=[x',.ty T']/\iz X.K H x' t/\oB X.K t (.type T')=some b/\Q (.bl b) H) fun B hB al HF H x t tx Q sm rx h k=>?_)
 obtain ⟨u,h1,rfl⟩:=cV.mp h
 obtain ⟨tn,h2,h3⟩:=R9 ka (rx.same sm) h1
 exact ⟨x,ty,tn,u,rfl,hB ▸ h2,hB ▸ h3,k _ HF H (.refl sm) rfl⟩
def cz (sub:List (List Nat)) (ds:List Nat):T->Option T
 | .obj c _=>(sub[c]?).map fun l=>.bl (ds.any fun d=>decide (d∈l))
 | _=>none
theorem D4:fk X (.builtin "isinstance") (fun xs H Q=>∃ x D t b,xs=[x,.ref D]/\iz X.K H x t/\oB X.K t (.ref D)=some b/\Q (.bl b) H):=by
 intro aa s σ H xs us Q I r h
 obtain ⟨x,D,t,b,rfl,ty,e,q⟩:=h
 obtain ⟨u,u',rfl,ru,Vw⟩:=vals2 r
 cases Vw
 exact nu I ru ty e fun tk=>⟨.bl b,H,I.tok _,rfl,q⟩
theorem aaf (O:mX X.K X.mg P) {d:Nat}{py:Pos}(hy:P.cn[d]?=some y) (hm:X.mg "isinstance" = none) (ha:PE X a (tE (P.kt X) fa)) (hg:Gl X "isinstance") (hgt:Gl X y) (hs:noStar a=true) (hd:bQ y) (UD:(P.fn[d]?).isSome=true) :
  PE X (.Call (.Name "isinstance" p) [a,.Name y py] [] pos) (tE (P.kt X) (bG (cz P.sub [d]) fa)):=by
 obtain ⟨ns,nG⟩:=BQ.mp UD
 obtain ⟨D,FD⟩:=O.cls d y ns hy nG
 have AV:starEach [Expr.Name y py] X.env=(false,eval (.Name y py) X.env)::starEach [] X.env:=rfl
 refine bf (gS D4 hg hm BW (bZ ha (bZ (oQ (v:=.ref D) hgt FD.gl rfl hd) eu AV) (aH hs)) (he:=aH hs) (hpl:=rfl)) fun σ H Q zz=>?_
 obtain ⟨g,s,t,s',x,h,k⟩:=zz
 obtain ⟨⟨tx,s1⟩,h1,h⟩:=af h
 obtain ⟨t',h2,h⟩:=af h
 cases h
 refine ⟨g,s,_,_,x,h1,fun v g1 H1 p1 x1 r1=>?_⟩
 have h2:=az h2
 cases tx<;>first | (cases h2;done) | skip
 obtain ⟨l,hl,rfl⟩:=cV.mp h2
 obtain ⟨a,C,dx,Gd,vs,rfl,hC,hq,hle,hdx,r⟩:=r1
 obtain ⟨m,hmm,adA,F⟩:=O.of hC
 refine ⟨_,D,_,_,rfl,.ins (x1.sub _ _ hq) F.cl F.ca O.gt.1 O.gt.2 F.mo,O.sub _ d m y C D l hmm hy F.gl FD.gl hl,?_⟩
 have:=k (V.bl (decide (d∈l))) g1 H1 p1 x1 (by show _=V.bl (([d]:List Nat).any fun d=>decide (d∈l));simp)
 exact this
abbrev iT (P:Pg) (K:bC) (Pr:Program) (w:World):KT:=⟨K,Pr,w,P.cn,P.fn⟩
def nP (B:KT) (f:Fn):Sp:=fun vs H Q _=>∃ g ts m t m',fW B g H m/\aC B g.al g.HF ts vs/\f ts m=.ok (t,m')/\∀ v g' H',dJ g H g' H'->fW B g' H' m'->Rep B g'.al g'.HF t v->Q v H'
structure DnF (P:Pg) (Pr:Program) (w:World) (K:bC) (mg:Str->Option Value) (base:Heap) (k:Nat) (x:Str) (ds:List T) (f:Fn):Prop where
 ex:∃ (fa:Addr) (fd:FuncData) (ps:List Str) (i6:List Value) (dV:List V),dc Pr w K mg base kG k fa fd ps (nP (iT P K Pr w) f)/\mg x=some (.ref fa)/\mH K (.ref fa)=true/\Binds K fd ps i6/\Vals dV i6/\∀ al H,aC (iT P K Pr w) al H ds dV
theorem jC {f:Fn}{ds:List T}{t:T}(h:ai f ds fl s=.ok (t,s')):∃ ts s1 m',fl s=.ok (ts,s1)/\f (ts++ds) s1.m=.ok (t,m')/\s'={ s1 with m:=m' }:=by
 obtain ⟨⟨ts,s1⟩,h1,h⟩:=af h
 dsimp only at h
 cases q:f (ts++ds) s1.m with
 | ok r=>rw [q] at h;cases h;exact ⟨ts,s1,r.2,h1,q,rfl⟩
 | bad=>rw [q] at h;cases h
 | exc c fs s2=>rw [q] at h;cases h
theorem rW {B:KT}{f:Fn}{ts:List T}{t:T}{m':List Ob}{vs:List V}{Q:VK}{E:XK}(x:SR B g H σ s) (r:aC B g.al g.HF ts vs) (h:f ts s.m=.ok (t,m')) (k:∀ v g' H',dJ g H g' H'->SR B g' H' σ { s with m:=m' }->Rep B g'.al g'.HF t v->Q v H'):nP B f vs H Q E:=
 ⟨g.aj,ts,s.m,t,m',x.st.aj,r,h,fun v g' H' p y rv=>let ⟨p2,x2⟩:=x.back p y;k v (G.back g g') H' p2 x2 rv⟩
theorem s_call {k j:Nat}{ds:List T}{f:Fn}(D:DnF P X.prog X.w X.K X.mg X.base k x ds f) (hr:bO j X.A) (rX:k<=j) (ha:PA X (e::es) (tA (P.kt X) fl)) (hg:Gl X x) (jQ:bQ x) (hs:(e::es).all noStar=true) :
  PE X (.Call (.Name x p) (e::es) [] pos) (tE (P.kt X) (ai f ds fl)):=by
 obtain ⟨ff,fd,ps,i6,dV,F,hm,hk,hb,hd,Ao⟩:=D.ex
 rw [ee,c6] at hs
 refine bf (oZ F (hr.mono rX) hg hm hk hb hd jk ha jQ (aH hs.1) (cY hs.2)) fun σ H Q zz=>?_
 obtain ⟨g,s,t,s',x,h,k⟩:=zz
 obtain ⟨ts,s1,m',h1,h2,rfl⟩:=jC h
 exact ⟨g,s,ts,s1,x,h1,fun vs g1 H1 p1 x1 r1=>rW x1 (r1.app (Ao _ _)) h2 fun v g' H' p2 x2 rv=>k v g' H' (p1.trans p2) x2 rv⟩
theorem JP {k j:Nat}{ds:List T}{f:Fn}(D:DnF P X.prog X.w X.K X.mg X.base k x ds f) (hr:bO j X.A) (rX:k<=j) (hg:Gl X x) (jQ:bQ x) :
  PE X (.Call (.Name x p) [] [] pos) (tE (P.kt X) (ai f ds b_)):=by
 obtain ⟨ff,fd,ps,i6,dV,F,hm,hk,hb,hd,Ao⟩:=D.ex
 refine bf (Cj F (hr.mono rX) hg hm hk hb hd jk jQ) fun σ H Q zz=>?_
 obtain ⟨g,s,t,s',x,h,k⟩:=zz
 obtain ⟨ts,s1,m',h1,h2,rfl⟩:=jC h
 cases h1
 exact rW (E:=E0) (vs:=[]++dV) x (Ao _ _) h2 fun v g' H' p2 x2 rv=>k v g' H' p2 x2 rv
structure DnM (P:Pg) (Pr:Program) (w:World) (K:bC) (mg:Str->Option Value) (base:Heap) (k:Nat) (c:Nat) (m:Str) (f:Fn):Prop where
 ex:∃ (C fa:Addr) (fd:FuncData) (ps:List Str) (ns:List Str),gE (iT P K Pr w) c C ns/\oX K C/\Meth K C m fa/\dc Pr w K mg base kG k fa fd ps (nP (iT P K Pr w) f)/\Binds K fd ps []/\m ∉ ns
theorem D5 {ι:Type}{t:ι->TE}{t':TE}{C:ι->Prop}(h:∀ i,C i->PE X e (t i)) (k:∀ σ H Q,t' σ H Q->∃ i,C i/\t i σ H Q):PE X e t':=fun aa s σ H Q I q=>by
 obtain ⟨i,hi,hq⟩:=k σ H Q q
 exact h i hi aa s σ H Q I hq
def D6 (X:Cx) (o:Expr) (m:Str) (cP:Pos) (es:List Expr) (pos:Pos):Prop:=∃ pl,eval (.Call (.Attribute o m cP) es [] pos) X.env=(do
   let ov <- eval o X.env
   standAt cP.atName
   let (f,first) <- holding [ov] (getMethod ov m pl)
   callWith pos f first (backTo pos (starEach es X.env)) (backToKw pos (keywordEach [] X.env)))
theorem rY {gm:Nat->Option Fn}{t:T}(h:aM gm fo fl s=.ok (t,s')):∃ tx s1 c f ts s2 m',fo s=.ok (tx,s1)/\((∃ k ob,tx=.own k/\s1.m[k]?=some ob/\ob.c=c)\/∃ fs,tx=.obj c fs)/\gm c=some f/\fl s1=.ok (ts,s2)/\f (tx::ts) s2.m=.ok (t,m')/\s'={ s2 with m:=m' }:=by
 obtain ⟨⟨tx,s1⟩,h1,h⟩:=af h
 cases tx<;>first | (cases h;done) | skip
 ·rename_i c fs
  obtain ⟨f,h2,h⟩:=af h
  obtain ⟨us,s2,m',h3,h4,rfl⟩:=jC h
  obtain ⟨⟨ts,s3⟩,h5,h6⟩:=af h3
  cases h6
  rw [dH] at h4
  exact ⟨_,s1,c,f,ts,_,m',h1,.inr ⟨fs,rfl⟩,az h2,h5,h4,rfl⟩
 ·rename_i kk
  obtain ⟨f,h2,h⟩:=af h
  obtain ⟨ob,h7,h8⟩:=e9.mp (az h2)
  obtain ⟨us,s2,m',h3,h4,rfl⟩:=jC h
  obtain ⟨⟨ts,s3⟩,h5,h6⟩:=af h3
  cases h6
  rw [dH] at h4
  exact ⟨_,s1,ob.c,f,ts,_,m',h1,.inl ⟨kk,ob,rfl,h7,rfl⟩,h8,h5,h4,rfl⟩
theorem D7 {B:KT}{C:Addr}{ns:List Str}{c:Nat}{tx:T}{v:V}(x:SR B g H σ s) (hC:gE B c C ns) (r:Rep B g.al g.HF tx v) (h:(∃ k ob,tx=.own k/\s.m[k]?=some ob/\ob.c=c)\/∃ fs,tx=.obj c fs):∃ a dx vs,v=.ref a/\H a=some (.ins C dx (ns.zip vs)):=by
 rcases h with ⟨k,ob,rfl,h1,rfl⟩ | ⟨fs,rfl⟩
 ·obtain ⟨a,rfl,ha⟩:=r
  rcases x.st.at_ k ob h1 with ⟨a',C',dx,Gd,vs,Z⟩ | ⟨a',vs,ts,Z⟩
  case inr=>
   obtain ⟨n,q,_⟩:=hC
   rw [Z.nc] at q;cases q
  have:=Z.al.symm.trans ha
  cases this
  obtain ⟨rfl,rfl⟩:=Z.cl.eq hC
  exact ⟨a,dx,vs,rfl,Z.h⟩
 ·obtain ⟨a,C',dx,Gd,vs,rfl,hC',hq,_⟩:=r
  obtain ⟨rfl,rfl⟩:=hC'.eq hC
  exact ⟨a,dx,vs,rfl,x.sub _ _ hq⟩
theorem Sa {m:Str}{k j:Nat}{gm:Nat->Option Fn}(D:∀ c f,gm c=some f->DnM P X.prog X.w X.K X.mg X.base k c m f) (hr:bO j X.A) (rX:k<=j) (ho:PE X o (tE (P.kt X) fo)) (ha:PA X (e::es) (tA (P.kt X) fl)) (hs:(e::es).all noStar=true) (mc:D6 X o m cP (e::es) pos) :
  PE X (.Call (.Attribute o m cP) (e::es) [] pos) (tE (P.kt X) (aM gm fo fl)):=by
 obtain ⟨pl,mc⟩:=mc
 rw [ee,c6] at hs
 refine D5 (ι:=Addr × Fn) (C:=fun i=>∃ c fa fd ps ns,gE (P.kt X) c i.1 ns/\gm c=some i.2/\oX X.K i.1/\Meth X.K i.1 m fa/\dc X.prog X.w X.K X.mg X.base kG k fa fd ps (nP (P.kt X) i.2)/\Binds X.K fd ps []/\m ∉ ns)
  (t:=fun i=>wM i.1 m (nP (P.kt X) i.2) [] E0 (tE (P.kt X) fo) (tA (P.kt X) fl)) (fun i ⟨c,fa,fd,ps,ns,hC,_,cl,M,F,hb,_⟩=>GW (pl:=pl) ho cl M F (hr.mono rX) hb .nil jk ha (aH hs.1) (cY hs.2) mc) ?_
 rintro σ H Q ⟨g,s,t,s',x,h,k⟩
 obtain ⟨tx,s1,c,f,ts,s2,m',h1,hc,hf,h3,h4,rfl⟩:=rY h
 obtain ⟨C,fa,fd,ps,ns,hC,cl,M,F,hb,hn⟩:=(D c f hf).ex
 refine ⟨(C,f),⟨c,fa,fd,ps,ns,hC,hf,cl,M,F,hb,hn⟩,g,s,_,s1,x,h1,fun v g1 H1 p1 x1 r1=>?_⟩
 obtain ⟨a,dx,vs,rfl,hi⟩:=D7 x1 hC r1 hc
 refine ⟨a,dx,_,rfl,hi,lL hn,g1,s1,ts,s2,x1,h3,fun us g2 H2 p2 x2 r2=>?_⟩
 show nP _ _ (V.ref a::(us++[])) H2 Q E0
 rw [dH]
 exact rW (ts:=tx::ts) x2 ⟨_,us,rfl,r1.mv p2.pre p2.fr,r2⟩ h4 fun v g' H' p3 x3 rv=>k v g' H' ((p1.trans p2).trans p3) x3 rv
theorem JQ {m:Str}{k j:Nat}{gm:Nat->Option Fn}(D:∀ c f,gm c=some f->DnM P X.prog X.w X.K X.mg X.base k c m f) (hr:bO j X.A) (rX:k<=j) (ho:PE X o (tE (P.kt X) fo)) (mc:D6 X o m cP [] pos) :
  PE X (.Call (.Attribute o m cP) [] [] pos) (tE (P.kt X) (aM gm fo b_)):=by
 obtain ⟨pl,mc⟩:=mc
 refine D5 (ι:=Addr × Fn) (C:=fun i=>∃ c fa fd ps ns,gE (P.kt X) c i.1 ns/\gm c=some i.2/\oX X.K i.1/\Meth X.K i.1 m fa/\dc X.prog X.w X.K X.mg X.base kG k fa fd ps (nP (P.kt X) i.2)/\Binds X.K fd ps []/\m ∉ ns)
  (t:=fun i=>wM i.1 m (nP (P.kt X) i.2) [] E0 (tE (P.kt X) fo) Ce) (fun i ⟨c,fa,fd,ps,ns,hC,_,cl,M,F,hb,_⟩=>Cm (pl:=pl) ho cl M F (hr.mono rX) hb .nil jk mc) ?_
 rintro σ H Q ⟨g,s,t,s',x,h,k⟩
 obtain ⟨tx,s1,c,f,ts,s2,m',h1,hc,hf,h3,h4,rfl⟩:=rY h
 cases h3
 obtain ⟨C,fa,fd,ps,ns,hC,cl,M,F,hb,hn⟩:=(D c f hf).ex
 refine ⟨(C,f),⟨c,fa,fd,ps,ns,hC,hf,cl,M,F,hb,hn⟩,g,s,_,s1,x,h1,fun v g1 H1 p1 x1 r1=>?_⟩
 obtain ⟨a,dx,vs,rfl,hi⟩:=D7 x1 hC r1 hc
 exact ⟨a,dx,_,rfl,hi,lL hn,rW (E:=E0) (ts:=[tx]) (vs:=[.ref a]) x1 (.one r1) h4 fun v g' H' p3 x3 rv=>k v g' H' (p1.trans p3) x3 rv⟩
def spI (C:Addr) (ns:List Str):Sp:=fun vs H Q _=>∃ x dx args,vs=.ref x::args/\args.length=ns.length/\H x=some (.ins C dx [])/\Q .non (upd H x (.ins C dx (ns.zip args)))
structure DnC (P:Pg) (Pr:Program) (w:World) (K:bC) (mg:Str->Option Value) (base:Heap) (k:Nat) (c n:Nat) (x:Str):Prop where
 ex:∃ (C fi:Addr) (fd:FuncData) (ps:List Str) (ns:List Str),gE (iT P K Pr w) c C ns/\ns.length=n/\mg x=some (.ref C)/\Mk K C fi/\dc Pr w K mg base kG k fi fd ps (spI C ns)/\Binds K fd ps []
theorem xu {B:KT}{c:Nat}{C x dx:Addr}{ns:List Str}{ts:List T}{vs:List V}(X1:SR B g H σ s) (hC:gE B c C ns) (hl:vs.length<=ns.length) (r:aC B g.al g.HF ts vs) (nx:H x=none) (nd:H dx=none) (iE:dx≠x) :
  ∃ gr:Gr g.HF H (upd (upd g.HF dx (.own x)) x (.ins C dx (ns.zip vs))) (upd (upd H dx (.own x)) x (.ins C dx (ns.zip vs))),Rep B g.al (upd (upd g.HF dx (.own x)) x (.ins C dx (ns.zip vs))) (.obj c ts) (.ref x):=by
 have g2:=Gr.new (o:=.own x) X1.sub nd
 have nx2:upd H dx (.own x) x=none:=by rw [au (Ne.symm iE)];exact nx
 have g3:=Gr.new (o:=.ins C dx (ns.zip vs)) g2.sub nx2
 exact ⟨g2.trans g3,x,C,dx,ns,vs,rfl,hC,aq,hl,by rw [au iE,aq],r.same (g2.fr.trans g3.fr)⟩
theorem aag {k j c n:Nat}(D:DnC P X.prog X.w X.K X.mg X.base k c n x) (hr:bO j X.A) (rX:k+1<=j) (ha:PA X (e::es) (tA (P.kt X) fl)) (hg:Gl X x) (jQ:bQ x) (hs:(e::es).all noStar=true) :
  PE X (.Call (.Name x p) (e::es) [] pos) (tE (P.kt X) (c8 c n fl)):=by
 obtain ⟨C,f,fd,ps,ns,hC,hn,hm,M,F,hb⟩:=D.ex
 rw [ee,c6] at hs
 refine bf (o8 M F (hr.mono rX) hg hm hb .nil jk ha jQ (aH hs.1) (cY hs.2)) fun σ H Q zz=>?_
 obtain ⟨g,s,t,s',x,h,k⟩:=zz
 obtain ⟨⟨ts,s1⟩,h1,h⟩:=af h
 dsimp only at h
 split at h
 ·rename_i hl
  cases h
  refine ⟨g,s,ts,_,x,h1,fun vs g1 H1 p1 x1 r1 x dx nx nd iE=>?_⟩
  have hvl:vs.length=ns.length:=by rw [<- r1.len,hl,hn]
  refine ⟨x,dx,vs++[],rfl,by rw [dH,hvl],aq,rfl,?_⟩
  rw [dH,wG]
  obtain ⟨gr,rp⟩:=xu (c:=c) (ts:=ts) x1 hC (by omega) r1 nx nd iE
  exact k _ (g1.grow _) _ (p1.trans (x1.mW gr)) (x1.grow gr) rp
 ·cases h
section
structure Mk0 (K:bC) (C:Addr):Prop where
 makes:A3 K C=true
 init:fH K (.ref C) "__init__" = some (some (.builtin "object.__init__"))
 kp:mH K (.ref C)=true
def adB (C:Addr):TE:=fun _ H Q=>∀ x dx,H x=none->H dx=none->dx≠x->Q (.ref x) (upd (upd H dx (.own x)) x (.ins C dx []))
open PySem.W in
theorem Sb {C:Addr}(M:Mk0 X.K C) (hg:Gl X x) (hm:X.mg x=some (.ref C)) (jQ:bQ x:=by decide):PE X (.Call (.Name x p) [] [] pos) (adB C):=by
 intro aa s σ H Q I h
 refine wpAny_Call_Name_kw (jc I hg hm ?_ jQ)
 refine A9 I.ja M.kp ?_
 have hq:=h (s.heap.objs.size+1) s.heap.objs.size (I.bW.fresh (Nat.le_succ _)) (I.bW.fresh (dS _)) (dU (yI _))
 have I2:=Inv.made (C:=C) I
 have KX:=I.ja
 obtain ⟨hh,g,d,t,os⟩:=s
 refine wpAny_call ?_
 have Y:=makes_of (M:=model X.prog X.w) KX M.makes
 refine make_core Y (looks_findIn KX M.init) (fun self=>Looks.of_pure (oi_bind self)) (.inr ⟨rfl,rfl⟩) ?_
 have hz:(hh.push emptyDict).objs.size=hh.objs.size+1:=Heap.size_push ..
 have gt:((hh.push emptyDict).push (instObj C hh.objs.size)).get? (hh.objs.size+1)=some (instObj C hh.objs.size):=by
  rw [<- hz]
  exact Heap.get?_push_size _ rfl
 have t1:Looks (model X.prog X.w) ((hh.push emptyDict).push (instObj C hh.objs.size)) (typeOf (.ref (hh.objs.size+1))) (.ref C):=(Looks.ld gt).andThen .now
 have t2:Looks (model X.prog X.w) ((hh.push emptyDict).push (instObj C hh.objs.size)) (isInstance (.ref (hh.objs.size+1)) (.type "object")) true:=t1.andThen (Y.top.keeps fun b o e=>Heap.get?_push_of_some _ (Heap.get?_push_of_some _ e))
 refine codeAny_call_builtin oi_plain entry_oi (@check_slot (model X.prog X.w) _ _ _ "object.__init__" "object" "__init__" (.ref (hh.objs.size+1)) [] [] _ oi_kind oi_split t2 (oi_args (.ref (hh.objs.size+1))) ?_)
 show wpAny _ _ (Builtin.«object.__init__» ⟨[Value.ref (hh.objs.size+1)],[]⟩) _ _ _
 rw [oi_run]
 exact wpAny_pure (And.intro rfl ⟨V.ref (hh.objs.size+1),_,I2,rfl,hq⟩)
end
structure aah (P:Pg) (Pr:Program) (w:World) (K:bC) (mg:Str->Option Value) (c:Nat) (x:Str):Prop where
 ex:∃ (C:Addr) (ns:List Str),gE (iT P K Pr w) c C ns/\mg x=some (.ref C)/\Mk0 K C
theorem Sd {c:Nat}(D:aah P X.prog X.w X.K X.mg c x) (hg:Gl X x) (jQ:bQ x):PE X (.Call (.Name x p) [] [] pos) (tE (P.kt X) (c8 c 0 b_)):=by
 obtain ⟨C,ns,hC,hm,M⟩:=D.ex
 refine bf (Sb M hg hm jQ) fun σ H Q zz=>?_
 obtain ⟨g,s,t,s',z,h,k⟩:=zz
 cases h
 intro x dx nx nd iE
 obtain ⟨gr,rp⟩:=xu (c:=c) (ts:=[]) (vs:=[]) z hC (gD _) rfl nx nd iE
 have e:ns.zip ([]:List V)=[]:=Lw
 have:=k _ (g.grow _) _ (z.mW gr) (z.grow gr) rp
 rw [e] at this
 exact this
section
structure Walk (B:KT) (al:List Addr) (J:It) (HF:Hp) (ts:List T):Prop where
 go:∀ i H,aN HF H->i<ts.length->J.go i H
 yld:∀ i H x H',aN HF H->i<ts.length->J.yld i H x H'->∃ t,ts[i]?=some t/\∀ vN,aN HF vN->aN vN H->∃ Se,Gr vN H Se H'/\Rep B al Se t x
 stop:∀ i H,aN HF H->i=ts.length->J.stop i H
theorem Aq {B:KT}{al:List Addr}{HF:Hp}{l:Addr}{ts:List T}{vs:List V}(h:HF l=some (.lst vs)) (r:aC B al HF ts vs):Walk B al (Itl B.K l) HF ts:=by
 refine ⟨fun i H sm hi=>?_,fun i H x H' sm hi y=>?_,fun i H sm hi=>⟨vs,du.of (sm _ _ h),by rw [hi,r.len];exact dS _⟩⟩
 ·obtain ⟨v,e,_⟩:=r.get (dR hi)
  exact ⟨vs,v,du.of (sm _ _ h),e⟩
 ·obtain ⟨rfl,y⟩:=y
  have e:=y vs (du.of (sm _ _ h))
  obtain ⟨t,e1,e2⟩:=r.Ak e
  exact ⟨t,e1,fun vN s1 s2=>⟨vN,.refl s2,e2.same s1⟩⟩
theorem D8 {B:KT}{al:List Addr}{HF:Hp}{l:Addr}{ts:List T}{vs:List V}(h:j_ B.K HF l vs) (r:aC B al HF ts vs):Walk B al (Itt B.K l) HF ts:=by
 refine ⟨fun i H sm hi=>?_,fun i H x H' sm hi y=>?_,fun i H sm hi=>⟨vs,bU sm h,by rw [hi,r.len];exact dS _⟩⟩
 ·obtain ⟨v,e,_⟩:=r.get (dR hi)
  exact ⟨vs,v,bU sm h,e⟩
 ·obtain ⟨rfl,y⟩:=y
  have e:=y vs (bU sm h)
  obtain ⟨t,e1,e2⟩:=r.Ak e
  exact ⟨t,e1,fun vN s1 s2=>⟨vN,.refl s2,e2.same s1⟩⟩
theorem rZ {B:KT}{al:List Addr}{J:It}{src:List V}{ts:List T}{HF:Hp}(d:Det J src (fun _=>True)) (r:aC B al HF ts src):Walk B al J HF ts:=by
 refine ⟨fun i H sm hi=>d.go i H trivial (by rw [<- r.len];exact hi),fun i H x H' sm hi y=>?_,fun i H sm hi=>d.stop i H trivial (by rw [<- r.len];exact hi)⟩
 obtain ⟨rfl,e⟩:=d.yld i H x H' trivial (by rw [<- r.len];exact hi) y
 obtain ⟨t,e1,e2⟩:=r.Ak e
 exact ⟨t,e1,fun vN s1 s2=>⟨vN,.refl s2,e2.same s1⟩⟩
theorem aC.mF {B:KT}{al:List Addr}{H:Hp}(lo:Int) (n:Nat):aC B al H (D.mF lo n) ((gM n).map fun k=>V.int (lo+(k:Nat))):=by
 have e1:D.mF lo n=((gM n).map fun k=>lo+((k:Nat):Int)).map T.int:=by unfold D.mF;rw [kB];rfl
 have e2:((gM n).map fun k=>V.int (lo+(k:Nat)))=((gM n).map fun k=>lo+((k:Nat):Int)).map V.int:=by rw [kB];rfl
 rw [e1,e2]
 exact aC.ints _
structure Sets (B:KT) (al:List Addr) (HF:Hp) (S:List Nat) (σ σ':St) (ρ ρ':List (Option C)):Prop where
 len:σ'.length=σ.length
 lenR:ρ'.length=ρ.length
 off:∀ (i:Nat),i ∉ S->σ'[i]?=σ[i]?/\ρ'[i]?=ρ[i]?
 on:∀ (i:Nat),i∈S->i<ρ.length->∃ (t:T) (v:V),ρ'[i]?=some (some (.val t))/\σ'[i]?=some (some v)/\Rep B al HF t v
structure pL (B:KT) (g:TG) (fg:FG) (S:List Nat):Prop where
 ok:∀ (al:List Addr) (HF H:Hp) (σ:St) (ρ:List (Option C)) (t:T) (v:V) (ρ':List (Option C)) (Q:St->Hp->Prop),aN HF H->Rep B al HF t v->fg t ρ=some ρ'->ρ.length=σ.length->(∀ σ',Sets B al HF S σ σ' ρ ρ'->Q σ' H)->g v σ H Q
theorem Sets.one {B:KT}{al:List Addr}{HF:Hp}{i:Nat}{σ:St}{ρ:List (Option C)}{t:T}{v:V}(hl:ρ.length=σ.length) (r:Rep B al HF t v):Sets B al HF [i] σ (σ.set i (some v)) ρ (ρ.set i (some (.val t))):=by
 refine ⟨gC,gC,fun j hj=>?_,fun j hj fL=>?_⟩
 ·have:i≠j:=fun e=>hj (by simp [e])
  rw [iH this,iH this];exact ⟨rfl,rfl⟩
 ·have:j=i:=by simpa using hj
  subst this
  exact ⟨t,v,by rw [gB fL],by rw [gB (by omega)],r⟩
theorem xw {B:KT}(i:Nat):pL B (wL i) (setG i) [i]:=⟨fun al HF H σ ρ t v ρ' Q sm r h hl q=>by
 cases h
 exact q _ (.one hl r)⟩
theorem Sets.cons {B:KT}{al:List Addr}{HF:Hp}{i:Nat}{S:List Nat}{σ σ':St}{ρ ρ':List (Option C)}{t:T}{v:V}(hl:ρ.length=σ.length) (r:Rep B al HF t v) (h:Sets B al HF S (σ.set i (some v)) σ' (ρ.set i (some (.val t))) ρ'):Sets B al HF (i::S) σ σ' ρ ρ':=by
 have o:=Sets.one (B:=B) (al:=al) (i:=i) hl r
 refine ⟨h.len.trans o.len,h.lenR.trans o.lenR,fun j hj=>?_,fun j hj fL=>?_⟩
 ·obtain ⟨h1,h2⟩:=h.off j (fun z=>hj (by simp [z]))
  obtain ⟨h3,h4⟩:=o.off j (fun z=>hj (by simp at z;simp [z]))
  exact ⟨h1.trans h3,h2.trans h4⟩
 ·by_cases hs:j∈S
  ·exact h.on j hs (by rw [gC];exact fL)
  ·obtain ⟨h1,h2⟩:=h.off j hs
   obtain ⟨t',v',a,b,c⟩:=o.on j (by rcases cA.mp hj with z | z;exact (by simp [z]);exact absurd z hs) fL
   exact ⟨t',v',h2.trans a,h1.trans b,c⟩
def lM:List Nat->Ma
 | []=>UR
 | i::is=>Mb (wL i) (lM is)
theorem nQ {B:KT}{al:List Addr}:∀ (is:List Nat) (HF H:Hp) (σ:St) (ρ:List (Option C)) (ts:List T) (vs:List V) (ρ':List (Option C)) (Q:St->Hp->Prop),aN HF H->aC B al HF ts vs->nJ is ts ρ=some ρ'->ρ.length=σ.length->(∀ σ',Sets B al HF is σ σ' ρ ρ'->Q σ' H)->lM is vs σ H Q
 | [],HF,H,σ,ρ,ts,vs,ρ',Q,sm,r,h,hl,q=>by
  cases ts with
  | cons t ts=>cases h
  | nil=>
   cases h
   cases (show vs=[] from r)
   exact ⟨rfl,q _ ⟨rfl,rfl,fun _ _=>⟨rfl,rfl⟩,fun i hi=>by cases hi⟩⟩
 | i::is,HF,H,σ,ρ,ts,vs,ρ',Q,sm,r,h,hl,q=>by
  cases ts with
  | nil=>cases h
  | cons t ts=>
   obtain ⟨v,eA,rfl,r1,r2⟩:=r
   refine ⟨v,eA,rfl,?_⟩
   exact nQ is HF H _ _ ts eA ρ' Q sm r2 h (by rw [gC,gC];exact hl) fun σ' s=>q σ' (.cons hl r1 s)
theorem D9 {B:KT}(is:List Nat) {n:Nat}(hn:is.length=n:=by rfl):pL B (Oj B.K n (lM is)) (eG is) is:=⟨fun al HF H σ ρ t v ρ' Q sm r h hl q=>by
 cases t<;>first | (cases h;done) | skip
 ·rename_i ts
  obtain ⟨a,vs,rfl,q1,r⟩:=r
  have cW:∀ (is:List Nat) (ts:List T) (ρ:List (Option C)),nJ is ts ρ=some ρ'->is.length=ts.length:=by
   intro is
   induction is with
   | nil=>intro ts ρ h;cases ts with
    | nil=>rfl
    | cons=>cases h
   | cons i is ih=>intro ts ρ h;cases ts with
    | nil=>cases h
    | cons t ts=>simp [ih ts _ h]
  exact ⟨a,vs,rfl,bU sm q1,by rw [<- r.len,<- cW _ _ _ h,hn],nQ is HF H σ ρ ts vs ρ' Q sm r h hl q⟩
⟩
theorem Walk.mv {al al':List Addr}{J:It}{HF eM:Hp}{ts:List T}(w:Walk B al J HF ts) (p:al <+: al') (s:aN HF eM):Walk B al' J eM ts:=
 ⟨fun i H h=>w.go i H (s.trans h),fun i H x H' h hi y=>let ⟨t,h1,h2⟩:=w.yld i H x H' (s.trans h) hi y;⟨t,h1,fun vN s1 s2=>let ⟨Se,gr,r⟩:=h2 vN (s.trans s1) s2;⟨Se,gr,r.mv p (aN.refl _)⟩⟩,fun i H h=>w.stop i H (s.trans h)⟩
def tI (B:KT) (f:FL):TI:=fun σ H R=>∃ g s ts s',SR B g H σ s/\f s=.ok (ts,s')/\∀ J g' H',dJ g H g' H'->SR B g' H' σ s'->Walk B g'.al J g'.HF ts->R J H'
theorem xx:PI X tg e (tI B iB):=fun _ _ _ _ _ _ ⟨_,_,_,_,_,h,_⟩=>by cases h
theorem Ng {t t':TI}(h:PI X tg e t) (h':PI X tg e t'):PI X tg e (fun σ H R=>t σ H R\/t' σ H R):=fun aa s σ H R I q=>by
 rcases q with q | q
 ·exact h aa s σ H R I q
 ·exact h' aa s σ H R I q
def Sf:T->Bool
 | .str _=>false
 | _=>true
def Sh:T->Option (List T)
 | .str _=>none
 | t=>itD t
def JR (a:FE):FL:=fun s=>(a s).bind fun p=>(cK (Sh p.1)).bind fun ts=>.ok (ts,p.2)
theorem Ar {al:List Addr}{HF:Hp}{a:Addr}{ns:List Int}(h:du B.K HF a (ns.map V.int)):Walk B al (Itl B.K a) HF (ns.map T.int):=by
 refine ⟨fun i H sm hi=>?_,fun i H x H' sm hi y=>?_,fun i H sm hi=>⟨_,sm.seq h,by rw [hi,cT,cT];exact dS _⟩⟩
 ·rw [cT] at hi
  exact ⟨_,.int ns[i],sm.seq h,by rw [gb,dR hi];rfl⟩
 ·rw [cT] at hi
  obtain ⟨rfl,y⟩:=y
  have e:=y _ (sm.seq h)
  obtain ⟨t,e1,e2⟩:=(aC.ints (B:=B) (al:=al) (H:=HF) ns).Ak e
  exact ⟨t,e1,fun vN s1 s2=>⟨vN,.refl s2,e2.same s1⟩⟩
theorem Nh (hB:B.K=X.K) (ha:PE X e (tE B fa)):PI X tg e (tI B (JR fa)):=by
 refine rN (Ng (GP ha) (Ou ha)) fun σ H R zz=>?_
 obtain ⟨g,s,t,s',x,h,k⟩:=zz
 obtain ⟨⟨tx,s1⟩,h1,h⟩:=af h
 obtain ⟨ts,h2,h⟩:=af h
 cases h
 have h2:=az h2
 have hB':=hB.symm
 cases tx<;>first | (cases h2;done) | skip
 ·cases h2
  refine .inr ⟨g,s,_,_,x,h1,fun v g1 H1 p1 x1 r1=>?_⟩
  obtain ⟨l,vs,rfl,q,r⟩:=r1
  refine ⟨l,rfl,⟨vs,hB ▸ bU x1.sub q⟩,?_⟩
  rw [hB']
  exact k _ g1 H1 p1 x1 (D8 q r)
 ·cases h2
  refine .inl ⟨g,s,_,_,x,h1,fun v g1 H1 p1 x1 r1=>?_⟩
  obtain ⟨l,vs,rfl,q,r⟩:=r1
  refine ⟨l,rfl,⟨vs,du.of (x1.sub _ _ q)⟩,?_⟩
  rw [hB']
  exact k _ g1 H1 p1 x1 (Aq q r)
 ·cases h2
  refine .inl ⟨g,s,_,_,x,h1,fun v g1 H1 p1 x1 r1=>?_⟩
  obtain ⟨l,rfl,q⟩:=r1
  refine ⟨l,rfl,⟨_,hB ▸ x1.sub.seq q⟩,?_⟩
  rw [hB']
  exact k _ g1 H1 p1 x1 (Ar q)
theorem aai (hB:B.K=X.K) {px:Pos}(ha:PE X e (tE B fa)):PI X (.Name x px) e (tI B (gZ fa)):=by
 refine rN (Ng (Nh hB ha) (OT ha)) fun σ H R zz=>?_
 obtain ⟨g,s,t,s',z,h,k⟩:=zz
 obtain ⟨⟨tx,s1⟩,h1,h⟩:=af h
 obtain ⟨ts,h2,h⟩:=af h
 cases h
 by_cases hs:Sf tx=true
 ·refine .inl ⟨g,s,t,_,z,?_,k⟩
  unfold JR
  rw [h1]
  show (cK (Sh tx)).bind _=_
  have e:Sh tx=itD tx:=by cases tx<;>first | rfl | (cases hs)
  rw [e,h2];rfl
 ·cases tx<;>first | (exact absurd rfl hs) | skip
  have h2:=az h2
  cases h2
  refine .inr ⟨g,s,_,_,z,h1,fun v g1 H1 p1 x1 r1=>?_⟩
  obtain ⟨rfl,hz⟩:=r1
  exact ⟨_,rfl,k _ g1 H1 p1 x1 (rZ (Ha _) (aC.signs _))⟩
theorem D_ (hg:Gl X "range") (hm:X.mg "range" = none) (ha:PE X a (tE B fa)) (hs:noStar a=true):PI X tg (.Call (.Name "range" p) [a] [] pos) (tI B (wZ mV (dY fa b_))):=by
 have h0:starEach [a] X.env=[(false,eval a X.env)]:=aH hs
 refine rN (yN hg hm (bZ ha eu h0) h0) fun σ H R zz=>?_
 obtain ⟨g,s,t,s',x,h,k⟩:=zz
 obtain ⟨⟨ts,s1⟩,h1,h⟩:=af h
 obtain ⟨us,h2,h⟩:=af h
 cases h
 obtain ⟨⟨tx,s2⟩,h3,h1⟩:=af h1
 cases h1
 have h2:=az h2
 cases tx<;>first | (cases h2;done) | skip
 obtain ⟨z,rfl⟩:=bI h2
 refine ⟨g,s,_,_,x,h3,fun v g1 H1 p1 x1 r1=>?_⟩
 cases r1
 exact ⟨_,rfl,by omega,by omega,k _ g1 H1 p1 x1 (rZ (y9 0 _) (aC.mF 0 _))⟩
theorem lE.sets {al:List Addr}{S':List Nat}{σ':St}{r r':List (Option C)}(x:lE B g H σ r) (hal:al=g.al) (t:Sets B al g.HF S' σ σ' r r'):lE B g H σ' r':=by
 subst hal
 refine ⟨by rw [t.lenR,t.len];exact x.len,fun i c h=>?_⟩
 by_cases hi:i∈S'
 ·have fL:i<r.length:=by rw [<- t.lenR];exact (cU.mp h).1
  obtain ⟨u,v,h1,h2,h3⟩:=t.on i hi fL
  rw [h] at h1;cases h1
  exact ⟨v,h2,h3⟩
 ·obtain ⟨h1,h2⟩:=t.off i hi
  rw [h2] at h
  obtain ⟨v,h3,h4⟩:=x.at_ i c h
  exact ⟨v,h1.trans h3,h4⟩
end
theorem vO {B:KT}{al:List Addr}{HF:Hp}{S:List Nat}{σ':St}{ρ ρ':List (Option C)}{k:Nat}{js:List Nat}{σ:St}(hS:∀ i∈S,i<k) (s:Sets B al HF S (cy k js σ) σ' ρ ρ'):cL (cy k js σ) σ':=by
 have gen:∀ (a b:St),a.length=b.length->(∀ (i:Nat) (v:V),a[i]?=some (some v)->b[i]?=some (some v))->cL a b:=by
  intro a
  induction a with
  | nil=>intro b hl _;cases b with
   | nil=>trivial
   | cons=>cases hl
  | cons x a ih=>intro b hl h;cases b with
   | nil=>cases hl
   | cons y b=>
    have hr:=ih b (by simpa using hl) fun i v e=>by simpa using h (i+1) v (by simpa using e)
    cases x with
    | none=>exact hr
    | some v=>
     have:=h 0 v rfl
     simp at this
     subst this
     exact ⟨rfl,hr⟩
 refine gen _ _ s.len.symm fun i v e=>?_
 by_cases hi:i∈S
 ·have hk:=hS i hi
  unfold cy at e
  rw [iI (by rw [yF];exact hk),Bd,if_pos hk] at e
  cases e
 ·rw [(s.off i hi).1];exact e
section
variable {scope:Scope}{ls fs:List Str}{js S':List Nat}{iter elt:Expr}{ifs:List Expr}{gt:TG}{uh:FL}{fg:FG}{ft:FT}{fe:FE}
theorem SR.jo:∀ (js:List Nat) {g:G}{s:S},SR B g H σ s->∃ g',dJ g H g' H/\SR B g' H σ { s with r:=jo js s.r }
 | [],g,s,x=>⟨g,.refl,x⟩
 | j::js,g,s,x=>by
  show ∃ g',dJ g H g' H/\SR B g' H σ { s with r:=D.jo js (Jx s.r j) }
  have one:∃ g1,dJ g H g1 H/\SR B g1 H σ { s with r:=Jx s.r j }:=by
   unfold Jx
   split
   ·rename_i ts h
    obtain ⟨g1,v,p,y,_⟩:=x.jM h
    exact ⟨g1,p,y⟩
   ·exact ⟨g,.refl,x⟩
  obtain ⟨g1,p1,x1⟩:=one
  obtain ⟨g2,p2,x2⟩:=SR.jo js x1
  exact ⟨g2,p1.trans p2,x2⟩
theorem lE.block {r:List (Option C)}(x:lE B g H σ r) (k:Nat) (js:List Nat):lE B g.aj H (cy k js σ) (iP k js r):=by
 refine ⟨by unfold iP cy;simp,fun i c h=>?_⟩
 unfold iP at h
 unfold cy
 by_cases hi:i<k
 ·rw [iI (by simpa using hi),Bd,if_pos hi] at h
  cases h
 ·rw [fJ (by simpa using hi),yF,gb] at h
  rw [fJ (by simpa using hi),yF,gb]
  cases hj:js[i-k]? with
  | none=>rw [hj] at h;cases h
  | some j=>
   rw [hj] at h
   have h:(match r[j]? with | some (some (.val t))=>some (C.val t) | _=>none)=some c:=by injection h
   split at h
   ·rename_i t hr
    cases h
    obtain ⟨v,h1,h2⟩:=x.at_ j _ hr
    exact ⟨v,by show some ((σ[j]?).join)=_;rw [h1];rfl,h2⟩
   ·cases h
theorem SR.Si {D:Addr}{u:HO}(x:SR B g H σ s) (hf:g.HF D=none) (ho:g.o D=none) (hl:∃ w,H D=some w):SR B g (upd H D u) σ s:=by
 have ne:∀ b p,g.o b=some p->b≠D:=fun b p e z=>by rw [z,ho] at e;cases e
 refine ⟨x.st.mv (fun b w e=>?_) (fun b p e=>?_) (aN.refl _) rfl fun l p h _=>⟨h,au (ne l p h)⟩,x.lc.len,fun i c e=>?_⟩
 ·have:b≠D:=fun z=>by rw [z,hf] at e;cases e
  rw [au this];exact x.sub _ _ e
 ·obtain ⟨h1,w,h2⟩:=x.st.live b p e
  exact ⟨h1,w,by rw [au (ne b p e)];exact h2⟩
 ·obtain ⟨v,h1,h2⟩:=x.lc.at_ i c e
  exact ⟨v,h1,bB.mv (g:=g) (g':=g) (aN.refl _) dC (fun l h=>⟨h,au (ne l _ h)⟩) h2⟩
theorem dJ.Si {D:Addr}{u:HO}{g1:G}{H1:Hp}(p:dJ g H g1 H1) (h0:H D=none):dJ g H g1 (upd H1 D u):=
 ⟨p.fr,p.pre,fun b w h n z=>by
  have:b≠D:=aO h h0
  rw [au this];exact p.rest b w h n z,fun b h=>by
  by_cases hb:b=D
  ·subst hb;exact h0
  ·rw [au hb] at h;exact p.there b h⟩
theorem aaj:F_ X [] (tT B dg):=fun aa s σ H Q I z=>by
 obtain ⟨g,st,t,s',x,h,k⟩:=z
 cases h
 exact G7 aa s σ H Q I (k g H .refl x)
theorem aak {c:Expr}(h:PT X c (tT B ft)):F_ X [c] (tT B ft):=G8 h
theorem vP {k:Nat}(Ge:pL B gt fg S') (hS:∀ i∈S',i<k):∀ σ H Q,tO B (bj uh k js fg ft fe) σ H Q->tComp (tI B uh) k js gt (tT B ft) (tE B fe) σ H Q:=by
 rintro σ H Q ⟨g,s,ys,s',x,h,kk⟩
 obtain ⟨⟨xs,s1⟩,h1,h⟩:=af h
 dsimp only at h
 split at h
 case isFalse=>cases h
 rename_i hz
 obtain ⟨⟨rs,mm⟩,h2,h⟩:=af h
 cases h
 unfold tComp
 refine ⟨g,s,xs,s1,x,h1,fun J g1 H1 p1 x1 wk D hD=>?_⟩
 obtain ⟨g2,p2,x2⟩:=x1.jo js
 have wk:=wk.mv p2.pre p2.fr
 obtain ⟨b,hb⟩:∃ b,b=iP k js (_root_.D.jo js s1.r):=⟨_,rfl⟩
 rw [<- hb] at h2
 have p12:=p1.trans p2
 have hD0:H D=none:=p12.there D hD
 have nD:∀ {gg:G} {ss:S},SR B gg H1 σ ss->gg.HF D=none/\gg.o D=none:=fun {gg ss} x=>⟨x.sub.free hD,by
  cases q:gg.o D with
  | none=>rfl
  | some p=>obtain ⟨_,u,z⟩:=x.st.live D p q;rw [hD] at z;cases z⟩
 obtain ⟨f2,o2⟩:=nD x2
 obtain ⟨gr0,_,_⟩:=Dy (u:=.lst []) x2 hD
 refine ⟨fun i m zs H2=>m=xs.length-i/\i<=xs.length/\∃ g3 m3 done rest,dJ g2 H1 g3 H2/\SR B g3 H2 σ ⟨_root_.D.jo js s1.r,m3⟩/\g3.HF D=none/\g3.o D=none/\H2 D=some (.lst zs)/\aC B g3.al g3.HF done zs/\done.length<=i/\cC fg ft fe b (xs.drop i) m3=.ok (rest,mm)/\rs=done++rest,
  ⟨xs.length,by simp,gD _,g2.grow g2.HF,s1.m,[],rs,x2.mW gr0,x2.grow gr0,f2,o2,aq,rfl,dS _,by rw [Bf];exact h2,rfl⟩,?_⟩
 rintro i m zs H2 ⟨rfl,hi,g3,m3,done,rest,p3,x3,f3,o3,hl,rd,hdn,hr,rfl⟩
 by_cases fL:i<xs.length
 ·have sm3:=p3.fr.trans x3.sub
  refine .inr ⟨wk.go i H2 sm3 fL,fun v H3 y=>?_⟩
  obtain ⟨t,ht,y2⟩:=wk.yld i H2 v H3 sm3 fL y
  obtain ⟨HF4,Sj,rx⟩:=y2 g3.HF p3.fr x3.sub
  have aal:xs.drop i=t::xs.drop (i+1):=by
   obtain ⟨hh,e⟩:=cU.mp ht
   rw [Br hh,e]
  rw [aal] at hr
  obtain ⟨b1,q1,hr⟩:=af hr
  obtain ⟨⟨c,s5⟩,q2,hr⟩:=af hr
  have x4:=x3.grow Sj
  have p4:=p3.trans (x3.mW Sj)
  obtain ⟨hl4,f4⟩:=Sj.rest D _ hl f3
  have eb:=x4.lc.block k js
  rw [<- hb] at eb
  refine Ge.ok g3.al HF4 H3 _ _ t v b1 _ x4.sub (rx.mv p3.pre (aN.refl _)) (az q1) eb.len fun σ5 GQ=>⟨vO hS GQ,?_⟩
  have xb:SR B (g3.grow HF4).aj H3 σ5 ⟨b1,m3⟩:=⟨x4.st.aj,eb.sets rfl GQ⟩
  refine ⟨(g3.grow HF4).aj,⟨b1,m3⟩,c,s5,xb,q2,fun g6 H6 p6 x6=>?_⟩
  cases c with
  | true=>
   obtain ⟨⟨y',s7⟩,q3,hr⟩:=af hr
   obtain ⟨⟨ys',m8⟩,q4,hr⟩:=af hr
   cases hr
   refine qP ⟨g6,s5,y',s7,x6,q3,fun v7 g7 H7 p7 x7 r7=>?_⟩
   obtain ⟨pB,xB⟩:=x4.back (p6.trans p7) x7.st
   have p8:=p4.trans pB
   obtain ⟨hl7,f7,o7⟩:=(x3.mW Sj |>.trans pB).rest D _ hl f3 o3
   have hzl:zs.length<sizeLine:=by rw [<- rd.len,sizeLine_eq];omega
   refine ⟨hl7,hzl,xs.length-(i+1),by omega,rfl,fL,G.back (g3.grow HF4) g7,s7.m,done++[y'],ys',p8.Si hD,xB.Si f7 o7 ⟨_,hl7⟩,f7,o7,aq,?_,by simp;omega,q4,by simp⟩
   have st:=(x3.mW Sj).trans pB
   exact (rd.mv st.pre st.fr).app (.one r7)
  | false=>
   obtain ⟨pB,xB⟩:=x4.back p6 x6.st
   obtain ⟨hl7,f7,o7⟩:=(x3.mW Sj |>.trans pB).rest D _ hl f3 o3
   have st:=(x3.mW Sj).trans pB
   exact qO ⟨xs.length-(i+1),by omega,rfl,fL,G.back (g3.grow HF4) g6,s5.m,done,rest,p4.trans pB,xB,f7,o7,hl7,rd.mv st.pre st.fr,by omega,hr,rfl⟩
 ·have e:i=xs.length:=by omega
  subst e
  rw [Lx] at hr
  cases hr
  rw [dH] at kk
  exact .inl ⟨wk.stop _ H2 (p3.fr.trans x3.sub) rfl,kk D zs g3 H2 (p12.trans p3) x3 hD0 f3 o3 hl rd⟩
theorem Sk (ls:List Str) (hc:X.calm=true) (Sc:fq X scope) (F:eS X scope js fs) (hi:PI X tg iter (tI B uh)) (hg:∀ cl C fp s H,PG (X.block (ls++fs) scope cl C fp s H) tg gt) (Ge:pL B gt fg S')
  (ht:∀ cl C fp s H,F_ (X.block (ls++fs) scope cl C fp s H) ifs (tT B ft)) (he:∀ cl C fp s H,PE (X.block (ls++fs) scope cl C fp s H) elt (tE B fe))
  (hS:∀ i∈S',i<ls.length) (hs:∀ x,foldedSetIterable iter X.env x=pure x):PE X (.ListComp elt [⟨tg,iter,ifs,0⟩] scope pos) (tO B (bj uh ls.length js fg ft fe)):=
 bf (G9 ls hc Sc F hi hg ht he hs) (vP Ge hS)
end
def Ea (B:KT) (g:G) (H:Hp) (D:Ends):Out->S->Prop
 | .nx,s'=>∀ σ' g' H',dJ g H g' H'->SR B g' H' σ' s'->D.nx σ' H'
 | .rt t,s'=>∀ v g' H',dJ g H g' H'->fW B g' H' s'.m->Rep B g'.al g'.HF t v->D.rt v H'
 | .bk,s'=>∀ σ' g' H',dJ g H g' H'->SR B g' H' σ' s'->D.bk σ' H'
 | .ct,s'=>∀ σ' g' H',dJ g H g' H'->SR B g' H' σ' s'->D.ct σ' H'
def tS (B:KT) (f:FS):TS:=fun D σ H=>∃ g s o s',SR B g H σ s/\f s=.ok (o,s')/\Ea B g H D o s'
section
variable {bR OS:Pos}{ft:FT}{H1:Hp}{g1:G}{F Gf:FS}{st:Stmt}{rest Sl:List Stmt}{i:Nat}
theorem Ea.mv {D:Ends}{o:Out}(k:Ea B g H D o s') (p:dJ g H g1 H1):Ea B g1 H1 D o s':=by
 cases o with
 | nx=>exact fun σ' g' H' q x=>k σ' g' H' (p.trans q) x
 | rt t=>exact fun v g' H' q x r=>k v g' H' (p.trans q) x r
 | bk=>exact fun σ' g' H' q x=>k σ' g' H' (p.trans q) x
 | ct=>exact fun σ' g' H' q x=>k σ' g' H' (p.trans q) x
theorem aam:jb X Sl (tS B bM):=fun _ _ _ _ _ _ ⟨_,_,_,_,_,h,_⟩=>by cases h
theorem bN:PS X st (tS B bM):=fun _ _ _ _ _ _ ⟨_,_,_,_,_,h,_⟩=>by cases h
theorem aan:jb X [] (tS B ao):=DB wJ fun D σ H z=>by
 obtain ⟨g,s,o,s',x,h,k⟩:=z
 cases h
 exact k σ g H .refl x
theorem Sn (h1:PS X st (tS B F)) (h2:jb X rest (tS B Gf)):jb X (st::rest) (tS B (ah F Gf)):=DB (qI h1 h2) fun D σ H z=>by
 obtain ⟨g,s,o,s',x,h,k⟩:=z
 obtain ⟨⟨o1,s1⟩,e1,h⟩:=af h
 refine ⟨g,s,o1,s1,x,e1,?_⟩
 cases o1 with
 | nx=>exact fun σ1 g1 H1 p1 x1=>⟨g1,s1,o,s',x1,h,k.mv p1⟩
 | rt t=>cases h;exact k
 | bk=>cases h;exact k
 | ct=>cases h;exact k
theorem aao (h:PS X st (tS B F)):jb X [st] (tS B F):=wK h
theorem So:PS X (.Pass pos) (tS B ao):=cD GK fun D σ H z=>by
 obtain ⟨g,s,o,s',x,h,k⟩:=z
 cases h
 exact k σ g H .refl x
theorem JS:PS X (.Break pos) (tS B ZF):=cD B4 fun D σ H z=>by
 obtain ⟨g,s,o,s',x,h,k⟩:=z
 cases h
 exact k σ g H .refl x
theorem Sq:PS X (.Continue pos) (tS B ZG):=cD qJ fun D σ H z=>by
 obtain ⟨g,s,o,s',x,h,k⟩:=z
 cases h
 exact k σ g H .refl x
theorem Ni (hN:X.N.Nodup) (hi:X.N[i]?=some x) (hx:Loc X.env.scope x) (he:PE X e (tE B fa)) (hs:swapsWith e (some (.Name x bR)) pos.line X.env=pure false) (hf:X.fn x=true\/X.env.scope.names.lookup x=some .local) :
  PS X (.Assign [.Name x bR] e pos) (tS B (aA i fa)):=cD (oU hN hi hx he hs hf) fun D σ H z=>by
 obtain ⟨g,s,o,s',x,h,k⟩:=z
 obtain ⟨⟨t,s1⟩,e1,h⟩:=af h
 cases h
 exact ⟨g,s,t,s1,x,e1,fun v g1 H1 p1 x1 r1=>k _ g1 H1 p1 (x1.set r1)⟩
theorem xy {D:Ends}{ts:List T}{s1:S}(k:Ea B g H D .nx (i7 s1 i (.ol ts))) {l:Addr}{vs:List V}(p1:dJ g H g1 H1) (x1:SR B g1 H1 σ s1) (h0:H l=none) (n1:g1.HF l=none) (n2:g1.o l=none) (hl:H1 l=some (.lst vs)) (r:aC B g1.al g1.HF ts vs):D.nx (σ.set i (some (.ref l))) H1:=by
 refine k _ (g1.own l (.loc i)) H1 ⟨p1.fr,p1.pre,fun b u h n z=>?_,p1.there⟩ (x1.own n2 n1 hl r)
 obtain ⟨a,b',c⟩:=p1.rest b u h n z
 have:b≠l:=aO h h0
 exact ⟨a,b',by show (if b=l then some (g8.loc i) else g1.o b)=none;rw [if_neg this];exact c⟩
theorem Nj (hN:X.N.Nodup) (hi:X.N[i]?=some x) (hx:Loc X.env.scope x) (he:PE X e (tO B fl)) (hs:swapsWith e (some (.Name x bR)) pos.line X.env=pure false) (hf:X.fn x=true\/X.env.scope.names.lookup x=some .local) :
  PS X (.Assign [.Name x bR] e pos) (tS B (kK i fl)):=cD (oU hN hi hx he hs hf) fun D σ H z=>by
 obtain ⟨g,s,o,s',x,h,k⟩:=z
 obtain ⟨⟨ts,s1⟩,e1,h⟩:=af h
 cases h
 exact ⟨g,s,ts,s1,x,e1,fun l vs g1 H1 p1 x1 h0 n1 n2 hl r=>xy k p1 x1 h0 n1 n2 hl r⟩
section
variable {scope:Scope}{ls fs:List Str}{js S':List Nat}{iter elt:Expr}{ifs:List Expr}{gt:TG}{uh:FL}{fg:FG}{fe:FE}
theorem Ss (ls:List Str) (hc:X.calm=true) (hN:X.N.Nodup) (hi:X.N[i]?=some x) (hx:Loc X.env.scope x) (Sc:fq X scope) (Fr:eS X scope js fs) (hit:PI X tg iter (tI B uh)) (hg:∀ cl C fp s H,PG (X.block (ls++fs) scope cl C fp s H) tg gt) (Ge:pL B gt fg S')
  (ht:∀ cl C fp s H,F_ (X.block (ls++fs) scope cl C fp s H) ifs (tT B ft)) (he:∀ cl C fp s H,PE (X.block (ls++fs) scope cl C fp s H) elt (tE B fe))
  (hS:∀ i∈S',i<ls.length) (hs:∀ x,foldedSetIterable iter X.env x=pure x) (hf:X.fn x=true\/X.env.scope.names.lookup x=some .local)
  (hsw:swapsWith (.ListComp elt [⟨tg,iter,ifs,0⟩] scope eL) (some (.Name x bR)) pos.line X.env=pure true) :
  PS X (.Assign [.Name x bR] (.ListComp elt [⟨tg,iter,ifs,0⟩] scope eL) pos) (tS B (kK i (bj uh ls.length js fg ft fe))) /\
  PS X (.Assign [.Name x bR] (.ListComp elt [⟨tg,iter,ifs,0⟩] scope eL) pos) (tS B (aA i (bP (bj uh ls.length js fg ft fe)))):=by
 constructor
 ·refine cD (wV ls hc hN hi hx Sc Fr hit hg ht he hs hf hsw) fun D σ H zz=>?_
  obtain ⟨g,s,o,s',x,h,k⟩:=zz
  obtain ⟨⟨ts,s1⟩,e1,h⟩:=af h
  cases h
  exact vP Ge hS σ H _ ⟨g,s,ts,s1,x,e1,fun l vs g1 H1 p1 x1 h0 n1 n2 hl r=>xy k p1 x1 h0 n1 n2 hl r⟩
 ·refine cD (wV ls hc hN hi hx Sc Fr hit hg ht he hs hf hsw) fun D σ H zz=>?_
  obtain ⟨g,s,o,s',x,h,k⟩:=zz
  obtain ⟨⟨t,s2⟩,e0,h⟩:=af h
  obtain ⟨⟨ts,s1⟩,e1,e0⟩:=af e0
  cases e0
  cases h
  exact vP Ge hS σ H _ ⟨g,s,ts,s1,x,e1,fun l vs g1 H1 p1 x1 h0 n1 n2 hl r=>k _ (g1.grow (upd g1.HF l (.lst vs))) H1 (p1.DF h0 n1) ((x1.DF n1 n2 hl).set (t:=.lst ts) ⟨l,vs,rfl,aq,r.same (bo n1)⟩)⟩
end
theorem aap {gt:TG}{fg:FG}{S':List Nat}(he:PE X e (tE B fa)) (hg:PG X tg gt) (Ge:pL B gt fg S') (hs:swapsWithSole [tg] e pos.line X.env=pure false) (hw:swappedStores [tg] e X.env=pure none)
  (h1:(assignEach [tg] X.env).map (·.2)=[assign tg X.env]):PS X (.Assign [tg] e pos) (tS B (vH fg fa)):=cD (Ol he hg hs hw h1) fun D σ H z=>by
 obtain ⟨g,s,o,s',x,h,k⟩:=z
 obtain ⟨⟨t,s1⟩,e1,h⟩:=af h
 obtain ⟨r',e2,h⟩:=af h
 cases h
 exact ⟨g,s,t,s1,x,e1,fun v g1 H1 p1 x1 r1=>Ge.ok g1.al g1.HF H1 σ s1.r t v r' _ x1.sub r1 (az e2) x1.lc.len fun σ' st=>k σ' g1 H1 p1 ⟨x1.st,x1.lc.sets rfl st⟩⟩
theorem Nk (he:PE X e (tE B fa)):PS X (.Return (some e) pos) (tS B (ak fa)):=cD (Oi he) fun D σ H z=>by
 obtain ⟨g,s,o,s',x,h,k⟩:=z
 obtain ⟨⟨t,s1⟩,e1,h⟩:=af h
 cases h
 exact ⟨g,s,t,s1,x,e1,fun v g1 H1 p1 x1 r1=>k v g1 H1 p1 x1.st r1⟩
theorem Su:PS X (.Return none pos) (tS B (ak (cF .non))):=cD GL fun D σ H z=>by
 obtain ⟨g,s,o,s',x,h,k⟩:=z
 cases h
 exact k _ g H .refl x.st rfl
theorem Sv (he:PE X e (tE B fa)) (hs:swapsWith e none pos.line X.env=pure false):PS X (.Expr e pos) (tS B (cX fa)):=cD (oR he hs) fun D σ H z=>by
 obtain ⟨g,s,o,s',x,h,k⟩:=z
 obtain ⟨⟨t,s1⟩,e1,h⟩:=af h
 cases h
 exact ⟨g,s,t,s1,x,e1,fun v g1 H1 p1 x1 r1=>k σ g1 H1 p1 x1⟩
theorem adC {A A':List Stmt}(hc:PT X c (tT B ft)) (ha:jb X A (tS B F)) (hb:jb X A' (tS B Gf)):PS X (.If c A A' pos) (tS B (aQ ft F Gf)):=cD (UP hc ha hb) fun D σ H z=>by
 obtain ⟨g,s,o,s',x,h,k⟩:=z
 obtain ⟨⟨d,s1⟩,e1,h⟩:=af h
 refine ⟨g,s,d,s1,x,e1,fun g1 H1 p1 x1=>?_⟩
 cases d with
 | true=>exact qP ⟨g1,s1,o,s',x1,h,k.mv p1⟩
 | false=>exact qO ⟨g1,s1,o,s',x1,h,k.mv p1⟩
theorem kW {r:List (Option C)}{ts:List T}(h:pC r[i]?=some ts):r[i]?=some (some (.ol ts)):=by
 unfold pC at h
 split at h
 ·rename_i h2;cases h;exact h2
 ·cases h
theorem SR.JT (x:SR B g H σ s) {ts:List T}(h:s.r[i]?=some (some (.ol ts))):∃ l vs,σ[i]?=some (some (.ref l))/\g.o l=some (.loc i)/\H l=some (.lst vs)/\aC B g.al g.HF ts vs:=by
 obtain ⟨v,h1,l,vs,rfl,h2,h3,h4⟩:=x.lc.at_ i _ h
 exact ⟨l,vs,h1,h2,h3,h4⟩
theorem aaq {py:Pos}(he:PE X e (tE B fa)) (hN:X.N[i]?=some y) (hv:t_ X.env.scope y) (hd:bQ y) (kE:iM y) (hs:noStar e=true) (ji:(cP.endLine == eL.line)=true) :
  PS X (.Expr (.Call (.Attribute (.Name y py) "append" cP) [e] [] eL) pos) (tS B (dZ i fa)):=by
 refine cD (oR (Mi PySem.F.plainAttrs_list PySem.F.slot_list_append PySem.F.type_list_append nE (dq hN hv hd kE) (bZ he eu (aH hs)) (iu rfl) (lJ (by rw [ee,hs];rfl) (by decide)) ji (aH hs) rfl) rfl) fun D σ H zz=>?_
 obtain ⟨g,s,o,s',x,h,k⟩:=zz
 obtain ⟨us,e0,h⟩:=af h
 obtain ⟨⟨t,s1⟩,e1,h⟩:=af h
 obtain ⟨ts,e2,h⟩:=af h
 obtain ⟨xh,e3,h⟩:=af h
 obtain ⟨z,rfl⟩:=bI (az e3)
 cases h
 obtain ⟨l0,vs0,q1,q2,q3,q4⟩:=x.JT (kW (az e0))
 refine ⟨_,q1,.inl ⟨rfl,_,du.of q3⟩,g,s,t,s1,x,e1,fun v g1 H1 p1 x1 r1=>?_⟩
 have ho:=kW (az e2)
 obtain ⟨l,vs,w1,w2,w3,w4⟩:=x1.JT ho
 rw [q1] at w1;cases w1
 obtain ⟨x2,p2⟩:=x1.chg ho q1 (w4.app (.one r1))
 exact ⟨l0,vs,v,rfl,rfl,w3,by rw [<- w4.len,sizeLine_eq];omega,k σ g1 _ (p1.trans p2) x2⟩
theorem aar {iter:Expr}{body:List Stmt}{gt:TG}{fg:FG}{S':List Nat}(hc:X.calm=true) (hi:PI X tg iter (tI B fl)) (hg:PG X tg gt) (Ge:pL B gt fg S') (hb:jb X body (tS B F)) (hp:PassesOwn (model X.prog X.w) X.A X.env X.xe)
  (hs:∀ x,foldedSetIterable iter X.env x=pure x):PS X (.For tg iter body [] pos) (tS B (jr fl fg F)):=by
 refine cD (Ov hp hc hi hg hb hs) fun D σ H zz=>?_
 obtain ⟨g,s,o,s',x,h,k⟩:=zz
 obtain ⟨⟨xs,s1⟩,e1,h⟩:=af h
 refine ⟨g,s,xs,s1,x,e1,fun J g1 H1 p1 x1 wk=>?_⟩
 refine ⟨fun i m σ2 H2=>m=xs.length-i/\i<=xs.length/\∃ g2 s2,dJ g1 H1 g2 H2/\SR B g2 H2 σ2 s2/\c_ fg F (xs.drop i) s2=.ok (o,s'),
  ⟨xs.length,by simp,gD _,g1,s1,.refl,x1,by rw [Bf];exact h⟩,?_⟩
 rintro i m σ2 H2 ⟨rfl,hil,g2,s2,p2,x2,mG⟩
 have sm2:=p2.fr.trans x2.sub
 by_cases fL:i<xs.length
 ·have hx:xs[i]?=some xs[i]:=dR fL
  rw [Br fL] at mG
  obtain ⟨r3,q1,mG⟩:=af mG
  obtain ⟨⟨o3,s4⟩,q2,mG⟩:=af mG
  refine .inr ⟨wk.go i H2 sm2 fL,fun σ' H'=>∃ g' s5,dJ g1 H1 g' H'/\SR B g' H' σ' s5/\c_ fg F (xs.drop (i+1)) s5=.ok (o,s'),
   fun σ' H' ⟨g',s5,a,b,c⟩=>⟨xs.length-(i+1),by omega,rfl,fL,g',s5,a,b,c⟩,fun v H3 y=>?_⟩
  obtain ⟨t,ht,y2⟩:=wk.yld i H2 v H3 sm2 fL y
  rw [hx] at ht
  cases ht
  obtain ⟨Se,gr3,rx⟩:=y2 g2.HF p2.fr x2.sub
  have x3:=x2.grow gr3
  have p3:=p2.trans (x2.mW gr3)
  refine Ge.ok g2.al Se H3 σ2 s2.r _ v r3 _ x3.sub (rx.mv p2.pre (aN.refl _)) (az q1) x3.lc.len fun σ4 st=>⟨g2.grow Se,⟨r3,s2.m⟩,o3,s4,⟨x3.st,x3.lc.sets rfl st⟩,q2,?_⟩
  cases o3 with
  | nx=>exact fun σ5 g5 H5 p5 x5=>⟨g5,s4,p3.trans p5,x5,mG⟩
  | ct=>exact fun σ5 g5 H5 p5 x5=>⟨g5,s4,p3.trans p5,x5,mG⟩
  | bk=>
   cases mG
   exact fun σ5 g5 H5 p5 x5=>k σ5 g5 H5 ((p1.trans p3).trans p5) x5
  | rt t=>
   cases mG
   exact fun v g5 H5 p5 x5 r=>k v g5 H5 ((p1.trans p3).trans p5) x5 r
 ·have e:i=xs.length:=by omega
  subst e
  rw [Lx] at mG
  cases mG
  exact .inl ⟨wk.stop _ H2 sm2 rfl,k σ2 g2 H2 (p1.trans p2) x2⟩
theorem JU {body:List Stmt}(n:Nat) (hc:PT X c (tT B ft)) (hb:jb X body (tS B F)) (hp:PassesOwn (model X.prog X.w) X.A X.env X.xe):PS X (.While c body [] pos) (tS B (pD n ft F)):=by
 refine cD (B8 hp hc hb) fun D σ H zz=>?_
 obtain ⟨g,s,o,s',x,h,k⟩:=zz
 refine ⟨fun m σ2 H2=>∃ g2 s2,dJ g H g2 H2/\SR B g2 H2 σ2 s2/\b7 ft F m s2=.ok (o,s'),⟨n,g,s,.refl,x,h⟩,?_⟩
 rintro m σ2 H2 ⟨g2,s2,p2,x2,mG⟩
 cases m with
 | zero=>cases mG
 | succ m=>
  obtain ⟨⟨d,s3⟩,q1,mG⟩:=af mG
  refine ⟨g2,s2,d,s3,x2,q1,fun g3 H3 p3 x3=>?_⟩
  cases d with
  | false=>
   cases mG
   exact qO (k σ2 g3 H3 (p2.trans p3) x3)
  | true=>
   obtain ⟨⟨o4,s4⟩,q2,mG⟩:=af mG
   refine qP ⟨fun σ' H'=>∃ g' s5,dJ g H g' H'/\SR B g' H' σ' s5/\b7 ft F m s5=.ok (o,s'),fun σ' H' ⟨g',s5,a,b,c⟩=>⟨m,yI m,g',s5,a,b,c⟩,?_⟩
   refine ⟨g3,s3,o4,s4,x3,q2,?_⟩
   have p23:=p2.trans p3
   cases o4 with
   | nx=>exact fun σ5 g5 H5 p5 x5=>⟨g5,s4,p23.trans p5,x5,mG⟩
   | ct=>exact fun σ5 g5 H5 p5 x5=>⟨g5,s4,p23.trans p5,x5,mG⟩
   | bk=>
    cases mG
    exact fun σ5 g5 H5 p5 x5=>k σ5 g5 H5 (p23.trans p5) x5
   | rt t=>
    cases mG
    exact fun v g5 H5 p5 x5 r=>k v g5 H5 (p23.trans p5) x5 r
end
section
theorem As {N:List Str}{vs:List V}{ts:List T}(r:aC B g.al g.HF ts vs):lE B g H (L2.start N vs) (ts.map (fun t=>some (C.val t))++ed (N.length-ts.length) none):=by
 refine ⟨by unfold L2.start;simp [r.len],fun i c h=>?_⟩
 by_cases hi:i<ts.length
 ·rw [iI (by simpa using hi),gb,dR hi] at h
  cases h
  obtain ⟨v,h1,h2⟩:=r.get (dR hi)
  refine ⟨v,?_,h2⟩
  unfold L2.start
  rw [iI (by rw [cT,<- r.len];exact hi),gb,h1];rfl
 ·rw [fJ (by simpa using hi),Bd] at h
  split at h<;>cases h
theorem xA {np n:Nat}{F:FS}{ts:List T}{m m':List Ob}{t:T}(h:aR np n F ts m=.ok (t,m')):ts.length=np/\∃ o s',F ⟨ts.map (fun t=>some (.val t))++ed (n-ts.length) none,m⟩=.ok (o,s')/\s'.m=m'/\(o=.rt t\/(o=.nx/\t=.non)):=by
 unfold aR at h
 split at h
 ·rename_i hl
  obtain ⟨⟨o,s'⟩,h1,h⟩:=af h
  refine ⟨hl,o,s',h1,?_⟩
  cases o with
  | rt u=>cases h;exact ⟨rfl,.inl rfl⟩
  | nx=>cases h;exact ⟨rfl,.inr ⟨rfl,rfl⟩⟩
  | bk=>cases h
  | ct=>cases h
 ·cases h
variable {P:Program}{w:World}{K:bC}{mg:Str->Option Value}{base:Heap}
theorem Sw {x qual:Str}{st:Stmt}{f:Addr}{fd:FuncData}{N ps:List Str}{k:Nat}{F:FS}(Fn:G5 K x qual st f fd) (Sc:gh N ps (aI st))
  (body:∀ (il:Value) (A:Around) (outer:List Env) (s:Shared) (H:Hp) (E:XK),bO k (A.deeper (PyProof.Rows.envOfC qual (aI st) s.heap.objs.size f il))->jb (mO kG P w K mg base N qual (aI st) f il A outer s H E).L_ (cu st) (tS B F)) :
  dc P w K mg base kG (k+1) f fd ps (nP B (aR ps.length N.length F)):=by
 refine Fn.ok Sc (fun vs H Q E h=>?_) (fun il A outer s H vs Q E hr h=>?_)
 ·obtain ⟨g,ts,m,t,m',x,r,h,_⟩:=h
  rw [<- r.len,(xA h).1]
 ·obtain ⟨g,ts,m,t,m',x,r,h,q⟩:=h
  obtain ⟨_,o,s',h1,rfl,ho⟩:=xA h
  refine ⟨_,body il A outer s H E hr,g,_,o,s',⟨x,As r⟩,h1,?_⟩
  rcases ho with rfl | ⟨rfl,rfl⟩
  ·exact fun v g' H' p y rv=>q v g' H' p y rv
  ·exact fun σ' g' H' p y=>q _ g' H' p y.st rfl
theorem JV {f:Addr}{fd:FuncData}{ps:List Str}{k:Nat}{fn:Fn}(F:dc P w K mg base kG k f fd ps (nP B fn)):dc P w K mg base kG k f fd ps (nP B (aY fn)):=F.imp fun vs H Q E h=>by
 obtain ⟨g,ts,m,t,m',x,r,h,q⟩:=h
 unfold aY at h
 split at h
 case isFalse=>cases h
 rename_i hn
 cases e:fn ts [] with
 | bad=>rw [e] at h;cases h
 | exc c fs s=>rw [e] at h;dsimp only at h;split at h<;>cases h
 | ok z=>
  rw [e] at h
  dsimp only at h
  split at h
  case isFalse=>cases h
  rename_i hn2
  cases h
  refine ⟨⟨g.HF,fun _=>none,[]⟩,ts,[],z.1,z.2,⟨x.sub,fun b p e=>(by cases e),rfl,fun k ob e=>(by simp at e)⟩,aC.no hn r,e,fun v g0 H' p y rv=>?_⟩
  have keep:∀ b p,g.o b=some p->H' b=H b/\g0.HF b=none:=fun b q hb=>by
   obtain ⟨h1,u,h2⟩:=x.live b q hb
   obtain ⟨h3,h4,_⟩:=p.rest b u h2 h1 rfl
   exact ⟨h3.trans h2.symm,h4⟩
  refine q v ⟨g0.HF,g.o,g.al⟩ H' ⟨p.fr,dC,fun b u h n z=>?_,p.there⟩ (x.mv y.sub (fun b p e=>?_) p.fr rfl fun l p h _=>⟨h,(keep l p h).1⟩) (Rep.no hn2 rv)
  ·obtain ⟨h3,h4,_⟩:=p.rest b u h n rfl
   exact ⟨h3,h4,z⟩
  ·obtain ⟨h1,u,h2⟩:=x.live b p e
   obtain ⟨h3,h4⟩:=keep b p e
   exact ⟨h4,u,h3.trans h2⟩
end
section
variable {bR:Pos}
theorem SR.Nl {k:Nat}{ob Gg:Ob}{a C dx:Addr}{ns:List Str}{vs eA:List V}(x:SR B g H σ s) (Z:Jy B g H k ob a C dx ns vs) (hk:s.m[k]?=some ob) (hc:Gg.c=ob.c) (hle:eA.length<=ns.length) (hln:eA.length=Gg.fs.length)
  (hf:∀ j c,Gg.fs[j]?=some c->∃ v,eA[j]?=some v/\bB B g H (.fld k j) c v) :
  dJ g H g (upd H a (.ins C dx (ns.zip eA)))/\SR B g (upd H a (.ins C dx (ns.zip eA))) σ { s with m:=s.m.set k Gg }:=by
 have ne:∀ l q,g.o l=some q->q≠.ob k->upd H a (.ins C dx (ns.zip eA)) l=H l:=fun l q hl hq=>au fun z=>hq (by rw [z,Z.o] at hl;cases hl;rfl)
 have sl:∀ {q:g8} {c:_root_.D.C} {v:V},q≠.ob k->bB B g H q c v->bB B g (upd H a (.ins C dx (ns.zip eA))) q c v:=fun hq h=>bB.mv (g:=g) (g':=g) (aN.refl _) dC (fun l hl=>⟨hl,ne l _ hl hq⟩) h
 refine ⟨jt Z.o,⟨⟨fun b w e=>?_,fun b q e=>?_,by rw [gC];exact x.st.len,fun k' Up e=>?_⟩,x.lc.len,fun i c e=>?_⟩⟩
 ·have:b≠a:=fun z=>by rw [z,(x.st.live a _ Z.o).1] at e;cases e
  rw [au this];exact x.sub _ _ e
 ·obtain ⟨h1,w,h2⟩:=x.st.live b q e
  by_cases hb:b=a
  ·exact ⟨h1,_,by rw [hb,aq]⟩
  ·exact ⟨h1,w,by rw [au hb];exact h2⟩
 ·by_cases Eb:k=k'
  ·subst Eb
   have fL:k<s.m.length:=(cU.mp hk).1
   have e:(s.m.set k Gg)[k]?=some Up:=e
   rw [gB fL] at e
   cases e
   exact .inl ⟨a,C,dx,ns,eA,Z.al,Z.o,by rw [hc];exact Z.cl,aq,hle,hln,fun j c h=>let ⟨v,h1,h2⟩:=hf j c h;⟨v,h1,sl (fun z=>by cases z) h2⟩⟩
  ·have e:(s.m.set k Gg)[k']?=some Up:=e
   rw [iH Eb] at e
   refine (x.st.at_ k' Up e).mv (aN.refl _) dC fun l q h hq=>⟨h,ne l q h ?_⟩
   rcases hq with rfl | ⟨j,rfl⟩
   ·exact fun z=>Eb (by cases z;rfl)
   ·exact fun z=>by cases z
 ·obtain ⟨v,h1,h2⟩:=x.lc.at_ i c e
  exact ⟨v,h1,sl (fun z=>by cases z) h2⟩
theorem Au {fs uh:List C}{j:Nat}{c:C}(h:setAt fs j c=some uh):(j<fs.length/\uh=fs.set j c)\/(j=fs.length/\uh=fs++[c]):=by
 unfold setAt at h
 split at h
 ·rename_i q;cases h;exact .inl ⟨q,rfl⟩
 ·split at h
  ·rename_i q;cases h;exact .inr ⟨q,rfl⟩
  ·cases h
theorem JW (O:mX X.K X.mg P) {f:Nat}{n:Str}{k:Nat}{ob Gg:Ob}{c':_root_.D.C}{a C dx:Addr}{ns:List Str}{vs:List V}{v:V}(hf:P.an[f]?=some n) (x:SR (P.kt X) g H σ s) (Z:Jy (P.kt X) g H k ob a C dx ns vs) (hk:s.m[k]?=some ob) (h:M4 P.tab f c' ob=some Gg)
  (hv:∀ j,bB (P.kt X) g H (.fld k j) c' v):oX X.K C/\eQ X.K C n/\(ns.zip vs).length<1000 /\
  ∃ eA,L2.dW n v (ns.zip vs)=ns.zip eA/\dJ g H g (upd H a (.ins C dx (ns.zip eA)))/\SR (P.kt X) g (upd H a (.ins C dx (ns.zip eA))) σ { s with m:=s.m.set k Gg }:=by
 obtain ⟨j,h1,h2⟩:=e9.mp h
 obtain ⟨uh,h3,rfl⟩:=cV.mp h2
 obtain ⟨m,hm,nG,F⟩:=O.of Z.cl
 have hj:=kU hf nG h1
 have hjl:j<ns.length:=(cU.mp hj).1
 refine ⟨F.cl,F.na _ (iJ hj),by rw [Bs];have:=F.lJ;omega,?_⟩
 rcases Au h3 with ⟨fL,rfl⟩ | ⟨rfl,rfl⟩
 ·refine ⟨vs.set j v,xr F.nd hj Z.le (by rw [Z.ln];exact fL),?_⟩
  refine x.Nl Z hk rfl (by rw [gC];exact Z.le) (by rw [gC,gC];exact Z.ln) fun i c e=>?_
  by_cases hi:j=i
  ·subst hi
   rw [gB fL] at e
   cases e
   exact ⟨v,by rw [gB (by rw [Z.ln];exact fL)],hv j⟩
  ·rw [iH hi] at e
   obtain ⟨w,h4,h5⟩:=Z.f i c e
   exact ⟨w,by rw [iH hi];exact h4,h5⟩
 ·refine ⟨vs++[v],pK F.nd (by rw [Z.ln];exact hj),?_⟩
  refine x.Nl Z hk rfl (by rw [bJ,Z.ln];exact hjl) (by rw [bJ,bJ,Z.ln];rfl) fun i c e=>?_
  by_cases hi:i<ob.fs.length
  ·rw [iI hi] at e
   obtain ⟨w,h4,h5⟩:=Z.f i c e
   exact ⟨w,by rw [iI (by rw [Z.ln];exact hi)];exact h4,h5⟩
  ·rw [fJ (by omega)] at e
   have hz:i-ob.fs.length=0:=by
    have:=(cU.mp e).1
    simp at this;omega
   rw [hz] at e
   cases e
   exact ⟨v,by rw [fJ (by rw [Z.ln];omega),Z.ln,hz];rfl,hv i⟩
theorem aas (O:mX X.K X.mg P) {f:Nat}{n:Str}(hf:P.an[f]?=some n) (ho:PE X o (tE (P.kt X) fo)) (he:PE X e (tE (P.kt X) fa)) (hs:swapsWith e (some (.Attribute o n bR)) pos.line X.env=pure false) :
  PS X (.Assign [.Attribute o n bR] e pos) (tS (P.kt X) (jq P.tab f fo fa)):=cD (uz ho he hs) fun D σ H z=>by
 obtain ⟨g,s,oo,s',x,h,k⟩:=z
 obtain ⟨⟨t,s1⟩,h1,h⟩:=af h
 obtain ⟨⟨tx,s2⟩,h2,h⟩:=af h
 cases tx<;>first | (cases h;done) | skip
 rename_i kk
 obtain ⟨Gg,h3,h⟩:=af h
 cases h
 obtain ⟨ob,h4,h5⟩:=e9.mp (az h3)
 refine ⟨g,s,t,s1,x,h1,fun v g1 H1 p1 x1 r1=>⟨g1,s1,_,s2,x1,h2,fun w g2 H2 p2 x2 r2=>?_⟩⟩
 obtain ⟨a,rfl,ha⟩:=r2
 rcases x2.st.at_ kk ob h4 with ⟨a',C,dx,ns,vs,Z⟩ | ⟨a',vs,ts,Z⟩
 case inr=>
  obtain ⟨j,q,_⟩:=e9.mp h5
  obtain ⟨l,q,_⟩:=e9.mp q
  have z:(P.tab.map _)[ob.c]?=none:=Z.nf
  rw [gb,q] at z
  cases z
 have:=Z.al.symm.trans ha
 cases this
 obtain ⟨cl,na,hl,eA,e1,p3,x3⟩:=JW O hf x2 Z h4 h5 (v:=v) fun j=>r1.mv p2.pre p2.fr
 refine ⟨a,C,dx,_,rfl,Z.h,cl,na,hl,?_⟩
 rw [e1]
 exact k σ g2 _ ((p1.trans p2).trans p3) x3
end
end D
namespace L2
open PySem PySem.Spec PyProof.Rows
section
variable {X:Cx}
theorem JX {e:Expr}{x y:Str}{k1 k2 p1 p2 p3 pos}{te:TE}(h:PE X e te) (hx:x.length<=sizeLine) :
  PE X (.JoinedStr [.Constant (.str x) k1 p1,.FormattedValue e (-1) none p2,.Constant (.str y) k2 p3] pos) (fun σ H Q=>te σ H fun v H1=>∃ z:Str,v=.str z/\x.length+z.length+y.length<=sizeLine/\Q (.str (Str.empty++x++z++y)) H1):=by
 intro aa s σ H Q I q
 have e0:(Str.empty++x).length=x.length:=by rw [strLen_append];exact qB _
 refine JoinedStr_many (joinParts_cons (Calls.Constant_str ⟨by rw [e0];exact hx,joinParts_cons (FormattedValue_plain (bS (h aa _ σ H _ (I.tok _) q) fun v s1 ⟨z',H1,I1,r,z,ez,hz,q1⟩=>?_))⟩))
 subst ez
 obtain ⟨t,rfl⟩:=r
 have e1:(Str.empty++x++z).length=x.length+z.length:=by rw [strLen_append,e0]
 have e2:(Str.empty++x++z++y).length=x.length+z.length+y.length:=by rw [strLen_append,e1]
 refine formatField_str (fun t' tk=>⟨by rw [e1];omega,joinParts_cons (Calls.Constant_str ⟨by rw [e2];exact hz,joinParts_nil ⟨.str (Str.empty++x++z++y),H1,I1.tok _,⟨_,rfl⟩,q1⟩ (by rw [e2];exact hz)⟩)⟩) (by omega)
end
end L2
namespace D
open PySem L2
variable {X:Cx}{env:Env}{a b c e o:Expr}{fa fb fc fo:FE}{fl:FL}{g g' g1:G}{H H' H1:Hp}{B:KT}{es:List Expr}{i n:Nat}{P:Pg}{cP eL p pos bR:Pos}{s s':S}{σ:St}{x y:Str}
section
theorem xC:∀ {Ds:List Addr}{its:List Value},Vals (Ds.map V.ref) its->its=Ds.map Value.ref
 | [],_,h=>by cases h;rfl
 | D::Ds,_,h=>by
  cases h with
  | cons p q=>
   cases p
   rw [xC q]
   rfl
theorem Ec:fk X (.builtin "isinstance") (fun xs H Q=>∃ (a C dx tp:Addr) (fs:List (Str × V)) (Ds:List Addr) (b:Bool),xs=[.ref a,.ref tp]/\H a=some (.ins C dx fs)/\oX X.K C/\fH X.K (.ref C) "__class__" = some (some (.builtin "object.__class__")) /\
  Gp X.K (.builtin "object.__class__") "__get__" = some (some (.builtin "getset_descriptor.__get__"))/\Gq X.K (.builtin "object.__class__")=some true/\Gs X.K C (.type "object")=some true /\
  H tp=some (.tup (Ds.map V.ref))/\Ba X.K (.ref C) (Ds.map Value.ref)=some b/\Q (.bl b) H):=by
 intro aa s σ H xs us Q I r h
 obtain ⟨a,C,dx,tp,fs,Ds,b,rfl,ea,cl,h1,hn,htk,h2,et,e,q⟩:=h
 obtain ⟨u,u',rfl,ru,Vw⟩:=vals2 r
 cases ru
 cases Vw
 obtain ⟨mA,O,_⟩:=je I.bW ea
 obtain ⟨od,J,_⟩:=O.look
 obtain ⟨_,its,rv,o,g1,g2,n,g3⟩:=(show bY X.prog X.w H s.heap tp (.tup (Ds.map V.ref)) from I.bW tp _ et)
 have ei:its=Ds.map Value.ref:=xC rv
 obtain ⟨oc,odd,odt,yT⟩:=o
 cases g2
 cases g3
 rw [ei] at g1
 exact PySem.W.kia_tup (Li (cl.get _) cl.hd h1 hn htk h2) I.ja J g1 e (fun z=>nomatch z) fun tk=>⟨.bl b,H,I.tok _,rfl,q⟩
def G.fE (g:G) (a:Addr):G:={ g with o:=fun b=>if b=a then some (.ob g.al.length) else g.o b,al:=g.al++[a] }
theorem SR.fE {c:Nat}{C q dx:Addr}{ns:List Str}(x:SR B g H σ s) (hC:gE B c C ns) (nx:H q=none) (nd:H dx=none) (iE:dx≠q) :
  dJ g H (g.fE q) (upd (upd H dx (.own q)) q (.ins C dx []))/\SR B (g.fE q) (upd (upd H dx (.own q)) q (.ins C dx [])) σ { s with m:=s.m++[⟨c,[]⟩] }:=by
 have nf:g.HF q=none:=x.sub.free nx
 have nf2:g.HF dx=none:=x.sub.free nd
 have no:∀ l p',g.o l=some p'->l≠q/\l≠dx:=fun l p' h=>by
  obtain ⟨_,u,z⟩:=x.st.live l p' h
  exact ⟨aO z nx,aO z nd⟩
 have Uq:∀ l,l≠q->l≠dx->upd (upd H dx (.own q)) q (.ins C dx []) l=H l:=fun l h1 h2=>by rw [au h1,au h2]
 have ho:∀ l p',g.o l=some p'->(g.fE q).o l=some p':=fun l p' h=>by
  show (if l=q then some (g8.ob g.al.length) else g.o l)=_
  rw [if_neg (no l p' h).1];exact h
 have pre:g.al <+: (g.fE q).al:=Bt _ _
 refine ⟨⟨aN.refl _,pre,fun b u h n z=>?_,fun b h=>?_⟩,⟨⟨fun b u e=>?_,fun b p' e=>?_,?_,fun k ob e=>?_⟩,x.lc.len,fun i c' e=>?_⟩⟩
 ·have h1:=aO h nx
  have h2:=aO h nd
  refine ⟨(Uq b h1 h2).trans h,n,?_⟩
  show (if b=q then some (g8.ob g.al.length) else g.o b)=none
  rw [if_neg h1];exact z
 ·by_cases h1:b=q
  ·subst h1;exact nx
  ·by_cases h2:b=dx
   ·subst h2;exact nd
   ·rw [Uq b h1 h2] at h;exact h
 ·have h1:b≠q:=fun z=>by rw [z] at e;have e:g.HF q=some u:=e;rw [nf] at e;cases e
  have h2:b≠dx:=fun z=>by rw [z] at e;have e:g.HF dx=some u:=e;rw [nf2] at e;cases e
  rw [Uq b h1 h2];exact x.sub _ _ e
 ·have e:(if b=q then some (g8.ob g.al.length) else g.o b)=some p':=e
  by_cases hb:b=q
  ·subst hb;exact ⟨nf,_,aq⟩
  ·rw [if_neg hb] at e
   obtain ⟨h1,u,h2⟩:=x.st.live b p' e
   obtain ⟨h3,h4⟩:=no b p' e
   exact ⟨h1,u,(Uq b h3 h4).trans h2⟩
 ·show (s.m++[_]).length=(g.al++[q]).length
  rw [bJ,bJ,x.st.len];rfl
 ·have e:(s.m++[(⟨c,[]⟩:Ob)])[k]?=some ob:=e
  by_cases hk:k<s.m.length
  ·rw [iI hk] at e
   refine (x.st.at_ k ob e).mv (aN.refl _) pre fun l p' h _=>⟨ho l p' h,?_⟩
   obtain ⟨h3,h4⟩:=no l p' h
   exact Uq l h3 h4
  ·rw [fJ (by omega)] at e
   have hk0:k-s.m.length=0:=by
    have:=(cU.mp e).1
    simp at this;omega
   rw [hk0] at e
   cases e
   have Eb:k=g.al.length:=by have:=x.st.len;omega
   subst Eb
   refine .inl ⟨q,C,dx,ns,[],?_,?_,hC,?_,gD _,rfl,fun j c h=>by simp at h⟩
   ·show (g.al++[q])[g.al.length]?=some q
    rw [fJ (dS _),oJ];rfl
   ·show (if q=q then some (g8.ob g.al.length) else g.o q)=_
    rw [if_pos rfl]
   ·rw [aq,Lw]
 ·obtain ⟨v,h1,h2⟩:=x.lc.at_ i c' e
  refine ⟨v,h1,bB.mv (g:=g) (g':=g.fE q) (aN.refl _) pre (fun l h=>⟨ho l _ h,?_⟩) h2⟩
  obtain ⟨h3,h4⟩:=no l _ h
  exact Uq l h3 h4
structure DnN (P:Pg) (Pr:Program) (w:World) (K:bC) (mg:Str->Option Value) (base:Heap) (k:Nat) (c:Nat) (x:Str) (f:Fn):Prop where
 ex:∃ (C fi:Addr) (fd:FuncData) (ps:List Str) (ns:List Str),gE (iT P K Pr w) c C ns/\mg x=some (.ref C)/\Mk K C fi/\dc Pr w K mg base kG k fi fd ps (nP (iT P K Pr w) f)/\Binds K fd ps []
theorem JY {c:Nat}{f:Fn}{t:T}(h:Ai c f fl s=.ok (t,s')):∃ ts s1 m',fl s=.ok (ts,s1)/\f (.own s1.m.length::ts) (s1.m++[⟨c,[]⟩])=.ok (.non,m')/\t=.own s1.m.length/\s'={ s1 with m:=m' }:=by
 obtain ⟨⟨ts,s1⟩,h1,h⟩:=af h
 dsimp only at h
 cases q:f (.own s1.m.length::ts) (s1.m++[⟨c,[]⟩]) with
 | ok r=>
  rw [q] at h
  obtain ⟨u,m'⟩:=r
  cases u<;>first | (cases h;done) | skip
  cases h
  exact ⟨ts,s1,m',h1,q,rfl,rfl⟩
 | bad=>rw [q] at h;cases h
 | exc c fs s2=>rw [q] at h;cases h
theorem JZ {c:Nat}{f:Fn}{C:Addr}{ns:List Str}{ts:List T}{vs:List V}{m':List Ob}{Q:VK}(hC:gE B c C ns) (x1:SR B g H σ s) (r1:aC B g.al g.HF ts vs) (h2:f (.own s.m.length::ts) (s.m++[⟨c,[]⟩])=.ok (.non,m'))
  (k:∀ v g' H',dJ g H g' H'->SR B g' H' σ { s with m:=m' }->Rep B g'.al g'.HF (.own s.m.length) v->Q v H'):∀ q dx,H q=none->H dx=none->dx≠q->nP B f (.ref q::(vs++[])) (upd (upd H dx (.own q)) q (.ins C dx [])) (fun v H2=>v=.non/\Q (.ref q) H2) E0:=fun q dx nx nd iE=>by
 obtain ⟨p2,x2⟩:=x1.fE hC nx nd iE
 rw [dH]
 have hq:(g.fE q).al[s.m.length]?=some q:=by
  show (g.al++[q])[s.m.length]?=some q
  rw [x1.st.len,fJ (dS _),oJ];rfl
 refine rW (E:=E0) (ts:=.own s.m.length::ts) x2 ⟨_,vs,rfl,⟨q,rfl,hq⟩,r1.mv p2.pre p2.fr⟩ h2 fun v g' H' p3 x3 rv=>⟨rv,k _ g' H' (p2.trans p3) x3 ⟨q,rfl,ir p3.pre hq⟩⟩
theorem Sx {k j c:Nat}{f:Fn}(D:DnN P X.prog X.w X.K X.mg X.base k c x f) (hr:bO j X.A) (rX:k+1<=j) (ha:PA X (e::es) (tA (P.kt X) fl)) (hg:Gl X x) (jQ:bQ x) (hs:(e::es).all noStar=true) :
  PE X (.Call (.Name x p) (e::es) [] pos) (tE (P.kt X) (Ai c f fl)):=by
 obtain ⟨C,fi,fd,ps,ns,hC,hm,M,F,hb⟩:=D.ex
 rw [ee,c6] at hs
 refine bf (o8 M F (hr.mono rX) hg hm hb .nil jk ha jQ (aH hs.1) (cY hs.2)) fun σ H Q zz=>?_
 obtain ⟨g,s,t,s',x,h,k⟩:=zz
 obtain ⟨ts,s1,m',h1,h2,rfl,rfl⟩:=JY h
 exact ⟨g,s,ts,s1,x,h1,fun vs g1 H1 p1 x1 r1=>JZ hC x1 r1 h2 fun v g' H' p2 x2 rv=>k v g' H' (p1.trans p2) x2 rv⟩
def pM:Expr->Option (Expr × List Expr × List Keyword × Pos)
 | .Call f a k p=>some (f,a,k,p)
 | _=>none
def asName:Expr->Option Str
 | .Name x _=>some x
 | _=>none
def jW:Expr->Option (Expr × Str × Pos)
 | .Attribute o f p=>some (o,f,p)
 | _=>none
def jX (e:Expr):Option (Str × List Expr × List Keyword):=(pM e).bind fun q=>(asName q.1).map fun f=>(f,q.2.1,q.2.2.1)
theorem jY {e:Expr}{q}(h:pM e=some q):e=.Call q.1 q.2.1 q.2.2.1 q.2.2.2:=by
 cases e<;>first | (cases h;done) | (cases h;rfl)
theorem cZ {e:Expr}{x:Str}(h:asName e=some x):∃ p,e=.Name x p:=by
 cases e<;>first | (cases h;done) | (cases h;exact ⟨_,rfl⟩)
theorem kX {e:Expr}{q}(h:jW e=some q):e=.Attribute q.1 q.2.1 q.2.2:=by
 cases e<;>first | (cases h;done) | (cases h;rfl)
theorem eW {e:Expr}{q}(h:jX e=some q):∃ p pos,e=.Call (.Name q.1 p) q.2.1 q.2.2 pos:=by
 obtain ⟨w,h1,h2⟩:=e9.mp h
 obtain ⟨f,h3,rfl⟩:=cV.mp h2
 obtain ⟨p,h4⟩:=cZ h3
 rw [jY h1,h4]
 exact ⟨_,_,rfl⟩
def Ed:Stmt->Option (Str × Str × Expr)
 | .Assign ts e _=>(match ts with
  | [t]=>(jW t).bind fun q=>(asName q.1).map fun s=>(s,q.2.1,e)
  | _=>none)
 | _=>none
theorem xD {st:Stmt}{q}(h:Ed st=some q):∃ p0 pf pos,st=.Assign [.Attribute (.Name q.1 p0) q.2.1 pf] q.2.2 pos:=by
 cases st<;>first | (cases h;done) | skip
 rename_i ts e pos
 match ts,h with
 | [t],h=>
  obtain ⟨w,h1,h2⟩:=e9.mp (show (jW t).bind _=some q from h)
  obtain ⟨s,h3,rfl⟩:=cV.mp h2
  obtain ⟨p,h4⟩:=cZ h3
  rw [kX h1,h4]
  exact ⟨_,_,_,rfl⟩
def pO (st:Stmt):Option (Str × Str × Str):=(Ed st).bind fun w=>(asName w.2.2).map fun q=>(w.1,w.2.1,q)
theorem vQ {st:Stmt}{z:Str × Str × Str}(h:pO st=some z):∃ p0 pf pq pos,st=.Assign [.Attribute (.Name z.1 p0) z.2.1 pf] (.Name z.2.2 pq) pos:=by
 obtain ⟨w,h1,h2⟩:=e9.mp h
 obtain ⟨q,h3,rfl⟩:=cV.mp h2
 obtain ⟨p0,pf,pos,rfl⟩:=xD h1
 obtain ⟨p,h4⟩:=cZ h3
 rw [h4]
 exact ⟨_,_,_,_,rfl⟩
def lN (N:List Str):Nat->List Stmt->List Str->Bool
 | _,[],[]=>true
 | i,st::rest,n::ns=>(match pO st with
  | some z=>decide (N[0]?=some z.1)&&decide (N[i]?=some z.2.2)&&decide (z.2.1=n)
  | none=>false)&&lN N (i+1) rest ns
 | _,_,_=>false
def tIn (K:bC):Nat->List Str->TS
 | _,[]=>B3
 | i,n::ns=>UL (Va K (qH 0) (qH i) n) (tIn K (i+1) ns)
theorem xE (hv:∀ (i:Nat) (x:Str),X.N[i]?=some x->t_ X.env.scope x/\bQ x/\iM x):∀ (body:List Stmt) (ns:List Str) (i:Nat),lN X.N i body ns=true->jb X body (tIn X.K i ns)
 | [],[],_,_=>wJ
 | [],_::_,_,h=>by cases h
 | st::rest,[],_,h=>by cases h
 | st::rest,n::ns,i,h=>by
  have h:((match pO st with
   | some z=>decide (X.N[0]?=some z.1)&&decide (X.N[i]?=some z.2.2)&&decide (z.2.1=n)
   | none=>false)&&lN X.N (i+1) rest ns)=true:=h
  rw [c6] at h
  obtain ⟨h1,h5⟩:=h
  cases e:pO st with
  | none=>rw [e] at h1;cases h1
  | some z=>
   rw [e] at h1
   simp only [c6,decide_eq_true_eq] at h1
   obtain ⟨⟨h2,h3⟩,rfl⟩:=h1
   obtain ⟨p0,pf,pq,pos,rfl⟩:=vQ e
   obtain ⟨v1,v2,v3⟩:=hv 0 _ h2
   obtain ⟨w1,w2,w3⟩:=hv i _ h3
   exact qI (uz (dq h2 v1 v2 v3) (dq h3 w1 w2 w3) rfl) (xE hv rest ns (i+1) h5)
theorem xF {K:bC}{C q dx:Addr}{N:List Str}{all:List V}{D:Ends}(cl:oX K C):∀ (ns pP:List Str) (as pQ:List V) (H:Hp),(∀ f∈ns,eQ K C f)->(pP++ns).Nodup->(pP++ns).length<=100->pQ.length=pP.length->as.length=ns.length->all=.ref q::(pQ++as)->H q=some (.ins C dx (pP.zip pQ)) ->
  D.nx (L2.start N all) (upd H q (.ins C dx ((pP++ns).zip (pQ++as))))->tIn K (pQ.length+1) ns D (L2.start N all) H
 | [],pP,as,pQ,H,_,_,_,Ul,hl,ha,hq,k=>by
  have:as=[]:=List.length_eq_zero_iff.mp hl
  subst this
  rw [dH,dH] at k
  have e:upd H q (.ins C dx (pP.zip pQ))=H:=by
   funext b
   by_cases hb:b=q
   ·subst hb;rw [aq,hq]
   ·rw [au hb]
  rw [e] at k
  exact k
 | n::ns,pP,[],pQ,H,_,_,_,Ul,hl,ha,hq,k=>by cases hl
 | n::ns,pP,v::as,pQ,H,hna,nd,hsz,Ul,hl,ha,hq,k=>by
  have hg:(L2.start N all)[pQ.length+1]?=some (some v):=by
   unfold L2.start
   rw [iI (by rw [ha];simp),gb,ha,List.getElem?_cons_succ,fJ (dS _),oJ];rfl
  have h0:(L2.start N all)[0]?=some (some (.ref q)):=by
   unfold L2.start
   rw [iI (by rw [ha];simp),gb,ha];rfl
  have hn:n ∉ pP:=fun z=>by
   rw [Bg] at nd
   exact nd.2.2 n z n (eE ..) rfl
  refine ⟨v,hg,.ref q,h0,q,C,dx,pP.zip pQ,rfl,hq,cl,hna n (eE ..),?_,?_⟩
  ·rw [Bs];rw [bJ] at hsz;omega
  ·have e1:L2.dW n v (pP.zip pQ)=(pP++[n]).zip (pQ++[v]):=by
    have:=pK (f:=n) (v:=v) (ns:=pP++[n]) (vs:=pQ) (by
     rw [show pP++n::ns=(pP++[n])++ns by simp] at nd
     exact (Bg.mp nd).1) (by rw [Ul,fJ (dS _),oJ];rfl)
    rw [<- this]
    congr 1
    have:∀ (a:List Str) (b:List V) (r:List Str),b.length=a.length->a.zip b=(a++r).zip b:=by
     intro a
     induction a with
     | nil=>intro b r h;cases b with
      | nil=>simp
      | cons=>cases h
     | cons x a ih=>intro b r h;cases b with
      | nil=>cases h
      | cons y b=>rw [oF,Bu,oF,ih b r (by simpa using h)]
    exact this pP pQ [n] Ul
   rw [e1]
   have h5:=xF (N:=N) (all:=all) (D:=D) (q:=q) (dx:=dx) cl ns (pP++[n]) as (pQ++[v]) (upd H q (.ins C dx ((pP++[n]).zip (pQ++[v])))) (fun f hf=>hna f (eZ _ hf)) (by simpa using nd) (by simpa using hsz) (by simp [Ul]) (by simpa using hl) (by rw [ha];simp) aq (by
    rw [wG]
    simpa using k)
   rw [show (pQ++[v]).length+1=pQ.length+1+1 by simp] at h5
   exact h5
end
section
variable {tg:Expr}
theorem lO:∀ (k:Int) (ts:List T),(fV k ts).length=ts.length
 | _,[]=>rfl
 | k,_::ts=>congrArg (· + 1) (lO (k+1) ts)
theorem xG:∀ (k:Nat) (ts:List T) (i:Nat) (t:T),ts[i]?=some t->(fV (k:Int) ts)[i]?=some (.tup [.int ((k+i:Nat):Int),t])
 | _,[],_,_,h=>by simp at h
 | k,_::ts,0,_,h=>by simp at h;subst h;rfl
 | k,_::ts,i+1,t,h=>by
  have:=xG (k+1) ts i t (by simpa using h)
  rw [show k+(i+1)=k+1+i by omega]
  exact this
theorem aat (hB:B.K=X.K) (m:Nat):∀ σ H R,tI B (ki (m:Int) fa) σ H R->RE X.K m (tA B (dY fa b_)) σ H R:=by
 rintro σ H R ⟨g,s,t,s',x,h,k⟩
 obtain ⟨⟨tx,s1⟩,h1,h⟩:=af h
 obtain ⟨ts,h2,h⟩:=af h
 cases h
 have h2:=az h2
 obtain ⟨ts1,rfl,rfl⟩:∃ ts1,tx=.lst ts1/\t=fV m ts1:=by
  cases tx<;>first | (cases h2;done) | (cases h2;exact ⟨_,rfl,rfl⟩)
 have hc:dY fa b_ s=.ok ([.lst ts1],s1):=by
  show (fa s).bind _=_
  rw [h1];rfl
 refine ⟨g,s,_,_,x,hc,fun vs g1 H1 p1 x1 r1=>?_⟩
 obtain ⟨v,rfl,l,ws,rfl,q1,r1⟩:=b8 r1
 refine ⟨l,ws,rfl,du.of (x1.sub _ _ q1),k _ g1 H1 p1 x1 ⟨fun i H3 s3 hi=>?_,fun i H3 x H4 s3 hi y=>?_,fun i H3 s3 hi=>?_⟩⟩
 ·rw [lO,r1.len] at hi
  exact ⟨hi,du.of (s3 _ _ q1)⟩
 ·obtain ⟨p,x',hn,e1,rfl,rfl⟩:=y
  obtain ⟨t1,f1,g1'⟩:=r1.Ak e1
  refine ⟨_,xG m ts1 i t1 f1,fun vN s4 s5=>⟨upd vN p (.tup [.int ((m+i:Nat):Int),x']),.new s5 hn,p,[.int ((m+i:Nat):Int),x'],rfl,j_.of aq,?_⟩⟩
  have s6:=s4.trans (bo (o:=.tup [.int ((m+i:Nat):Int),x']) (s5.free hn))
  exact ⟨.int ((m+i:Nat):Int),[x'],rfl,rfl,.one (g1'.same s6)⟩
 ·rw [lO,r1.len] at hi
  exact ⟨hi,du.of (s3 _ _ q1)⟩
theorem aau (hB:B.K=X.K) {elts:List Expr}{x1:Nat}{lr:Pos}(hg:Gl X "enumerate") (hm:X.mg "enumerate" = none) (ha:PE X a (tE B fa)) (hs:noStar a=true):PI X (.Tuple elts x1 lr) (.Call (.Name "enumerate" p) [a] [] pos) (tI B (ki 0 fa)):=
 rN (Zu hg hm (pG ha vI (aH hs)) (aH hs)) (aat hB 0)
theorem aav (hB:B.K=X.K) {elts:List Expr}{x1 k1:Nat}{lr p1 kp:Pos}(hg:Gl X "enumerate") (hm:X.mg "enumerate" = none) (ha:PE X a (tE B fa)) (hs:noStar a=true):PI X (.Tuple elts x1 lr) (.Call (.Name "enumerate" p) [a] [⟨some (Str.ofString "start"),.Constant (.int 1) k1 p1,kp⟩] pos) (tI B (ki 1 fa)):=
 rN (RG hg hm (pG ha vI (aH hs)) (aH hs)) (aat hB 1)
end
section
theorem Nn {m:Str}(hb:dM o=true) (hs:es.all noStar=true) (hl:es.length<30) (hp:(cP.endLine == pos.line)=true):D6 X o m cP es pos:=by
 have hf:methodCallForm (es.length+0) (backTo pos (starEach es X.env)) (backToKw pos (keywordEach [] X.env))=true:=by
  unfold methodCallForm
  rw [lI hs]
  show (true&&true&&decide (es.length+0+0<30))=true
  rw [decide_eq_true (show es.length+0+0<30 by omega)];rfl
 refine ⟨(do return (<- importBound o X.env).getD true),?_⟩
 show (do
  let ov <- attributeBase o m X.env (eval o X.env)
  standAt cP.atName
  methodCall o m cP pos X.env ov (es.length+0) (backTo pos (starEach es X.env)) (backToKw pos (keywordEach [] X.env)))=_
 rw [iu hb]
 unfold methodCall
 rw [hf]
 unfold calleeOf methodCallPos
 rw [hp]
 rfl
theorem J0 {Pr:Program}{w:World}{K:bC}{mg:Str->Option Value}{base:Heap}{n qual:Str}{st:Stmt}{f C:Addr}{fd:FuncData}{N ps ns:List Str}{k:Nat}(Fn:G5 K n qual st f fd) (Sc:gh N ps (aI st))
  (hv:∀ (i:Nat) (x:Str),N[i]?=some x->t_ (aI st) x/\bQ x/\iM x) (hi:lN N 1 (cu st) ns=true) (hl:ps.length=ns.length+1) (cl:oX K C) (na:∀ f∈ns,eQ K C f) (nd:ns.Nodup) (lJ:ns.length<=100) :
  dc Pr w K mg base kG (k+1) f fd ps (spI C ns):=by
 refine Fn.ok Sc (fun vs H Q E h=>?_) (fun il A outer s H vs Q E hr h=>?_)
 ·obtain ⟨x,dx,args,rfl,N7,_⟩:=h
  rw [cQ,N7,hl]
 ·obtain ⟨x,dx,args,rfl,N7,hx,q⟩:=h
  refine ⟨tIn K 1 ns,xE (X:=(mO kG Pr w K mg base N qual (aI st) f il A outer s H E).L_) hv _ ns 1 hi,?_⟩
  exact xF (N:=N) (D:={ nx:=fun _ H'=>Q .non H',rt:=Q }) cl ns [] args [] H na (by simpa using nd) (by simpa using lJ) rfl N7 rfl (by simpa using hx) (by simpa using q)
def spP (K:bC) (C:Addr) (n:Str):Sp:=fun vs H Q _=>∃ x dx p ys,vs=[.ref x,.ref p]/\H x=some (.ins C dx [])/\du K H p ys/\∀ l,H l=none->Q .non (upd (upd H l (.lst ys)) x (.ins C dx [(n,.ref l)]))
noncomputable def pR (st:Stmt):Option (Str × Str × Str):=(Ed st).bind fun w=>(jX w.2.2).bind fun c=>(match c.2.1,c.2.2 with
 | [a],[]=>if c.1=("list" : Str) then (asName a).map fun q=>(w.1,w.2.1,q) else none
 | _,_=>none)
theorem r6 {st:Stmt}{z:Str × Str × Str}(h:pR st=some z):∃ p0 pf pq pl pc pos,st=.Assign [.Attribute (.Name z.1 p0) z.2.1 pf] (.Call (.Name "list" pl) [.Name z.2.2 pq] [] pc) pos:=by
 obtain ⟨w,h1,h2⟩:=e9.mp h
 obtain ⟨⟨f,as,ks⟩,h3,h4⟩:=e9.mp h2
 match as,ks,h3,h4 with
 | [a],[],h3,h4=>
  dsimp only at h4
  split at h4
  ·rename_i e
   obtain ⟨q,h5,rfl⟩:=cV.mp h4
   obtain ⟨p0,pf,pos,rfl⟩:=xD h1
   obtain ⟨pl,pc,h6⟩:=eW h3
   obtain ⟨pq,h7⟩:=cZ h5
   rw [h6,h7,e]
   exact ⟨_,_,_,_,_,_,rfl⟩
  ·cases h4
theorem Ef {Pr:Program}{w:World}{K:bC}{mg:Str->Option Value}{base:Heap}{nm qual s0 q n:Str}{st st1:Stmt}{f C:Addr}{fd:FuncData}{N ps:List Str}{k:Nat}(Fn:G5 K nm qual st f fd) (Sc:gh N ps (aI st))
  (hb:cu st=[st1]) (h1:pR st1=some (s0,n,q)) (h0:N[0]?=some s0) (hq:N[1]?=some q) (hv:∀ (i:Nat) (x:Str),N[i]?=some x->t_ (aI st) x/\bQ x/\iM x) (hm:mg "list" = none) (hg:(aI st).names.lookup ("list" : Str)=some .globalImplicit) (hl:ps.length=2) (cl:oX K C) (na:eQ K C n) :
  dc Pr w K mg base kG (k+1) f fd ps (spP K C n):=by
 obtain ⟨p0,pf,pq,pl,pc,pos,rfl⟩:=r6 h1
 refine Fn.ok Sc (fun vs H Q E h=>?_) (fun il A outer s H vs Q E hr h=>?_)
 ·obtain ⟨x,dx,p,ys,rfl,_⟩:=h
  exact hl.symm
 ·obtain ⟨x,dx,p,ys,rfl,hx,hp,k⟩:=h
  obtain ⟨v1,v2,v3⟩:=hv 0 _ h0
  obtain ⟨w1,w2,w3⟩:=hv 1 _ hq
  rw [hb]
  refine ⟨_,wK (uz (dq h0 v1 v2 v3) (nC jh (X:=(mO kG Pr w K mg base N qual (aI st) f il A outer s H E).L_) hg hm BV (bZ (dq hq w1 w2 w3) eu)) rfl),?_⟩
  refine ⟨.ref p,rfl,p,ys,rfl,.inl hp,fun l hl=>⟨.ref x,rfl,x,C,dx,[],rfl,?_,cl,na,by decide,k l hl⟩⟩
  rw [au (fun e=>by subst e;rw [hl] at hx;cases hx)]
  exact hx
structure DnP (P:Pg) (Pr:Program) (w:World) (K:bC) (mg:Str->Option Value) (base:Heap) (k:Nat) (c:Nat) (x:Str):Prop where
 ex:∃ (C fi:Addr) (fd:FuncData) (ps:List Str) (n:Str),gE (iT P K Pr w) c C [n]/\mg x=some (.ref C)/\Mk K C fi/\dc Pr w K mg base kG k fi fd ps (spP K C n)/\Binds K fd ps []
theorem Sy {k j c:Nat}(D:DnP P X.prog X.w X.K X.mg X.base k c x) (hr:bO j X.A) (rX:k+1<=j) (ha:PE X e (tE (P.kt X) fa)) (hg:Gl X x) (jQ:bQ x) (hs:noStar e=true) :
  PE X (.Call (.Name x p) [e] [] pos) (tE (P.kt X) (bG (RN c) fa)):=by
 obtain ⟨C,fi,fd,ps,n,hC,hm,M,F,hb⟩:=D.ex
 refine bf (o8 M F (hr.mono rX) hg hm hb .nil jk (bZ ha eu (aH hs)) jQ (aH hs) rfl) fun σ H Q zz=>?_
 obtain ⟨g,s,t,s',z,h,k⟩:=zz
 obtain ⟨⟨tx,s1⟩,h1,h⟩:=af h
 obtain ⟨t',h2,h⟩:=af h
 cases h
 have h2:=az h2
 cases tx<;>first | (cases h2;done) | skip
 rename_i ts
 cases h2
 refine ⟨g,s,_,_,z,h1,fun v g1 H1 p1 x1 r1 x dx nx nd iE=>?_⟩
 obtain ⟨q,vs,rfl,hq,rr⟩:=r1
 have g2:=Gr.new (o:=.own x) x1.sub nd
 have nx2:upd H1 dx (.own x) x=none:=by rw [au (Ne.symm iE)];exact nx
 have hq1:H1 q=some (.lst vs):=x1.sub _ _ hq
 have qd:q≠dx:=fun e=>by subst e;rw [nd] at hq1;cases hq1
 have qx:q≠x:=fun e=>by subst e;rw [nx] at hq1;cases hq1
 refine ⟨x,dx,q,vs,rfl,aq,du.of (by rw [au qx,au qd];exact hq1),fun l hl=>⟨rfl,?_⟩⟩
 have lx:l≠x:=fun e=>by subst e;rw [aq] at hl;cases hl
 have hl2:upd H1 dx (.own x) l=none:=by rw [au lx] at hl;exact hl
 have ld:l≠dx:=fun e=>by subst e;rw [aq] at hl2;cases hl2
 have g3:=Gr.new (o:=.lst vs) g2.sub hl2
 have nx3:upd (upd H1 dx (.own x)) l (.lst vs) x=none:=by rw [au (Ne.symm lx)];exact nx2
 have g4:=Gr.new (o:=.ins C dx [(n,.ref l)]) g3.sub nx3
 have e:upd (upd (upd (upd H1 dx (.own x)) x (.ins C dx [])) l (.lst vs)) x (.ins C dx [(n,.ref l)])=upd (upd (upd H1 dx (.own x)) l (.lst vs)) x (.ins C dx [(n,.ref l)]):=by
  funext b
  by_cases hb:b=x
  ·subst hb;rw [aq,aq]
  ·rw [au hb,au hb]
   by_cases hb2:b=l
   ·subst hb2;rw [aq,aq]
   ·rw [au hb2,au hb2,au hb]
 rw [e]
 have gr:=(g2.trans g3).trans g4
 refine k _ (g1.grow _) _ (p1.trans (x1.mW gr)) (x1.grow gr) ⟨x,C,dx,[n],[.ref l],rfl,hC,aq,dS _,?_,.one ⟨l,vs,rfl,?_,rr.same gr.fr⟩⟩
 ·show upd (upd (upd g1.HF dx (.own x)) l (.lst vs)) x _ dx=_
  rw [au iE,au (Ne.symm ld),aq]
 ·show upd (upd (upd g1.HF dx (.own x)) l (.lst vs)) x _ l=_
  rw [au lx,aq]
theorem xH {K:bC}{t:Value}:∀ {cs:List Value}{bs:List Bool},cs.length=bs.length->(∀ (i:Nat) (c:Value) (b:Bool),cs[i]?=some c->bs[i]?=some b->oB K t c=some b)->Ba K t cs=some (bs.any id)
 | [],[],_,_=>rfl
 | [],_::_,h,_=>by cases h
 | _::_,[],h,_=>by cases h
 | c::cs,b::bs,hl,h=>by
  have h1:=h 0 c b rfl rfl
  have h2:=xH (cs:=cs) (bs:=bs) (by simpa using hl) fun i c b e1 e2=>h (i+1) c b (by simpa using e1) (by simpa using e2)
  unfold Ba
  rw [h1]
  cases b with
  | true=>rfl
  | false=>exact h2
def namesOf:List Expr->Option (List Str)
 | []=>some []
 | .Name x _::es=>(namesOf es).map (x::·)
 | _=>none
theorem r8 {Ds:List Addr}:∀ {es:List Expr}{ys:List Str}{Ds:List Addr},namesOf es=some ys->ys.length=Ds.length->(∀ (i:Nat) (y:Str) (D:Addr),ys[i]?=some y->Ds[i]?=some D->Gl X y/\X.mg y=some (.ref D)/\bQ y)->PA X es (fun _ H Q=>Q (Ds.map V.ref) H)
 | [],_,Ds,h,hl,_=>by
  cases h
  cases Ds with
  | nil=>exact eu
  | cons=>cases hl
 | e::es,ys,Ds,h,hl,k=>by
  cases e<;>first | (cases h;done) | skip
  rename_i x px
  obtain ⟨zs,h1,rfl⟩:=cV.mp (show (namesOf es).map (x::·)=some ys from h)
  cases Ds with
  | nil=>cases hl
  | cons D Ds=>
   obtain ⟨k1,k2,k3⟩:=k 0 x D rfl rfl
   exact bZ (oQ (v:=.ref D) k1 k2 rfl k3) (r8 (Ds:=Ds) h1 (by simpa using hl) fun i y D e1 e2=>k (i+1) y D (by simpa using e1) (by simpa using e2)) rfl
theorem aaw (O:mX X.K X.mg P) {ds:List Nat}{ys:List Str}{x1:Nat}{lr:Pos}(hys:namesOf es=some ys) (hd:ys.length=ds.length) (hy:∀ (i d:Nat) (y:Str),ds[i]?=some d->ys[i]?=some y->P.cn[d]?=some y/\(P.fn[d]?).isSome=true/\Gl X y/\bQ y)
  (hl:es.length<=100) (hm:X.mg "isinstance" = none) (ha:PE X a (tE (P.kt X) fa)) (hg:Gl X "isinstance") (hs:noStar a=true) :
  PE X (.Call (.Name "isinstance" p) [a,.Tuple es x1 lr] [] pos) (tE (P.kt X) (bG (cz P.sub ds) fa)):=by
 have cls:∀ (ds:List Nat) (ys:List Str),ys.length=ds.length->(∀ (i d:Nat) (y:Str),ds[i]?=some d->ys[i]?=some y->P.cn[d]?=some y/\(P.fn[d]?).isSome=true/\Gl X y/\bQ y)->∃ Ds:List Addr,Ds.length=ds.length/\∀ (i:Nat) (y:Str) (D:Addr),ys[i]?=some y->Ds[i]?=some D->X.mg y=some (.ref D):=by
  intro ds
  induction ds with
  | nil=>intro ys hl _;exact ⟨[],rfl,fun i y D _ h=>by simp at h⟩
  | cons d ds ih=>
   intro ys hl h
   cases ys with
   | nil=>cases hl
   | cons y ys=>
    obtain ⟨h1,h2,_⟩:=h 0 d y rfl rfl
    obtain ⟨ns,nG⟩:=BQ.mp h2
    obtain ⟨D,F⟩:=O.cls d y ns h1 nG
    obtain ⟨Ds,hD,k⟩:=ih ys (by simpa using hl) fun i d y e1 e2=>h (i+1) d y (by simpa using e1) (by simpa using e2)
    refine ⟨D::Ds,by simp [hD],fun i y' D' e1 e2=>?_⟩
    cases i with
    | zero=>simp at e1 e2;subst e1 e2;exact F.gl
    | succ i=>exact k i y' D' (by simpa using e1) (by simpa using e2)
 obtain ⟨Ds,hDl,hDs⟩:=cls ds ys hd hy
 have get:∀ (i:Nat) (y:Str),ys[i]?=some y->∃ d,ds[i]?=some d:=fun i y h=>by
  have:=(cU.mp h).1
  exact ⟨_,dR (by omega)⟩
 have names:=r8 (X:=X) (Ds:=Ds) hys (by rw [hd,hDl]) fun i y D e1 e2=>by
  obtain ⟨d,e3⟩:=get i y e1
  obtain ⟨_,_,h3,h4⟩:=hy i d y e3 e1
  exact ⟨h3,hDs i y D e1 e2,h4⟩
 refine bf (gS Ec hg hm BW (bZ ha (bZ (Cf names) eu rfl) (aH hs)) (he:=aH hs) (hpl:=rfl)) fun σ H Q zz=>?_
 obtain ⟨g,s,t,s',x,h,k⟩:=zz
 obtain ⟨⟨tx,s1⟩,h1,h⟩:=af h
 obtain ⟨t',h2,h⟩:=af h
 cases h
 refine ⟨g,s,_,_,x,h1,fun v g1 H1 p1 x1 r1=>?_⟩
 have h2:=az h2
 cases tx<;>first | (cases h2;done) | skip
 obtain ⟨l,N7,rfl⟩:=cV.mp h2
 obtain ⟨b,C,dx,Gd,vs,rfl,hC,hq,hle,hdx,r⟩:=r1
 obtain ⟨m,hmm,adA,F⟩:=O.of hC
 have cW:ys.length=es.length:=by
  have:∀ (es:List Expr) (ys:List Str),namesOf es=some ys->ys.length=es.length:=by
   intro es
   induction es with
   | nil=>intro ys h;cases h;rfl
   | cons e es ih=>
    intro ys h
    cases e<;>first | (cases h;done) | skip
    rename_i x px
    obtain ⟨zs,h1,rfl⟩:=cV.mp (show (namesOf es).map (x::·)=some ys from h)
    rw [cQ,cQ,ih zs h1]
  exact this es ys hys
 refine ⟨by rw [cT,hDl,<- hd,cW,sizeLine_eq];omega,fun tp htp=>?_⟩
 have g2:=Gr.new (o:=.tup (Ds.map V.ref)) x1.sub htp
 have kit:=xH (K:=X.K) (t:=.ref C) (cs:=Ds.map Value.ref) (bs:=ds.map fun d=>decide (d∈l)) (by rw [cT,cT,hDl]) fun i c bb e1 e2=>by
  rw [gb] at e1 e2
  obtain ⟨D,e3,rfl⟩:=cV.mp e1
  obtain ⟨d,e4,rfl⟩:=cV.mp e2
  have hi:i<ys.length:=by rw [hd];exact (cU.mp e4).1
  have e5:ys[i]?=some ys[i]:=dR hi
  obtain ⟨f1,_⟩:=hy i d _ e4 e5
  exact O.sub _ d m _ C D l hmm f1 F.gl (hDs i _ D e5 e3) N7
 refine ⟨b,C,dx,tp,_,Ds,_,rfl,g2.sub _ _ (g2.fr _ _ hq),F.cl,F.ca,O.gt.1,O.gt.2,F.mo,aq,kit,?_⟩
 have:=k (V.bl (ds.any fun d=>decide (d∈l))) (g1.grow _) _ (p1.trans (x1.mW g2)) (x1.grow g2) rfl
 rw [Gz]
 exact this
def nR (u v:List Nat):T->Option T
 | .str l=>gd (l.length<=100000) (.str (u++l++v))
 | _=>none
theorem Sz {k1 k2:Nat}{x y:Str}{p1 p2 p3:Pos}(hB:B.K=X.K) (ha:PE X a (tE B fa)) (hl:x.length<=1000) (hm:y.length<=1000) :
  PE X (.JoinedStr [.Constant (.str x) k1 p1,.FormattedValue a (-1) none p2,.Constant (.str y) k2 p3] pos) (tE B (bG (nR x.cps.toList y.cps.toList) fa)):=by
 obtain ⟨⟨u⟩⟩:=x
 obtain ⟨⟨v⟩⟩:=y
 have hl:u.length<=1000:=by rw [<- fh u];exact hl
 have hm:v.length<=1000:=by rw [<- fh v];exact hm
 refine bf (JX ha (by show (⟨u.toArray⟩:Str).length<=_;rw [fh,sizeLine_eq];omega)) (DE hB fun B hB al HF H x t tx Q sm rx h k=>?_)
 cases tx<;>first | (cases h;done) | skip
 rename_i n
 obtain ⟨z,rfl⟩:=bI h
 obtain ⟨rfl,hz⟩:=rx
 refine ⟨_,rfl,by show (⟨u.toArray⟩:Str).length+_+(⟨v.toArray⟩:Str).length<=_;rw [fh,fh,fh,sizeLine_eq];omega,k _ HF H (.refl sm) ⟨?_,by rw [bJ,bJ];show u.length+_+v.length<=_;omega⟩⟩
 show V.str _=V.str _
 congr 1
 show (⟨(((#[]:Array Nat)++u.toArray)++n.toArray)++v.toArray⟩:Str)=⟨(u++n++v).toArray⟩
 congr 1
 simp
theorem J1 (hB:B.K=X.K) {px:Pos}(hN:X.N[i]?=some y) (hv:t_ X.env.scope y) (hd:bQ y) (kE:iM y) (hg:Gl X "len") (hm:X.mg "len" = none) :
  PE X (.Call (.Name "len" p) [.Name y px] [] pos) (tE B (fD i)):=by
 refine bf (gS qL hg hm PySem.boot_len (bZ (dq hN hv hd kE) eu rfl) (he:=rfl) (hpl:=rfl)) fun σ H Q zz=>?_
 obtain ⟨g,s,t,s',x,h,k⟩:=zz
 obtain ⟨ts,h1,h⟩:=af h
 cases h
 obtain ⟨l,vs,w1,w2,w3,w4⟩:=x.JT (kW (az h1))
 exact ⟨_,w1,_,_,rfl,.inl ⟨vs,du.of w3,w4.len⟩,k _ g H .refl x rfl⟩
def xJ:T->T->Option T
 | .int i,.int j=>some (.int (i+j))
 | _,_=>none
theorem aax (hN:X.N.Nodup) (hi:X.N[i]?=some x) (hx:Loc X.env.scope x) (he:PE X e (tE B fa)) (hf:X.fn x=true\/X.env.scope.names.lookup x=some .local) :
  PS X (.AugAssign (.Name x bR) .Add e pos) (tS B (Dw xJ i fa)):=cD (Oo hN hi hx he Oq hf) fun D σ H zz=>by
 obtain ⟨g,s,o,s',z,h,k⟩:=zz
 unfold Dw at h
 split at h
 ·rename_i tx hr
  obtain ⟨⟨ty,s1⟩,h1,h⟩:=af h
  obtain ⟨t,h2,h⟩:=af h
  cases h
  obtain ⟨v,hv,rv⟩:=z.lc.at_ i _ hr
  have h2:=az h2
  cases tx<;>first | (cases h2;done) | (cases ty<;>first | (cases h2;done) | skip)
  cases h2
  cases (show v=V.int _ from rv)
  refine ⟨_,hv,g,s,_,s1,z,h1,fun w g1 H1 p1 x1 r1=>?_⟩
  cases (show w=V.int _ from r1)
  exact ⟨_,_,rfl,rfl,k _ g1 H1 p1 (x1.set (t:=.int _) rfl)⟩
 ·cases h
def xK (K:bC) (mg:Str->Option Value) (x:Str) (t:T):Prop:=∃ u v,mg x=some u/\RelV v u/\∀ (B:KT) (al:List Addr) (H:Hp),B.K=K->Rep B al H t v
theorem aay {t:T}(h:xK X.K X.mg x t) (hB:B.K=X.K) (hg:Gl X x) (hd:bQ x):PE X (.Name x pos) (tE B (cF t)):=by
 obtain ⟨u,v,h1,h2,h3⟩:=h
 exact jv (oQ hg h1 h2 hd) fun al H=>h3 B al H hB
theorem aaz {body:List Stmt}{h0:ExceptHandler}{hs:List ExceptHandler}{t:TS}(hxe:X.xe=fun _ _=>False) (h:jb X body t):PS X (.Try body (h0::hs) [] [] pos) t:=fun aa s σ H D I q=>by
 refine wpAny_Try_except (wpAny_mono (h aa s σ H D I q) (fun f s1 z=>?_) fun e s1 z=>?_)
 ·cases f with
  | next=>exact wpAny_execs_nil z
  | brk=>exact z
  | cont=>exact z
  | ret u=>exact z
 ·rw [hxe] at z;exact z.elim
end
section
theorem SR.Eg {l:Addr}{ts:List T}{vs:List V}(x:SR B g H σ s) (hc:B.cn[n]?=none) (hf:B.fn[n]?=none) (n1:g.HF l=none) (n2:g.o l=none) (hl:H l=some (.lst vs)) (r:aC B g.al g.HF ts vs):SR B (g.fE l) H σ { s with m:=s.m++[⟨n,[.ol ts]⟩] }:=by
 have ho:∀ b p',g.o b=some p'->(g.fE l).o b=some p':=fun b p' h=>by
  show (if b=l then some (g8.ob g.al.length) else g.o b)=_
  rw [if_neg fun z=>by rw [z,n2] at h;cases h];exact h
 have pre:g.al <+: (g.fE l).al:=Bt _ _
 refine ⟨⟨x.sub,fun b p' e=>?_,?_,fun k ob e=>?_⟩,x.lc.len,fun i c' e=>?_⟩
 ·have e:(if b=l then some (g8.ob g.al.length) else g.o b)=some p':=e
  by_cases hb:b=l
  ·subst hb;exact ⟨n1,_,hl⟩
  ·rw [if_neg hb] at e;exact x.st.live b p' e
 ·show (s.m++[_]).length=(g.al++[l]).length
  rw [bJ,bJ,x.st.len];rfl
 ·have e:(s.m++[(⟨n,[.ol ts]⟩:Ob)])[k]?=some ob:=e
  by_cases hk:k<s.m.length
  ·rw [iI hk] at e
   exact (x.st.at_ k ob e).mv (aN.refl _) pre fun b p' h _=>⟨ho b p' h,rfl⟩
  ·rw [fJ (by omega)] at e
   have hk0:k-s.m.length=0:=by
    have:=(cU.mp e).1
    simp at this;omega
   rw [hk0] at e
   cases e
   have Eb:k=g.al.length:=by have:=x.st.len;omega
   subst Eb
   refine .inr ⟨l,vs,ts,?_,?_,hc,hf,rfl,hl,r.mv pre (aN.refl _)⟩
   ·show (g.al++[l])[g.al.length]?=some l
    rw [fJ (dS _),oJ];rfl
   ·show (if l=l then some (g8.ob g.al.length) else g.o l)=_
    rw [if_pos rfl]
 ·obtain ⟨v,h1,h2⟩:=x.lc.at_ i c' e
  exact ⟨v,h1,bB.mv (g:=g) (g':=g.fE l) (aN.refl _) pre (fun b h=>⟨ho b _ h,rfl⟩) h2⟩
theorem dJ.Eg (q:dJ g H g1 H1) {l:Addr}(h0:H l=none):dJ g H (g1.fE l) H1:=⟨q.fr,q.pre.trans (Bt _ _),fun b u h n z=>by
 obtain ⟨h1,h2,h3⟩:=q.rest b u h n z
 refine ⟨h1,h2,?_⟩
 show (if b=l then some (g8.ob g1.al.length) else g1.o b)=none
 rw [if_neg (aO h h0)];exact h3,q.there⟩
theorem SA (hc:B.cn[n]?=none) (hf:B.fn[n]?=none) (he:PE X e (tO B fl)):PE X e (tE B (rK n fl)):=bf he fun σ H Q z=>by
 obtain ⟨g,s,t,s',x,h,k⟩:=z
 obtain ⟨⟨ts,s1⟩,h1,h⟩:=af h
 cases h
 refine ⟨g,s,ts,s1,x,h1,fun l vs g1 H1 p1 x1 h0 n1 n2 hl r=>k _ (g1.fE l) H1 (p1.Eg h0) (x1.Eg hc hf n1 n2 hl r) ⟨l,rfl,?_⟩⟩
 show (g1.al++[l])[s1.m.length]?=some l
 rw [x1.st.len,fJ (dS _),oJ];rfl
theorem xM {m:List Ob}{t:T}{z:Nat × List T}(h:Aj n m t=some z):t=.own z.1/\m[z.1]?=some ⟨n,[.ol z.2]⟩:=by
 unfold Aj at h
 split at h
 ·split at h
  ·rename_i k d ts e
   split at h
   ·rename_i q;subst q;cases h;exact ⟨rfl,e⟩
   ·cases h
  ·cases h
 ·cases h
theorem SR.aaA (x:SR B g H σ s) (hc:B.cn[n]?=none) {k:Nat}{ts:List T}(hm:s.m[k]?=some ⟨n,[.ol ts]⟩) {l:Addr}(ha:g.al[k]?=some l):∃ vs,BxR B g H k ⟨n,[.ol ts]⟩ l vs ts:=by
 rcases x.st.at_ k _ hm with ⟨a',C,dx,ns,vs,Z⟩ | ⟨a',vs,xh,Z⟩
 ·obtain ⟨m,q,_⟩:=Z.cl
  rw [hc] at q;cases q
 ·have:=Z.al.symm.trans ha
  cases this
  cases Z.fs
  exact ⟨vs,Z⟩
theorem aaB (hc:B.cn[n]?=none) (ha:PE X a (tE B fa)) (hb:PE X b (tE B fb)) (hs:jf b):PE X (.Subscript a b pos) (tE B (kL n fa fb)):=by
 refine bf (Mg wR ha hb hs) fun σ H Q zz=>?_
 obtain ⟨g,s,t,s',x,h,k⟩:=zz
 obtain ⟨⟨tx,s1⟩,h1,h⟩:=af h
 obtain ⟨⟨ty,s2⟩,h2,h⟩:=af h
 obtain ⟨z,h3,h⟩:=af h
 obtain ⟨j,h4,h⟩:=af h
 obtain ⟨t',h5,h⟩:=af h
 cases h
 obtain ⟨e1,hm⟩:=xM (az h3)
 dsimp only at e1
 subst e1
 refine ⟨g,s,_,s1,x,h1,fun v g1 H1 p1 x1 r1=>⟨g1,s1,ty,s2,x1,h2,fun w g2 H2 p2 x2 r2=>?_⟩⟩
 obtain ⟨l,rfl,Vu⟩:=r1
 obtain ⟨vs,Z⟩:=x2.aaA hc hm (ir p2.pre Vu)
 have h4:=az h4
 cases ty<;>first | (cases h4;done) | skip
 cases h4
 obtain ⟨w',e,GO⟩:=pH Z.r (az h5)
 exact ⟨l,vs,_,w',rfl,r2,du.of Z.h,e,k w' g2 H2 (p1.trans p2) x2 GO⟩
def aaC (td ty tv:TE):TS:=fun D σ H=>tv σ H fun v H1=>td σ H1 fun x H2=>ty σ H2 fun y H3=>Mh x y v H3 fun H4=>D.nx σ H4
theorem J2 {td ty tv:TE}(ho:PE X o td) (hi:PE X b ty) (hv:PE X e tv) (hs:swapsWith e (some (.Subscript o b bR)) pos.line X.env=pure false):PS X (.Assign [.Subscript o b bR] e pos) (aaC td ty tv):=by
 intro aa s σ H D I h
 exact wpAny_Assign_Subscript (bS (hv aa s σ H _ I h) fun r s1 ⟨v,H1,I1,rv,q1⟩=>bS (ho aa s1 σ H1 _ I1 q1) fun u s2 ⟨x,H2,I2,rx,q2⟩=>bS (hi aa s2 σ H2 _ I2 q2) fun iv s3 ⟨y,H3,I3,ry,q3⟩=>bS (set_list aa s3 σ H3 x y v u iv r _ I3 rx ry rv q3) fun _ s4 ⟨H4,I4,q4⟩=>⟨σ,H4,I4,q4⟩) hs
theorem SR.aaD {k:Nat}{l:Addr}{vs eA:List V}{ts xh:List T}(x:SR B g H σ s) (Z:BxR B g H k ⟨n,[.ol ts]⟩ l vs ts) (hk:s.m[k]?=some ⟨n,[.ol ts]⟩) (r:aC B g.al g.HF xh eA) :
  dJ g H g (upd H l (.lst eA))/\SR B g (upd H l (.lst eA)) σ { s with m:=s.m.set k ⟨n,[.ol xh]⟩ }:=by
 have ne:∀ b q,g.o b=some q->q≠.ob k->upd H l (.lst eA) b=H b:=fun b q hb hq=>au fun z=>hq (by rw [z,Z.o] at hb;cases hb;rfl)
 refine ⟨jt Z.o,⟨⟨fun b w e=>?_,fun b q e=>?_,by rw [gC];exact x.st.len,fun k' Up e=>?_⟩,x.lc.len,fun i c e=>?_⟩⟩
 ·have:b≠l:=fun z=>by rw [z,(x.st.live l _ Z.o).1] at e;cases e
  rw [au this];exact x.sub _ _ e
 ·obtain ⟨h1,w,h2⟩:=x.st.live b q e
  by_cases hb:b=l
  ·exact ⟨h1,_,by rw [hb,aq]⟩
  ·exact ⟨h1,w,by rw [au hb];exact h2⟩
 ·have e:(s.m.set k ⟨n,[.ol xh]⟩)[k']?=some Up:=e
  by_cases Eb:k=k'
  ·subst Eb
   rw [gB (cU.mp hk).1] at e
   cases e
   exact .inr ⟨l,eA,xh,Z.al,Z.o,Z.nc,Z.nf,rfl,aq,r⟩
  ·rw [iH Eb] at e
   refine (x.st.at_ k' Up e).mv (aN.refl _) dC fun b q h hq=>⟨h,ne b q h ?_⟩
   rcases hq with rfl | ⟨j,rfl⟩
   ·exact fun z=>Eb (by cases z;rfl)
   ·exact fun z=>by cases z
 ·obtain ⟨v,h1,h2⟩:=x.lc.at_ i c e
  exact ⟨v,h1,bB.mv (g:=g) (g':=g) (aN.refl _) dC (fun b hb=>⟨hb,ne b _ hb fun z=>by cases z⟩) h2⟩
theorem SD (hc:B.cn[n]?=none) (he:PE X e (tE B fc)) (ha:PE X a (tE B fa)) (hb:PE X b (tE B fb)) (hs:swapsWith e (some (.Subscript a b bR)) pos.line X.env=pure false):PS X (.Assign [.Subscript a b bR] e pos) (tS B (lC n fa fb fc)):=by
 refine cD (J2 ha hb he hs) fun D σ H zz=>?_
 obtain ⟨g,s,oo,s',x,h,k⟩:=zz
 obtain ⟨⟨t,s1⟩,h1,h⟩:=af h
 obtain ⟨⟨tx,s2⟩,h2,h⟩:=af h
 obtain ⟨⟨ty,s3⟩,h3,h⟩:=af h
 obtain ⟨z,h4,h⟩:=af h
 obtain ⟨j,h5,h⟩:=af h
 obtain ⟨_,h6,h⟩:=af h
 obtain ⟨hj,_⟩:=bI (az h6)
 cases h
 obtain ⟨e1,hm⟩:=xM (az h4)
 dsimp only at e1
 subst e1
 refine ⟨g,s,t,s1,x,h1,fun v g1 H1 p1 x1 r1=>⟨g1,s1,_,s2,x1,h2,fun w g2 H2 p2 x2 r2=>⟨g2,s2,ty,s3,x2,h3,fun u g3 H3 p3 x3 r3=>?_⟩⟩⟩
 obtain ⟨l,rfl,Vu⟩:=r2
 obtain ⟨vs,Z⟩:=x3.aaA hc hm (ir p3.pre Vu)
 have h5:=az h5
 cases ty<;>first | (cases h5;done) | skip
 cases h5
 cases r3
 obtain ⟨p4,x4⟩:=x3.aaD Z hm (Z.r.set ((r1.mv p2.pre p2.fr).mv p3.pre p3.fr) j.toNat)
 refine ⟨l,vs,j,j.toNat,rfl,rfl,Z.h,?_,k σ g3 _ (((p1.trans p2).trans p3).trans p4) x4⟩
 unfold G0
 rw [if_pos hj.1,if_pos (by have:=Z.r.len;have:=hj.2;omega)]
end
def J3 (neg:Bool):T->T->Option T
 | x,.dX ks _=>(Du x).map fun k=>.bl (if neg then !decide (k∈ks) else decide (k∈ks))
 | _,_=>none
def aJ (op:CmpOp) (x y:T):Option T:=match op,y with
 | .In,.dX ks vs=>J3 false x (.dX ks vs)
 | .NotIn,.dX ks vs=>J3 true x (.dX ks vs)
 | op,y=>JG op x y
def Ur:Option (Option C)->Option (List Ky × List T)
 | some (some (.od ks ts))=>some (ks,ts)
 | _=>none
def r9:CmpOp->Option Bool
 | .In=>some false
 | .NotIn=>some true
 | _=>none
def aaE (neg:Bool) (i:Nat) (a:FE):FE:=fun s=>(a s).bind fun p=>(cK (Ur p.2.r[i]?)).bind fun d=>(cK (Du p.1)).bind fun k=>.ok (.bl (if neg then !decide (k∈d.1) else decide (k∈d.1)),p.2)
def adD (i:Nat) (s:S):Bool:=(Ur s.r[i]?).isSome
def xN (neg:Bool) (i:Nat) (a:FE):FE:=fun s=>(a s).bind fun p=>(cK (pC p.2.r[i]?)).bind fun ts=>(cK (Gb p.1 (.lst ts))).bind fun b=>.ok (.bl (if neg then !b else b),p.2)
def adE (i:Nat) (s:S):Bool:=(pC s.r[i]?).isSome
def Gh (op:CmpOp) (neg:Bool) (i:Nat) (a:FE):FE:=fun s=>if adD i s then aaE neg i a s else if adE i s then xN neg i a s else a_ (aJ op) a (vF i) s
def Eh (i:Nat):FS:=fun s=>.ok (.nx,i7 s i (.od [] []))
def jD (ks:List Ky) (ts:List T) (k:Ky) (t:T):List Ky × List T:=if k∈ks then (ks,(ks.zip ts).map fun p=>if p.1=k then t else p.2) else (ks++[k],ts++[t])
def xO (i:Nat) (b a:FE):FS:=fun s=>(a s).bind fun p=>(b p.2).bind fun q=>(cK (Ur p.2.r[i]?)).bind fun _=>(cK (Ur q.2.r[i]?)).bind fun d=>(cK (Du q.1)).bind fun k=>(cK (gd (d.1.length<1000000) ())).bind fun _=>.ok (.nx,i7 q.2 i (let z:=jD d.1 d.2 k p.1;.od z.1 z.2))
def J4:List Nat->List Nat->List Nat:=Pf.gy
def pS:T->Option T
 | .str l=>gd (l.all (· < 128)=true/\l.length<=4000) (.int ((J4 [] l).length:Nat))
 | _=>none
section
variable {kH p1:Pos}{al:List Addr}
theorem xP {a b:Ky}(h:lD a=lD b):a=b:=by
 cases a<;>cases b
 ·injection h with h;rw [h]
 ·cases h
 ·cases h
 ·injection h with h
  injection h with h
  have h:=congrArg Array.toList h
  dsimp only at h
  rw [h]
theorem pU {t:T}{v:V}{k:Ky}(h:Du t=some k) (r:Rep B al H t v):v=kV (lD k):=by
 cases t<;>first | (cases h;done) | skip
 ·cases h;exact r
 ·cases h;exact r.1
theorem pV:∀ {ks:List Ky}{vs:List V},ks.length=vs.length->∀ k,(jR ((ks.map lD).zip vs) (lD k)).isSome=decide (k∈ks)
 | [],_,_,k=>by simp [jR]
 | q::ks,[],h,_=>by cases h
 | q::ks,v::vs,h,k=>by
  rw [fR,oF]
  by_cases e:q=k
  ·rw [jl (p:=(lD q,v)) (by rw [e])]
   simp [e]
  ·rw [jm (p:=(lD q,v)) (fun z=>e (xP z)),pV (BP.inj h) k]
   have:(k∈q::ks) ↔ (k∈ks):=⟨fun z=>(cA.mp z).elim (fun z=>absurd z.symm e) id,eZ _⟩
   simp only [this]
theorem xQ {k:Ky}{v:V}{t:T}(rt:Rep B al H t v):∀ {ks:List Ky}{vs:List V}{ts:List T},ks.length=vs.length->aC B al H ts vs ->
  ((ks.map lD).zip vs).map (fun kv=>if kv.1=lD k then (kv.1,v) else kv)=(ks.map lD).zip ((ks.zip vs).map fun p=>if p.1=k then v else p.2)/\ks.length=((ks.zip vs).map fun p=>if p.1=k then v else p.2).length/\aC B al H ((ks.zip ts).map fun p=>if p.1=k then t else p.2) ((ks.zip vs).map fun p=>if p.1=k then v else p.2)
 | [],[],_,_,r=>⟨rfl,rfl,by cases ‹List T›<;>exact rfl⟩
 | q::ks,[],_,h,_=>by cases h
 | [],_::_,_,h,_=>by cases h
 | q::ks,u::vs,ts,h,r=>by
  cases ts with
  | nil=>cases (show u::vs=[] from r)
  | cons t' ts=>
   obtain ⟨u',eA,e,ru,rs⟩:=r
   cases e
   obtain ⟨h1,h2,h3⟩:=xQ rt (ks:=ks) (vs:=vs) (ts:=ts) (BP.inj h) rs
   refine ⟨?_,?_,?_⟩
   ·simp only [fR,oF] at h1 ⊢
    rw [h1]
    by_cases e:q=k
    ·rw [if_pos (by rw [e]),if_pos e]
    ·rw [if_neg (fun z=>e (xP z)),if_neg e]
   ·simp only [oF,fR,cQ]
    rw [<- h2]
   ·simp only [oF,fR]
    refine ⟨_,_,rfl,?_,h3⟩
    by_cases e:q=k
    ·rw [if_pos e,if_pos e];exact rt
    ·rw [if_neg e,if_neg e];exact ru
theorem SE {ks:List Ky}{ts:List T}{vs:List V}{k:Ky}{t:T}{v:V}(hl:ks.length=vs.length) (r:aC B al H ts vs) (rt:Rep B al H t v) :
  ∃ eA,L2.putK ((ks.map lD).zip vs) (lD k) v=((jD ks ts k t).1.map lD).zip eA/\(jD ks ts k t).1.length=eA.length/\aC B al H (jD ks ts k t).2 eA:=by
 unfold L2.putK jD
 rw [lA,pV hl]
 by_cases e:k∈ks
 ·rw [if_pos (decide_eq_true e),if_pos e]
  obtain ⟨h1,h2,h3⟩:=xQ (k:=k) rt hl r
  exact ⟨_,h1,h2,h3⟩
 ·rw [if_neg (by simpa using e),if_neg e]
  refine ⟨vs++[v],?_,by simp [hl],r.app (.one rt)⟩
  rw [oG,List.zip_append (by rw [cT];exact hl)]
  rfl
def Us (neg:Bool):R2:=fun x y H Q=>∃ a o,y=.ref a/\Dn H a x o/\Q (.bl (if neg then !o.isSome else o.isSome)) H
theorem Ei (hu:X.A.units+1<cLine):fj X (compareOp .In) (Us false):=fun aa s σ H x y v u Q I rx ry z=>by
 obtain ⟨a,o,ey,g,q⟩:=z
 subst ey
 obtain rfl:u=Value.ref a:=ry
 exact ade hu I g rx fun s3 I3=>⟨.bl o.isSome,H,I3,rfl,q⟩
theorem xR (hu:X.A.units+1<cLine):fj X (compareOp .NotIn) (Us true):=fun aa s σ H x y v u Q I rx ry z=>by
 obtain ⟨a,o,ey,g,q⟩:=z
 subst ey
 obtain rfl:u=Value.ref a:=ry
 exact Jt hu I g rx fun s3 I3=>⟨.bl (!o.isSome),H,I3,rfl,q⟩
theorem Np (neg:Bool):nK X (J3 neg) (Us neg):=fun B hB al HF H x y t tx ty Q sm rx ry h k=>by
 unfold J3 at h
 split at h
 case h_2=>cases h
 rename_i ks ts
 obtain ⟨kk,h1,rfl⟩:=cV.mp h
 obtain ⟨a,vs,rfl,h2,h3,h4⟩:=ry
 rw [pU h1 rx]
 refine ⟨a,_,rfl,.k (sm _ _ h2),?_⟩
 rw [pV h3]
 exact k _ HF H (.refl sm) rfl
theorem kY {op:CmpOp}{k:Nat}(hr:bO k X.A):∃ r,fj X (compareOp op) r/\nK X (aJ op) r:=by
 have hu:X.A.units+1<cLine:=by have:=hr.units;omega
 obtain ⟨r,h1,h2⟩:=RZ (op:=op) hr
 have adF:(∀ x y,aJ op x y=JG op x y)->∃ r,fj X (compareOp op) r/\nK X (aJ op) r:=fun z=>⟨r,h1,by
  have:aJ op=JG op:=funext fun x=>funext fun y=>z x y
  rw [this];exact h2⟩
 cases op
 case In=>exact ⟨_,h1.or (Ei hu),fun B hB al HF H x y t tx ty Q sm rx ry h k=>by
  unfold aJ at h
  split at h
  ·exact .inr (Np false B hB al HF H x y t tx _ Q sm rx ry h k)
  ·rename_i q;cases q
  ·exact .inl (h2 B hB al HF H x y t tx _ Q sm rx ry h k)⟩
 case NotIn=>exact ⟨_,h1.or (xR hu),fun B hB al HF H x y t tx ty Q sm rx ry h k=>by
  unfold aJ at h
  split at h
  ·rename_i q;cases q
  ·exact .inr (Np true B hB al HF H x y t tx _ Q sm rx ry h k)
  ·exact .inl (h2 B hB al HF H x y t tx _ Q sm rx ry h k)⟩
 all_goals exact adF fun x y=>by cases y<;>rfl
theorem SG {op:CmpOp}{k:Nat}(hB:B.K=X.K) (hr:bO k X.A) (ha:PE X a (tE B fa)) (hb:PE X b (tE B fb)) (hm:behindInMarks op b=false):PE X (.Compare a [op] [b] pos) (tE B (a_ (aJ op) fa fb)):=by
 obtain ⟨r,ho,hl⟩:=kY (op:=op) hr
 exact bf (kQ ho ha hb hm) (g_ hB hl)
theorem J5 {op:CmpOp}{k:Nat}(hB:B.K=X.K) (hr:bO k X.A) (ha:PE X a (tE B fa)) (hb:PE X b (tE B fb)) (hm:behindInMarks op b=false):PT X (.Compare a [op] [b] pos) (tT B (aZ (a_ (aJ op) fa fb))):=by
 obtain ⟨r,ho,hl⟩:=kY (op:=op) hr
 exact DA (kR ho ha hb hm) fun σ H Q q=>g_ hB hl σ H _ (Nc q)
theorem pW {q:Option (Option C)}{d:List Ky × List T}(h:Ur q=some d):q=some (some (.od d.1 d.2)):=by
 unfold Ur at h
 split at h
 ·cases h;rfl
 ·cases h
theorem SR.SH (x:SR B g H σ s) {ks:List Ky}{ts:List T}(h:s.r[i]?=some (some (.od ks ts))):∃ l vs,σ[i]?=some (some (.ref l))/\g.o l=some (.loc i)/\H l=some (.dK ((ks.map lD).zip vs))/\ks.length=vs.length/\aC B g.al g.HF ts vs:=by
 obtain ⟨v,h1,l,vs,rfl,h2,h3,h4,h5⟩:=x.lc.at_ i _ h
 exact ⟨l,vs,h1,h2,h3,h4,h5⟩
theorem Ej {neg:Bool}:∀ σ H Q,tE B (aaE neg i fa) σ H Q->F9 (Us neg) (tE B fa) (qH i) σ H Q:=by
 rintro σ H Q ⟨g,s,t,s',x,h,k⟩
 obtain ⟨⟨tx,s1⟩,h1,h⟩:=af h
 obtain ⟨d,h2,h⟩:=af h
 obtain ⟨kk,h3,h⟩:=af h
 cases h
 refine ⟨g,s,tx,_,x,h1,fun v g1 H1 p1 x1 r1=>?_⟩
 obtain ⟨l,vs,w1,w2,w3,w4,w5⟩:=x1.SH (pW (az h2))
 refine ⟨_,w1,?_⟩
 rw [pU (az h3) r1]
 refine ⟨l,_,rfl,.k w3,?_⟩
 rw [pV w4]
 exact k _ g1 H1 p1 x1 rfl
theorem r_ {op:CmpOp}{neg:Bool}(hu:X.A.units+1<cLine) (h:r9 op=some neg):fj X (compareOp op) (Us neg):=by
 cases op<;>first | (cases h;done) | skip
 ·cases h;exact Ei hu
 ·cases h;exact xR hu
theorem xS {neg:Bool}(hB:B.K=X.K):∀ σ H Q,tE B (xN neg i fa) σ H Q->F9 (rQ X.K neg) (tE B fa) (qH i) σ H Q:=by
 rintro σ H Q ⟨g,s,t,s',x,h,k⟩
 obtain ⟨⟨tx,s1⟩,h1,h⟩:=af h
 obtain ⟨ts,h2,h⟩:=af h
 obtain ⟨b,h3,h⟩:=af h
 cases h
 refine ⟨g,s,tx,_,x,h1,fun v g1 H1 p1 x1 r1=>?_⟩
 obtain ⟨l,vs,w1,w2,w3,w4⟩:=x1.JT (kW (az h2))
 have hf:=(x1.st.live l _ w2).1
 refine ⟨_,w1,DP (HF:=upd g1.HF l (.lst vs)) (ty:=.lst ts) hB (fun b u e=>?_) (r1.mv dC (bo hf)) ⟨l,vs,rfl,aq,w4.mv dC (bo hf)⟩ (az h3) (k _ g1 H1 p1 x1 rfl)⟩
 by_cases hb:b=l
 ·subst hb;rw [aq] at e;cases e;exact w3
 ·rw [au hb] at e;exact x1.sub _ _ e
theorem nS {op:CmpOp}{neg:Bool}(h:r9 op=some neg):fj X (compareOp op) (rQ X.K neg):=by
 cases op<;>first | (cases h;done) | skip
 ·cases h;exact DO
 ·cases h;exact xn
theorem aaF {op:CmpOp}{neg:Bool}{k:Nat}{py:Pos}(hB:B.K=X.K) (hr:bO k X.A) (hn:r9 op=some neg) (ha:PE X a (tE B fa)) (hN:X.N[i]?=some y) (hv:t_ X.env.scope y) (hd:bQ y) (kE:iM y) :
  PE X (.Compare a [op] [.Name y py] pos) (tE B (Gh op neg i fa)):=by
 have hu:X.A.units+1<cLine:=by have:=hr.units;omega
 obtain ⟨r,ho,hl⟩:=kY (op:=op) hr
 have hm:behindInMarks op (.Name y py)=false:=by cases op<;>rfl
 refine D5 (ι:=Option Bool) (C:=fun _=>True) (t:=fun q=>match q with | some true=>F9 (Us neg) (tE B fa) (qH i) | none=>F9 (rQ X.K neg) (tE B fa) (qH i) | some false=>F9 r (tE B fa) (tE B (vF i))) (fun q _=>?_) fun σ H Q ⟨g,s,t,s',x,h,kk⟩=>?_
 ·match q with
  | some true=>exact kQ (r_ hu hn) ha (dq hN hv hd kE) hm
  | none=>exact kQ (nS hn) ha (dq hN hv hd kE) hm
  | some false=>exact kQ ho ha (DC hN hv hd kE) hm
 ·unfold Gh at h
  split at h
  ·exact ⟨some true,trivial,Ej σ H Q ⟨g,s,t,s',x,h,kk⟩⟩
  ·split at h
   ·exact ⟨none,trivial,xS hB σ H Q ⟨g,s,t,s',x,h,kk⟩⟩
   ·exact ⟨some false,trivial,g_ hB hl σ H Q ⟨g,s,t,s',x,h,kk⟩⟩
theorem SI {op:CmpOp}{neg:Bool}{k:Nat}{py:Pos}(hB:B.K=X.K) (hr:bO k X.A) (hn:r9 op=some neg) (ha:PE X a (tE B fa)) (hN:X.N[i]?=some y) (hv:t_ X.env.scope y) (hd:bQ y) (kE:iM y) :
  PT X (.Compare a [op] [.Name y py] pos) (tT B (aZ (Gh op neg i fa))):=by
 have hu:X.A.units+1<cLine:=by have:=hr.units;omega
 obtain ⟨r,ho,hl⟩:=kY (op:=op) hr
 have hm:behindInMarks op (.Name y py)=false:=by cases op<;>rfl
 have h1:=kR (pos:=pos) ho ha (DC (B:=B) hN hv hd kE) hm
 have h2:=kR (pos:=pos) (r_ hu hn) ha (dq hN hv hd kE) hm
 have h3:=kR (pos:=pos) (nS hn) ha (dq hN hv hd kE) hm
 intro aa s0 σ H Q I q
 obtain ⟨g,s,t,s',x,h,kk⟩:=Nc q
 unfold Gh at h
 split at h
 ·exact h2 aa s0 σ H Q I (Ej σ H _ ⟨g,s,t,s',x,h,kk⟩)
 ·split at h
  ·exact h3 aa s0 σ H Q I (xS hB σ H _ ⟨g,s,t,s',x,h,kk⟩)
  ·exact h1 aa s0 σ H Q I (g_ hB hl σ H _ ⟨g,s,t,s',x,h,kk⟩)
theorem Ek (hc:X.calm=true) (hml:X.mg "len" = none) (hms:X.mg "set" = none) (ha:PE X a (tE B fa)) (hgl:Gl X "len") (hgs:Gl X "set") (hs:noStar a=true) :
  PE X (.Call (.Name "len" p) [.Call (.Name "set" p1) [a] [] kH] [] pos) (tE B (bG pS fa)):=by
 refine bf (Ag hc hml hms ha hgl hgs (aH hs) rfl rfl rfl) fun σ H Q zz=>?_
 obtain ⟨g,s,t,s',x,h,k⟩:=zz
 obtain ⟨⟨tx,s1⟩,h1,h⟩:=af h
 obtain ⟨t',h2,h⟩:=af h
 cases h
 have h2:=az h2
 cases tx<;>first | (cases h2;done) | skip
 obtain ⟨z,rfl⟩:=bI h2
 refine ⟨g,s,_,_,x,h1,fun v g1 H1 p1 x1 r1=>?_⟩
 obtain ⟨rfl,hz⟩:=r1
 refine ⟨_,rfl,?_,?_,k _ g1 H1 p1 x1 rfl⟩
 ·rw [List.all_toArray];exact z.1
 ·rw [fQ]
  show _+1<4096
  have:=z.2
  omega
theorem SJ {dp:Pos}(hN:X.N.Nodup) (hi:X.N[i]?=some x) (hx:Loc X.env.scope x) (hf:X.fn x=true\/X.env.scope.names.lookup x=some .local) :
  PS X (.Assign [.Name x bR] (.Dict [] [] dp) pos) (tS B (Eh i)):=cD (oU hN hi hx Dq rfl hf) fun D σ H z=>by
 obtain ⟨g,s,o,s',x,h,k⟩:=z
 cases h
 intro q hq
 obtain ⟨gr,n1,n2⟩:=Dy (u:=.dK []) x hq
 have x1:=x.grow gr
 have p1:=x.mW gr
 refine k _ ((g.grow g.HF).own q (.loc i)) _ ⟨p1.fr,p1.pre,fun b u h n z=>?_,p1.there⟩ (x1.adk (ks:=[]) (ts:=[]) (vs:=[]) n2 n1 aq rfl rfl)
 obtain ⟨a,b',c⟩:=p1.rest b u h n z
 have:b≠q:=aO h hq
 exact ⟨a,b',by show (if b=q then some (g8.loc i) else g.o b)=none;rw [if_neg this];exact c⟩
theorem SK {py:Pos}{k:Nat}(hr:bO k X.A) (he:PE X e (tE B fa)) (hb:PE X b (tE B fb)) (hN:X.N[i]?=some y) (hv:t_ X.env.scope y) (hd:bQ y) (kE:iM y)
  (hs:swapsWith e (some (.Subscript (.Name y py) b bR)) pos.line X.env=pure false) :
  PS X (.Assign [.Subscript (.Name y py) b bR] e pos) (tS B (xO i fb fa)):=by
 have hu:X.A.units+1<cLine:=by have:=hr.units;omega
 refine cD (Ju hu (dq hN hv hd kE) hb he hs) fun D σ H zz=>?_
 obtain ⟨g,s,o,s',x,h,k⟩:=zz
 obtain ⟨⟨t,s1⟩,h1,h⟩:=af h
 obtain ⟨⟨tk,s2⟩,h2,h⟩:=af h
 obtain ⟨d0,h3,h⟩:=af h
 obtain ⟨d,h4,h⟩:=af h
 obtain ⟨kk,h5,h⟩:=af h
 obtain ⟨_,h6,h⟩:=af h
 obtain ⟨z,_⟩:=bI (az h6)
 cases h
 refine ⟨g,s,t,s1,x,h1,fun v g1 H1 p1 x1 r1=>?_⟩
 obtain ⟨l,vs,w1,w2,w3,w4,w5⟩:=x1.SH (pW (az h3))
 refine ⟨_,w1,g1,s1,tk,s2,x1,h2,fun u g2 H2 p2 x2 r2=>?_⟩
 have ho:=pW (az h4)
 obtain ⟨l',eA,q1,q2,q3,q4,q5⟩:=x2.SH ho
 rw [w1] at q1;cases q1
 obtain ⟨vs2,e1,e2,e3⟩:=SE (k:=kk) q4 q5 (r1.mv p2.pre p2.fr)
 obtain ⟨x3,p3⟩:=x2.adl ho w1 e2 e3
 rw [pU (az h5) r2]
 refine ⟨l,_,rfl,.k q3 ?_,?_⟩
 ·rw [Bs,cT,sizeLine_eq]
  have:d.1.length<1000000:=z
  omega
 ·rw [e1]
  exact k σ g2 _ ((p1.trans p2).trans p3) x3
end
def jZ (f:Fn) (fl:FL):FE:=fun s=>(fl s).bind fun p=>if p.1.all bq=true then (match f p.1 [] with
 | .ok q=>if noOwn q.1=true then .ok (q.1,p.2) else .bad
 | _=>.bad) else .bad
def sd (i:Nat) (a:FE):FS:=fun s=>(a s).bind fun p=>.ok (.nx,i7 p.2 i (.yg p.1))
def tY (B:KT) (f:FE):TE:=fun σ H Q=>∃ g s t s',SR B g H σ s/\f s=.ok (t,s')/\∀ v HY g' H',dJ g H g' H'->SR B g' H' σ s'->(∀ b u,HY b=some u->g'.HF b=none/\g'.o b=none/\H b=none/\H' b=some u)->Rep B [] HY t v->Q v H'
section
theorem SR.keep (x:SR B g H σ s) (kp:∀ b u,H b=some u->H' b=some u):SR B g H' σ s:=by
 have ow:∀ l p,g.o l=some p->H' l=H l:=fun l p h=>by
  obtain ⟨_,u,e⟩:=x.st.live l p h
  rw [e];exact kp l u e
 exact ⟨x.st.mv (fun b u e=>kp b u (x.sub b u e)) (fun b p e=>let ⟨h1,u,h2⟩:=x.st.live b p e;⟨h1,u,kp b u h2⟩) (aN.refl _) rfl fun l p h _=>⟨h,ow l p h⟩,x.lc.len,fun j c e=>let ⟨v,h1,h2⟩:=x.lc.at_ j c e;⟨v,h1,bB.mv (g:=g) (g':=g) (aN.refl _) dC (fun l h=>⟨h,ow l _ h⟩) h2⟩⟩
theorem xT {al al':List Addr}{HF eM:Hp}{t:T}{v:V}(h:bq t=true) (r:Rep B al HF t v):Rep B al' eM t v:=by
 cases t<;>first | (cases h;done) | exact r
theorem se {al al':List Addr}{HF eM:Hp}:∀ {ts:List T}{vs:List V},ts.all bq=true->aC B al HF ts vs->aC B al' eM ts vs
 | [],_,_,r=>r
 | t::ts,_,h,r=>by
  rw [ee,c6] at h
  obtain ⟨v,us,e,r1,r2⟩:=r
  exact ⟨v,us,e,xT h.1 r1,se h.2 r2⟩
theorem J7 {k j:Nat}{f:Fn}(D:DnF P X.prog X.w X.K X.mg X.base k x [] f) (hr:bO j X.A) (rX:k<=j) (ha:PA X (e::es) (tA (P.kt X) fl)) (hg:Gl X x) (jQ:bQ x) (hs:(e::es).all noStar=true) :
  PE X (.Call (.Name x p) (e::es) [] pos) (tY (P.kt X) (jZ f fl)):=by
 obtain ⟨ff,fd,ps,i6,dV,F,hm,hk,hb,hd,Ao⟩:=D.ex
 rw [ee,c6] at hs
 refine bf (oZ F (hr.mono rX) hg hm hk hb hd jk ha jQ (aH hs.1) (cY hs.2)) fun σ H Q zz=>?_
 obtain ⟨g,s,t,s',x,h,k⟩:=zz
 obtain ⟨⟨ts,s1⟩,h1,h⟩:=af h
 dsimp only at h
 split at h
 case isFalse=>cases h
 rename_i hfl
 split at h
 case h_2=>cases h
 rename_i q hq
 split at h
 case isFalse=>cases h
 rename_i Av
 cases h
 refine ⟨g,s,ts,_,x,h1,fun vs g1 H1 p1 x1 r1=>?_⟩
 have rr:=se (al':=[]) (eM:=fun _=>none) (ts:=ts++[]) (by rw [dH];exact hfl) (r1.app (Ao g1.al g1.HF))
 refine ⟨⟨fun _=>none,fun _=>none,[]⟩,ts++[],[],q.1,q.2,⟨fun _ _ e=>(by cases e),fun _ _ e=>(by cases e),rfl,fun _ _ e=>(by simp at e)⟩,rr,by rw [dH];exact hq,fun v g' H' p2 y2 rv=>?_⟩
 have kp:∀ b u,H1 b=some u->H' b=some u:=fun b u e=>(p2.rest b u e rfl rfl).1
 have nw:∀ b u,g'.HF b=some u->H1 b=none:=fun b u e=>by
  cases w:H1 b with
  | none=>rfl
  | some u'=>have:=(p2.rest b u' w rfl rfl).2.1;rw [this] at e;cases e
 refine k v g'.HF g1 H' (p1.trans ⟨aN.refl _,dC,fun b u h n z=>⟨kp b u h,n,z⟩,p2.there⟩) (x1.keep kp) (fun b u e=>⟨?_,?_,p1.there b (nw b u e),y2.sub b u e⟩) (Rep.no Av rv)
 ·cases w:g1.HF b with
  | none=>rfl
  | some u'=>have:=x1.sub b u' w;rw [nw b u e] at this;cases this
 ·cases w:g1.o b with
  | none=>rfl
  | some q=>obtain ⟨_,u',z⟩:=x1.st.live b q w;rw [nw b u e] at z;cases z
def G.J8 (g:G) (HY:Hp) (i:Nat):G:={ g with o:=fun b=>if (HY b).isSome then some (.loc i) else g.o b }
theorem SR.J8 (x:SR B g H σ s) {HY:Hp}{t:T}{v:V}(hn:∀ b u,HY b=some u->g.HF b=none/\g.o b=none/\H b=some u) (r:Rep B [] HY t v):SR B (g.J8 HY i) H (σ.set i (some v)) (i7 s i (.yg t)):=by
 have ow:∀ l p,g.o l=some p->(g.J8 HY i).o l=some p:=fun l p h=>by
  show (if (HY l).isSome then some (g8.loc i) else g.o l)=_
  cases w:HY l with
  | none=>exact h
  | some u=>have:=(hn l u w).2.1;rw [h] at this;cases this
 refine ⟨x.st.mv x.sub (fun b p e=>?_) (aN.refl _) rfl fun l p h _=>⟨ow l p h,rfl⟩,x.lc.set (c:=.yg t) ⟨HY,fun b u e=>⟨?_,(hn b u e).2.2⟩,r⟩ fun j c v _ q=>bB.mv (g:=g) (g':=g.J8 HY i) (aN.refl _) dC (fun l h=>⟨ow l _ h,rfl⟩) q⟩
 ·have e:(if (HY b).isSome then some (g8.loc i) else g.o b)=some p:=e
  cases w:HY b with
  | none=>rw [w] at e;exact x.st.live b p e
  | some u=>exact ⟨(hn b u w).1,u,(hn b u w).2.2⟩
 ·show (if (HY b).isSome then some (g8.loc i) else g.o b)=_
  rw [e];rfl
theorem dJ.J8 (q:dJ g H g1 H1) {HY:Hp}(hn:∀ b u,HY b=some u->H b=none):dJ g H (g1.J8 HY i) H1:=⟨q.fr,q.pre,fun b u h n z=>(by
 obtain ⟨h1,h2,h3⟩:=q.rest b u h n z
 refine ⟨h1,h2,?_⟩
 show (if (HY b).isSome then some (g8.loc i) else g1.o b)=none
 cases w:HY b with
 | none=>exact h3
 | some u'=>have:=hn b u' w;rw [h] at this;cases this),q.there⟩
theorem SM (hN:X.N.Nodup) (hi:X.N[i]?=some x) (hx:Loc X.env.scope x) (he:PE X e (tY B fa)) (hs:swapsWith e (some (.Name x bR)) pos.line X.env=pure false) (hf:X.fn x=true\/X.env.scope.names.lookup x=some .local) :
  PS X (.Assign [.Name x bR] e pos) (tS B (sd i fa)):=cD (oU hN hi hx he hs hf) fun D σ H z=>by
 obtain ⟨g,s,o,s',x,h,k⟩:=z
 obtain ⟨⟨t,s1⟩,e1,h⟩:=af h
 cases h
 exact ⟨g,s,t,s1,x,e1,fun v HY g1 H1 p1 x1 hy r=>k _ (g1.J8 HY i) H1 (p1.J8 fun b u e=>(hy b u e).2.2.1) (x1.J8 (fun b u e=>⟨(hy b u e).1,(hy b u e).2.1,(hy b u e).2.2.2⟩) r)⟩
end
def SN (s:S) (i:Nat):Option T:=match s.r[i]? with
 | some (some (.val t))=>some t
 | some (some (.yg t))=>some t
 | _=>none
def xU (s:S):List Nat->Option (List T)
 | []=>some []
 | i::is=>(SN s i).bind fun t=>(xU s is).map (t::·)
def Ut (f:Fn) (is:List Nat):FE:=fun s=>(cK (xU s is)).bind fun ts=>if aB ts=true then (match f ts [] with
 | .ok q=>if bq q.1=true then .ok (q.1,s) else .bad
 | _=>.bad) else .bad
def xV:List Nat->TA
 | []=>Ce
 | i::is=>Mc (qH i) (xV is)
section
def G.J9 (g:G) (H:Hp):Hp:=fun b=>match g.o b with
 | some (.loc _)=>H b
 | _=>g.HF b
theorem xW (x:SR B g H σ s):aN (g.J9 H) H:=fun b u e=>by
 unfold G.J9 at e
 split at e
 ·exact e
 ·exact x.sub b u e
theorem SO (x:SR B g H σ s):aN g.HF (g.J9 H):=fun b u e=>by
 unfold G.J9
 split
 ·rename_i j w;rw [(x.st.live b _ w).1] at e;cases e
 ·exact e
theorem El (x:SR B g H σ s) {t:T}(h:SN s i=some t) (hn:noOwn t=true):∃ v,σ[i]?=some (some v)/\Rep B [] (g.J9 H) t v:=by
 unfold SN at h
 split at h
 ·rename_i t' w;cases h
  obtain ⟨v,h1,h2⟩:=x.lc.at_ i _ w
  exact ⟨v,h1,(Rep.no hn h2).same (SO x)⟩
 ·rename_i t' w;cases h
  obtain ⟨v,h1,HY,h2,h3⟩:=x.lc.at_ i _ w
  refine ⟨v,h1,h3.same fun b u e=>?_⟩
  obtain ⟨h4,h5⟩:=h2 b u e
  unfold G.J9
  rw [h4];exact h5
 ·cases h
theorem Em (x:SR B g H σ s) {Q:List V->Hp->Prop}:∀ {is:List Nat}{ts:List T},xU s is=some ts->aB ts=true->∀ {Q:List V->Hp->Prop},(∀ vs,aC B [] (g.J9 H) ts vs->Q vs H)->xV is σ H Q
 | [],_,h,_,Q,k=>by cases h;exact k [] rfl
 | i::is,_,h,hn,Q,k=>by
  obtain ⟨t,h1,h2⟩:=e9.mp h
  obtain ⟨ts,h3,rfl⟩:=cV.mp h2
  have hn:(noOwn t&&aB ts)=true:=hn
  rw [c6] at hn
  obtain ⟨v,e,r⟩:=El x h1 hn.1
  exact ⟨v,e,Em x (Q:=Q) h3 hn.2 fun vs rs=>k _ ⟨v,vs,rfl,r,rs⟩⟩
theorem adG {k j:Nat}{f:Fn}{is:List Nat}(D:DnF P X.prog X.w X.K X.mg X.base k x [] f) (hr:bO j X.A) (rX:k<=j) (ha:PA X (e::es) (xV is)) (hg:Gl X x) (jQ:bQ x) (hs:(e::es).all noStar=true) :
  PE X (.Call (.Name x p) (e::es) [] pos) (tE (P.kt X) (Ut f is)):=by
 obtain ⟨ff,fd,ps,i6,dV,F,hm,hk,hb,hd,Ao⟩:=D.ex
 rw [ee,c6] at hs
 refine bf (oZ F (hr.mono rX) hg hm hk hb hd jk ha jQ (aH hs.1) (cY hs.2)) fun σ H Q zz=>?_
 obtain ⟨g,s,t,s',x,h,k⟩:=zz
 obtain ⟨ts,h1,h⟩:=af h
 split at h
 case isFalse=>cases h
 rename_i Av
 split at h
 case h_2=>cases h
 rename_i q hq
 split at h
 case isFalse=>cases h
 rename_i hfl
 cases h
 refine Em (Q:=fun _ _=>True) x (az h1) Av fun vs rs=>?_
 refine ⟨⟨g.J9 H,fun _=>none,[]⟩,ts++[],[],q.1,q.2,⟨xW x,fun _ _ e=>(by cases e),rfl,fun _ _ e=>(by simp at e)⟩,rs.app (Ao _ _),by rw [dH];exact hq,fun v g' H' p2 y2 rv=>?_⟩
 have kp:∀ b u,H b=some u->H' b=some u:=fun b u e=>by
  cases w:g.J9 H b with
  | none=>exact (p2.rest b u e w rfl).1
  | some u'=>
   have:=xW x b u' w
   rw [e] at this;cases this
   exact y2.sub b u (p2.fr b u w)
 exact k v g H' ⟨aN.refl _,dC,fun b u h n z=>⟨kp b u h,n,z⟩,p2.there⟩ (x.keep kp) (xT hfl rv)
end
def xX (tab:List (List Nat)) (f i:Nat):FS:=fun s=>match s.r[i]? with
 | some (some (.yg (.obj c fs)))=>(match (Ah tab c f).bind fun j=>fs[j]? with
  | some (.lst _)=>.ok (.nx,{ s with r:=s.r.set i none })
  | _=>.bad)
 | _=>.bad
section
theorem SR.gone (x:SR B g H σ s) {l:Addr}{u:HO}(ho:g.o l=some (.loc i)):SR B g (upd H l u) σ { s with r:=s.r.set i none }:=by
 refine ⟨pF x.st ho,by rw [gC];exact x.lc.len,fun j c e=>?_⟩
 have e:(s.r.set i none)[j]?=some (some c):=e
 by_cases hj:i=j
 ·subst hj
  have fL:i<s.r.length:=by have:=(cU.mp e).1;rw [gC] at this;exact this
  rw [gB fL] at e
  cases e
 ·rw [iH hj] at e
  obtain ⟨v,h1,h2⟩:=x.lc.at_ j c e
  refine ⟨v,h1,bB.mv (g:=g) (g':=g) (aN.refl _) dC (fun b hb=>⟨hb,au fun z=>hj ?_⟩) h2⟩
  rw [z,ho] at hb
  cases hb;rfl
theorem SQ (O:mX X.K X.mg P) {f:Nat}{nm:Str}{py ap:Pos}(hf:P.an[f]?=some nm) (hN:X.N[i]?=some y) (hv:t_ X.env.scope y) (hd:bQ y) (kE:iM y) (ji:(cP.endLine == eL.line)=true) :
  PS X (.Expr (.Call (.Attribute (.Attribute (.Name y py) nm ap) "clear" cP) [] [] eL) pos) (tS (P.kt X) (xX P.tab f i)):=by
 refine cD (oR (OM PySem.F.plainAttrs_list PySem.F.slot_list_clear PySem.F.type_list_clear Cy (Cd (dq hN hv hd kE) (iu rfl)) (iu rfl) ji) rfl) fun D σ H zz=>?_
 obtain ⟨g,s,o,s',x,h,k⟩:=zz
 unfold xX at h
 split at h
 case h_2=>cases h
 rename_i c fs w
 split at h
 case h_2=>cases h
 rename_i ts q
 cases h
 obtain ⟨j,h3,h4⟩:=e9.mp q
 obtain ⟨v,h1,HY,h2,a,C,dx,ns,vs,rfl,hC,hq,hl,hdx,r⟩:=x.lc.at_ i _ w
 obtain ⟨m,hm,nG,F⟩:=O.of hC
 have hj:=kU hf nG h3
 obtain ⟨w',hw,l,us,rfl,ql,_⟩:=r.get h4
 have oh:=h2 a _ hq
 have ol:=h2 l _ ql
 exact ⟨_,h1,a,C,dx,_,.ref l,rfl,oh.2,F.cl,F.na _ (iJ hj),by rw [gj F.nd hj,hw],.inl ⟨rfl,us,du.of ol.2⟩,l,us,rfl,rfl,ol.2,k σ g _ (jt ol.1) (x.gone ol.1)⟩
end
end D
namespace D
open PySem PyProof L2
def En (i j:Nat) (fl:FL):FS:=fun s=>(fl s).bind fun p=>(cK (nJ [i,j] p.1 p.2.r)).bind fun r=>.ok (.nx,{ p.2 with r:=r })
theorem aaG {B:KT}{X:Cx}{a b:Expr}{pos px py pt:Pos}{kt k2 pt2}{fl:FL}{x y:Str}{i j:Nat}(hc:X.calm=true) (hN:X.N.Nodup) (hi:X.N[i]?=some x) (hj:X.N[j]?=some y) (hij:i≠j)
  (hx:X.env.scope.names.lookup x=some .local) (hy:X.env.scope.names.lookup y=some .local) (ha:PA X [a,b] (tA B fl))
  (hw:swappedStores [.Tuple [.Name x px,.Name y py] kt pt] (.Tuple [a,b] k2 pt2) X.env=pure (some [x,y])) :
  PS X (.Assign [.Tuple [.Name x px,.Name y py] kt pt] (.Tuple [a,b] k2 pt2) pos) (tS B (En i j fl)):=cD (Om hc hN hi hj hij hx hy ha hw) fun D σ H zz=>by
 obtain ⟨g,s,o,s',z,h,k⟩:=zz
 obtain ⟨⟨ts,s1⟩,e1,h⟩:=af h
 obtain ⟨r',e2,h⟩:=af h
 cases h
 refine ⟨g,s,ts,s1,z,e1,fun vs g1 H1 p1 x1 r1=>?_⟩
 have e2:=az e2
 cases ts with
 | nil=>cases e2
 | cons t ts=>cases ts with
  | nil=>cases e2
  | cons u ts=>cases ts with
   | cons _ _=>cases e2
   | nil=>
    cases e2
    obtain ⟨v,_,rfl,q1,w,eA,rfl,q2,q3⟩:=r1
    cases (show eA=[] from q3)
    exact ⟨v,w,rfl,k _ g1 H1 p1 ⟨x1.st,x1.lc.sets rfl (.cons x1.lc.len q1 (.one (by rw [gC,gC];exact x1.lc.len) q2))⟩⟩
end D
namespace D
open PySem
structure Lc where
 N:List Str
 sc:Scope
 mu:List Str
inductive Ck where
 | fz (c n:Nat) | z0 (c:Nat) | cp (c:Nat) | nw (c i:Nat)
structure Gm where
 P:Pg
 cs:List (Str × T)
 fs:List (Str × List T × Nat)
 cl:List (Str × Ck)
 ms:List (Str × List (Nat × Nat))
 bl:List Str
 bx:List Str:=[]
 yg:List Str:=[]
def Gm.bc (M:Gm):Nat:=M.P.cn.length+M.P.tab.length
theorem Gm.SS (M:Gm):M.P.cn[M.bc]?=none:=Ly (uf _ _)
theorem Gm.adH (M:Gm):M.P.fn[M.bc]?=none:=Ly (by unfold Pg.fn;rw [cT];exact Nat.le_add_left _ _)
def hU (N:List Str) (x:Str):Option Nat:=N.idxOf? x
def nT (x:Str):Bool:=x == ("__debug__" : Str) || x == ("__classdict__" : Str)
def iU (L:Lc) (x:Str):Bool:=match L.sc.names.lookup x with
 | some .local=>!nT x
 | some .cell=>!nT x
 | _=>false
def Aw (L:Lc) (x:Str):Bool:=decide (L.sc.names.lookup x=some .globalImplicit)&&!nT x
def aaH:Expr->Option (List Expr)
 | .Tuple es _ _=>some es
 | _=>none
def jE:Expr->Option Const
 | .Constant c _ _=>some c
 | _=>none
def J_:Expr->Option (Expr × Int × Option Expr)
 | .FormattedValue a i o _=>some (a,i,o)
 | _=>none
def km (e:Expr):Option Str:=match jE e with
 | some (.str x)=>some x
 | _=>none
structure Rc where
 E:Lc->Expr->FE
 T:Lc->Expr->FT
 I:Lc->Expr->Expr->FL
 O:Lc->Expr->FL
def dF:List FE->FL
 | []=>b_
 | a::r=>dY a (dF r)
def SW:List FE->FE
 | []=>bF
 | [a]=>a
 | a::r=>orV a (SW r)
def Eo:List FE->FE
 | []=>bF
 | [a]=>a
 | a::r=>dI a (Eo r)
def SX:List FT->FT
 | []=>mT
 | [a]=>a
 | a::r=>gz a (SX r)
def Ep:List FT->FT
 | []=>mT
 | [a]=>a
 | a::r=>dw a (Ep r)
def Er (sc outer:Scope):Scope:={ sc with names:=sc.names.map fun (n,k)=>if (k == NameKind.free&&outer.kind == .function&&outer.names.lookup n == some .cell) then (n,NameKind.cell) else (n,k) }
def locals (sc:Scope):List Str:=sc.names.filterMap fun p=>if p.2=.local then some p.1 else none
def frees (sc:Scope):List Str:=sc.names.filterMap fun p=>if p.2=.free then some p.1 else none
def idxs (N:List Str):List Str->Option (List Nat)
 | []=>some []
 | x::xs=>(hU N x).bind fun i=>(idxs N xs).map (i::·)
def SY (L:Lc) (sc:Scope):Bool:=decide (sc.kind=.function)&&sc.names.all (fun p=>decide (p.2≠.cell)&&(decide (p.2=.local)->decide (sc.names.lookup p.1=some .local))&&(decide (p.2=.free)->(decide (sc.names.lookup p.1=some .free)&&decide (L.sc.names.lookup p.1=some .cell))))&&decide (L.sc.kind=.function)
def Uu (N:List Str) (ok:Str->Bool):Expr->Option (FG × List Nat)
 | .Name x _=>if ok x then (hU N x).map fun i=>(setG i,[i]) else none
 | .Tuple es _ _=>(namesOf es).bind fun xs=>if xs.all ok then (idxs N xs).map fun is=>(eG is,is) else none
 | _=>none
def isSet:Expr->Bool
 | .Set _ _ _=>true
 | _=>false
def Nq (r:Rc) (L:Lc):List Expr->FT
 | []=>dg
 | [c]=>r.T L c
 | _=>mT
def Es (L:Lc) (sc:Scope):Lc:=⟨locals sc++frees sc,Er sc L.sc,[]⟩
def lP (r:Rc) (L:Lc) (elt:Expr) (q:Comprehension) (sc:Scope):FL:=if q.is_async=0/\(SY L sc&&decide ((locals sc++frees sc).Nodup)&&!isSet q.iter&&decide (q.ifs.length<=1))=true then (match idxs L.N (frees sc),Uu (locals sc) (fun x=>decide (sc.names.lookup x=some .local)) q.target with
  | some js,some (g,_)=>bj (r.I L q.target q.iter) (locals sc).length js g (Nq r (Es L sc) q.ifs) (r.E (Es L sc) elt)
  | _,_=>iB) else iB
def nU (r:Rc) (L:Lc):Expr->FL
 | .ListComp elt gs sc _=>(match gs with
  | [g]=>lP r L elt g sc
  | _=>iB)
 | _=>iB
def S2 (r:Rc) (L:Lc):Option Expr->FO
 | none=>rJ
 | some e=>kJ (r.E L e)
def isSlice:Expr->Bool
 | .Slice _ _ _ _=>true
 | _=>false
def sf (M:Gm) (L:Lc):List Str->Option (List Nat)
 | []=>some []
 | y::ys=>if Aw L y&&((hU M.P.cn y).bind fun d=>M.P.fn[d]?).isSome then (hU M.P.cn y).bind fun d=>(sf M L ys).map (d::·) else none
def blt (M:Gm) (L:Lc) (x:Str):Bool:=M.bl.contains x&&Aw L x
def isF (M:Gm) (r:Rc) (L:Lc) (a:Expr):Expr->FE
 | .Name y _=>(match rV.lookup y with
  | some ty=>if M.bl.contains y&&Aw L y then bG (ua ty) (r.E L a) else bF
  | none=>(match sf M L [y] with
   | some ds=>bG (cz M.P.sub ds) (r.E L a)
   | none=>bF))
 | .Tuple es _ _=>if es.length<=100 then (match (namesOf es).bind (sf M L) with
  | some ds=>bG (cz M.P.sub ds) (r.E L a)
  | none=>bF) else bF
 | _=>bF
def aE (l:List (Nat × Nat)) (aj:Nat->Fn) (c:Nat):Option Fn:=(l.lookup c).map aj
def aaI (L:Lc):Expr->Option Nat
 | .Name y _=>if L.mu.contains y&&iU L y then hU L.N y else none
 | _=>none
def sj (r:Rc) (L:Lc) (a:Expr) (op:CmpOp) (b:Expr):FE:=match r9 op,aaI L b with
 | some neg,some i=>Gh op neg i (r.E L a)
 | _,_=>a_ (aJ op) (r.E L a) (r.E L b)
def nV (M:Gm) (L:Lc) (f:Str):List Expr->Option Expr
 | [e]=>(jX e).bind fun q=>(match q.2.1,q.2.2 with
  | [a],[]=>if f=("len" : Str)/\q.1=("set" : Str)/\blt M L ("set" : Str)=true/\noStar a=true then some a else none
  | _,_=>none)
 | _=>none
def Et (L:Lc):List Expr->Option (List Nat)
 | []=>some []
 | e::es=>(asName e).bind fun y=>if iU L y then (hU L.N y).bind fun i=>(Et L es).map (i::·) else none
def aaJ (M:Gm) (es:List Expr):Bool:=es.any fun e=>((asName e).map M.yg.contains).getD false
def vR (M:Gm) (aj:Nat->Fn) (r:Rc) (L:Lc) (f:Str) (args:List Expr):FE:=
 if args.all noStar then (match M.fs.lookup f with
  | some (ds,i)=>if Aw L f then (if aaJ M args then (match ds,Et L args with
   | [],some is=>Ut (aj i) is
   | _,_=>bF) else ai (aj i) ds (dF (args.map (r.E L)))) else bF
  | none=>(match M.cl.lookup f with
   | some (.fz c n)=>if Aw L f&&!args.isEmpty then c8 c n (dF (args.map (r.E L))) else bF
   | some (.z0 c)=>if Aw L f&&args.isEmpty then c8 c 0 b_ else bF
   | some (.cp c)=>(match args with
    | [a]=>if Aw L f then bG (RN c) (r.E L a) else bF
    | _=>bF)
   | some (.nw c i)=>if Aw L f&&!args.isEmpty then Ai c (aj i) (dF (args.map (r.E L))) else bF
   | none=>if blt M L f then (match f == ("isinstance" : Str),args with
     | true,[a,q]=>isF M r L a q
     | _,_=>(match f == ("len" : Str),args with
      | true,[.Name y p]=>(match hU L.N y with
       | some i=>if L.mu.contains y&&iU L y then fD i else aK ba (dF [r.E L (.Name y p)])
       | none=>aK ba (dF [r.E L (.Name y p)]))
      | _,_=>(match nV M L f args with
       | some a=>bG pS (r.E L a)
       | none=>(match vM.lookup f,args with
        | some g,_::_=>aK g (dF (args.map (r.E L)))
        | _,_=>bF)))) else bF)) else bF
def Eu:Const->FE
 | .int i=>cF (.int i)
 | .bool b=>cF (.bl b)
 | .none=>cF .non
 | .str s=>if s.length<=1000000 then cF (.str s.cps.toList) else bF
 | _=>bF
def Ew (M:Gm) (L:Lc) (x:Str):FE:=match hU L.N x with
 | some i=>if iU L x then vF i else bF
 | none=>(match M.cs.lookup x with
  | some t=>if Aw L x then cF t else bF
  | none=>bF)
def unE (a:FE):UnaryOp->FE
 | .USub=>bG kI a
 | .Not=>rH a
 | _=>bF
def boE (l:List FE):BoolOp->FE
 | .And=>Eo l
 | .Or=>SW l
def adI (r:Rc) (L:Lc) (a:Expr):List CmpOp->List Expr->FE
 | [op],[b]=>if behindInMarks op b then bF else sj r L a op b
 | _,_=>bF
def ixE (M:Gm) (r:Rc) (L:Lc) (o i:Expr):FE:=match (asName o).bind fun y=>(hU L.N y).map fun k=>(y,k) with
 | some (y,k)=>if L.mu.contains y&&iU L y then bF else if M.bx.contains y then kL M.bc (r.E L o) (r.E L i) else a_ gi (r.E L o) (r.E L i)
 | none=>a_ gi (r.E L o) (r.E L i)
def S3 (M:Gm) (r:Rc) (L:Lc) (o:Expr):Expr->FE
 | .Slice lo hi st _=>(match st with
  | none=>mU (r.E L o) (S2 r L lo) (S2 r L hi)
  | some _=>bF)
 | i=>ixE M r L o i
def adJ (M:Gm) (r:Rc) (L:Lc) (o:Expr) (f:Str):FE:=if dM o then (match hU M.P.an f with
  | some j=>aG M.P.tab j (r.E L o)
  | none=>bF) else bF
def joE (r:Rc) (L:Lc):List Expr->FE
 | [e,q,f]=>(match km e,J_ q,km f with
  | some x,some (a,cv,none),some y=>if cv=-1/\x.length<=1000/\y.length<=1000 then bG (nR x.cps.toList y.cps.toList) (r.E L a) else bF
  | _,_,_=>bF)
 | _=>bF
def S4 (M:Gm) (aj:Nat->Fn) (r:Rc) (L:Lc) (o:Expr) (m:Str) (ap:Pos) (args:List Expr) (cp:Pos):FE:=if dM o&&args.all noStar&&decide (args.length<29)&&ap.endLine == cp.line then (match M.ms.lookup m with
   | some l=>aM (aE l aj) (r.E L o) (dF (args.map (r.E L)))
   | none=>(match vL.lookup m,args with
    | some g,_::_=>jB g (r.E L o) (dF (args.map (r.E L)))
    | _,_=>bF)) else bF
def adK (M:Gm) (aj:Nat->Fn) (r:Rc) (L:Lc) (args:List Expr) (cp:Pos):Expr->FE
 | .Name f _=>vR M aj r L f args
 | .Attribute o m ap=>S4 M aj r L o m ap args cp
 | _=>bF
def Nr (M:Gm) (aj:Nat->Fn) (r:Rc) (L:Lc):Expr->FE
 | .Constant c _ _=>Eu c
 | .Name x _=>Ew M L x
 | .BinOp a op b _=>a_ (bw op) (r.E L a) (r.E L b)
 | .UnaryOp op a _=>unE (r.E L a) op
 | .BoolOp op es _=>boE (es.map (r.E L)) op
 | .Compare a ops bs _=>adI r L a ops bs
 | .IfExp c a b _=>qu (r.T L c) (r.E L a) (r.E L b)
 | .Tuple es _ _=>if es.all noStar then aK aL (dF (es.map (r.E L))) else bF
 | .List es _=>if es.all noStar then aK eU (dF (es.map (r.E L))) else bF
 | .Subscript o i _=>S3 M r L o i
 | .Attribute o f _=>adJ M r L o f
 | .JoinedStr vs _=>joE r L vs
 | .ListComp elt gs sc p=>bP (nU r L (.ListComp elt gs sc p))
 | .Call f args ks cp=>(match ks with
  | []=>adK M aj r L args cp f
  | _::_=>bF)
 | _=>bF
def boT (l:List FT):BoolOp->FT
 | .And=>Ep l
 | .Or=>SX l
def adL (r:Rc) (L:Lc) (a:Expr):List CmpOp->List Expr->FT
 | [op],[b]=>if behindInMarks op b then mT else aZ (sj r L a op b)
 | _,_=>mT
def stepT (r:Rc) (L:Lc) (e:Expr):FT:=match e with
 | .BoolOp op es _=>boT (es.map (r.T L)) op
 | .UnaryOp op a _=>(match op with
  | .Not=>bz (r.T L a)
  | _=>tB (r.E L e))
 | .Compare a ops bs _=>adL r L a ops bs
 | .IfExp _ _ _ _=>mT
 | _=>tB (r.E L e)
def xY (e:Expr):Option (List Expr):=(jX e).bind fun q=>if q.1=("range" : Str)/\q.2.2.isEmpty=true then some q.2.1 else none
noncomputable def sy (e:Expr):Option (Expr × Int):=(jX e).bind fun q=>if q.1=("enumerate" : Str) then (match q.2.1 with
 | [a]=>(match q.2.2 with
  | []=>some (a,0)
  | [w]=>(match jE w.value with
   | some (.int n)=>if w.arg=some ("start" : Str)/\n=1 then some (a,n) else none
   | _=>none)
  | _=>none)
 | _=>none) else none
def S5:Expr->Bool
 | .Tuple _ _ _=>true
 | _=>false
def Ka:Expr->Bool
 | .Name _ _=>true
 | _=>false
def stepI (M:Gm) (r:Rc) (L:Lc) (tg e:Expr):FL:=match xY e with
 | some args=>if blt M L ("range" : Str)&&args.all noStar then (match args with
   | [a]=>wZ mV (dF [r.E L a])
   | _=>iB) else iB
 | none=>(match sy e with
  | some (a,n)=>if blt M L ("enumerate" : Str)&&S5 tg&&noStar a then ki n (r.E L a) else iB
  | none=>if Ka tg then gZ (r.E L e) else JR (r.E L e))
def Nt (r:Rc) (L:Lc):Expr->FL
 | .List es _=>if es.all noStar then jT (dF (es.map (r.E L))) else iB
 | .ListComp elt gs sc p=>nU r L (.ListComp elt gs sc p)
 | _=>iB
def comp (M:Gm) (aj:Nat->Fn):Nat->Rc
 | 0=>⟨fun _ _=>bF,fun _ _=>mT,fun _ _ _=>iB,fun _ _=>iB⟩
 | n+1=>⟨Nr M aj (comp M aj n),stepT (comp M aj n),stepI M (comp M aj n),Nt (comp M aj n)⟩
def Ex (L:Lc) (t:Str) (tp:Pos):Expr->Bool
 | .ListComp _ _ sc p=>(if L.sc.kind.isAnnotationScope then ScopeKind.function else L.sc.kind) == .function&&L.sc.names.lookup t == some .local&&tp.line == p.line&&!(sc.names.any fun (n,k)=>n == t&&(k == .local || k == .cell))
 | _=>false
def sA:Expr->Bool
 | .ListComp _ _ _ _=>true
 | .SetComp _ _ _ _=>true
 | .DictComp _ _ _ _ _=>true
 | _=>false
noncomputable def xZ (mu:List Str) (e:Expr):Option (Str × Expr):=(pM e).bind fun q=>(jW q.1).bind fun w=>(asName w.1).bind fun y=>(match q.2.1,q.2.2.1 with
 | [a],[]=>if w.2.1=("append" : Str)/\mu.contains y=true/\noStar a=true/\(w.2.2.endLine == q.2.2.2.line)=true then some (y,a) else none
 | _,_=>none)
def Ey:Expr->Bool
 | .Dict [] [] _=>true
 | _=>false
def aaK (M:Gm) (aj:Nat->Fn) (n:Nat) (L:Lc) (e:Expr):Option FE:=(jX e).bind fun q=>(match M.fs.lookup q.1 with
  | some ([],j)=>if q.2.2.isEmpty&&Aw L q.1&&q.2.1.all noStar&&!q.2.1.isEmpty then some (jZ (aj j) (dF (q.2.1.map ((comp M aj n).E L)))) else none
  | _=>none)
def x8 (M:Gm) (e:Expr):Option (Str × Str):=(pM e).bind fun q=>(jW q.1).bind fun w=>(jW w.1).bind fun v=>(asName v.1).bind fun y=>
 if w.2.1=("clear" : Str)/\M.yg.contains y=true/\(w.2.2.endLine == q.2.2.2.line)=true/\q.2.1.isEmpty=true/\q.2.2.1.isEmpty=true then some (y,v.2.1) else none
def Ez (M:Gm) (aj:Nat->Fn) (n:Nat) (L:Lc) (x:Str) (e:Expr):FS:=match hU L.N x with
 | some i=>if iU L x then (if M.yg.contains x then (match aaK M aj n L e with
  | some a=>sd i a
  | none=>bM) else if L.mu.contains x then (if Ey e then Eh i else kK i ((comp M aj n).O L e)) else aA i ((comp M aj n).E L e)) else bM
 | none=>bM
def aaL (L:Lc) (x y:Str) (px py:Pos) (a b:Expr):Bool:=((if L.sc.kind.isAnnotationScope then ScopeKind.function else L.sc.kind) == .function)&&decide (L.sc.names.lookup x=some .local)&&decide (L.sc.names.lookup y=some .local)&&(py.line == px.line)&&decide (x≠y)&&!([a,b].all (foldedForSure 8))&&!([a,b].all (constantsAlone 8))&&[a,b].all noStar
def S6:Expr->Option (Str × Pos)
 | .Name x p=>some (x,p)
 | _=>none
def aaM (L:Lc) (es:List Expr) (e:Expr):Option (Nat × Nat × Expr × Expr):=(aaH e).bind fun vs=>match es,vs with
 | [t,u],[a,b]=>(S6 t).bind fun x=>(S6 u).bind fun y=>if aaL L x.1 y.1 x.2 y.2 a b then (hU L.N x.1).bind fun i=>(hU L.N y.1).map fun j=>(i,j,a,b) else none
 | _,_=>none
def Nu:Expr->Bool
 | .Tuple vs _ _=>vs.all (foldedForSure 8)
 | _=>true
abbrev many:Nat:=1000000
def tupS (M:Gm) (aj:Nat->Fn) (n:Nat) (L:Lc) (es:List Expr) (e:Expr):FS:=match aaM L es e with
  | some (i,j,a,b)=>En i j (dF [(comp M aj n).E L a,(comp M aj n).E L b])
  | none=>if sA e || !Nu e || !es.all noStar then bM else (match Uu L.N (iU L) (.Tuple es 0 ⟨0,0,0,0⟩) with
  | some (g,_)=>vH g ((comp M aj n).E L e)
  | none=>bM)
def S7 (M:Gm) (aj:Nat->Fn) (n:Nat) (L:Lc) (o:Expr) (f:Str) (e:Expr):FS:=if sA e then bM else (match hU M.P.an f with
  | some j=>jq M.P.tab j ((comp M aj n).E L o) ((comp M aj n).E L e)
  | none=>bM)
def S8 (M:Gm) (aj:Nat->Fn) (n:Nat) (L:Lc) (o b e:Expr):FS:=match asName o with
 | some y=>if sA e then bM else if M.bx.contains y then lC M.bc ((comp M aj n).E L o) ((comp M aj n).E L b) ((comp M aj n).E L e) else (match hU L.N y with
  | some i=>if iU L y then xO i ((comp M aj n).E L b) ((comp M aj n).E L e) else bM
  | none=>bM)
 | none=>bM
def asS (M:Gm) (aj:Nat->Fn) (n:Nat) (L:Lc) (e:Expr):Expr->FS
 | .Name x _=>Ez M aj n L x e
 | .Tuple es _ _=>tupS M aj n L es e
 | .Attribute o f _=>S7 M aj n L o f e
 | .Subscript o b _=>S8 M aj n L o b e
 | _=>bM
def S9 (M:Gm) (aj:Nat->Fn) (n:Nat) (L:Lc) (t:Expr) (op:Operator) (e:Expr):FS:=match (asName t).bind fun x=>(hU L.N x).map fun i=>(x,i) with
  | some (x,i)=>if op=.Add/\iU L x=true then Dw xJ i ((comp M aj n).E L e) else bM
  | none=>bM
def exS (M:Gm) (aj:Nat->Fn) (n:Nat) (L:Lc) (e:Expr):FS:=match x8 M e with
  | some (y,nm)=>(match hU L.N y,hU M.P.an nm with
   | some i,some j=>if iU L y then xX M.P.tab j i else bM
   | _,_=>bM)
  | none=>match xZ L.mu e with
  | some (y,a)=>(match hU L.N y with
   | some i=>if iU L y then dZ i ((comp M aj n).E L a) else bM
   | none=>bM)
  | none=>if sA e then bM else cX ((comp M aj n).E L e)
def retS (M:Gm) (aj:Nat->Fn) (n:Nat) (L:Lc):Option Expr->FS
 | some e=>if L.mu.contains ("return" : Str) then ak (rK M.bc ((comp M aj n).O L e)) else ak ((comp M aj n).E L e)
 | none=>ak (cF .non)
def S_ (M:Gm) (aj:Nat->Fn) (n:Nat) (L:Lc) (b:FS) (tg it:Expr):FS:=if isSet it then bM else (match Uu L.N (iU L) tg with
  | some (g,_)=>jr ((comp M aj n).I L tg it) g b
  | none=>bM)
def stF (M:Gm) (aj:Nat->Fn) (n:Nat) (rS:Lc->List Stmt->FS) (L:Lc):Stmt->FS
 | .Assign ts e _=>(match ts with
  | [t]=>asS M aj n L e t
  | _=>bM)
 | .AugAssign t op e _=>S9 M aj n L t op e
 | .Expr e _=>exS M aj n L e
 | .Return o _=>retS M aj n L o
 | .If c a b _=>aQ ((comp M aj n).T L c) (rS L a) (rS L b)
 | .For tg it body oe _=>(match oe with
  | []=>S_ M aj n L (rS L body) tg it
  | _::_=>bM)
 | .While c body oe _=>(match oe with
  | []=>pD many ((comp M aj n).T L c) (rS L body)
  | _::_=>bM)
 | .Try body hs oe fb _=>(match hs,oe,fb with
  | _::_,[],[]=>rS L body
  | _,_,_=>bM)
 | .Pass _=>ao
 | .Break _=>ZF
 | .Continue _=>ZG
 | _=>bM
def j0 (M:Gm) (aj:Nat->Fn) (n:Nat):Nat->Lc->List Stmt->FS
 | 0,_,_=>bM
 | _+1,_,[]=>ao
 | k+1,L,[st]=>stF M aj n (j0 M aj n k) L st
 | k+1,L,st::rest=>ah (stF M aj n (j0 M aj n k) L st) (j0 M aj n k L rest)
end D
namespace D
open PySem L2
structure EA (M:Gm) (Pr:Program) (w:World) (K:bC) (mg:Str->Option Value) (base:Heap) (aj:Nat->Fn) (k:Nat):Prop where
 pg:mX K mg M.P
 cst:∀ x t,M.cs.lookup x=some t->xK K mg x t
 fns:∀ x ds i,M.fs.lookup x=some (ds,i)->DnF M.P Pr w K mg base k x ds (aj i)
 fz:∀ x c n,M.cl.lookup x=some (.fz c n)->DnC M.P Pr w K mg base k c n x
 z0:∀ x c,M.cl.lookup x=some (.z0 c)->aah M.P Pr w K mg c x
 cp:∀ x c,M.cl.lookup x=some (.cp c)->DnP M.P Pr w K mg base k c x
 nw:∀ x c i,M.cl.lookup x=some (.nw c i)->DnN M.P Pr w K mg base k c x (aj i)
 mts:∀ m l c i,M.ms.lookup m=some l->l.lookup c=some i->DnM M.P Pr w K mg base k c m (aj i)
 bl:∀ x,x∈M.bl->mg x=none
structure CxOk (M:Gm) (aj:Nat->Fn) (k:Nat) (L:Lc) (X:Cx):Prop where
 gm:EA M X.prog X.w X.K X.mg X.base aj k
 N:X.N=L.N
 sc:X.env.scope=L.sc
 calm:X.calm=true
 room:∃ j,k+1<=j/\bO j X.A
variable {X:Cx}{a b c e o:Expr}{M:Gm}{L:Lc}{es:List Expr}{i k:Nat}{aj:Nat->Fn}{cP eL p pos bR:Pos}{K:bC}{r:Rc}{x y:Str}{mg:Str->Option Value}
theorem gk {N:List Str}{x:Str}{i:Nat}(h:hU N x=some i):N[i]?=some x:=by
 unfold hU at h
 rw [Lu,Lv] at h
 obtain ⟨hj,h1,_⟩:=h
 rw [dR hj,eq_of_beq h1]
theorem dbg (h:nT x=false):bQ x/\iM x:=by
 unfold nT at h
 exact LL.mp h
theorem fM (C:CxOk M aj k L X) (h:iU L x=true):Loc X.env.scope x/\t_ X.env.scope x/\bQ x/\iM x:=by
 rw [C.sc]
 unfold iU at h
 split at h
 ·rename_i e
  obtain ⟨h1,h2⟩:=dbg (by simpa using h)
  exact ⟨.inl e,.inl e,h1,h2⟩
 ·rename_i e
  obtain ⟨h1,h2⟩:=dbg (by simpa using h)
  exact ⟨.inr e,.inr (.inl e),h1,h2⟩
 ·cases h
theorem iF (C:CxOk M aj k L X) (h:Aw L x=true):Gl X x/\bQ x:=by
 unfold Aw at h
 rw [c6] at h
 obtain ⟨h1,h2⟩:=h
 refine ⟨?_,(dbg (by simpa using h2)).1⟩
 show X.env.scope.names.lookup x=_
 rw [C.sc]
 exact of_decide_eq_true h1
def AZ (M:Gm) (X:Cx) (r:Rc) (L:Lc):Prop:=∀ e,PE X e (tE (M.P.kt X) (r.E L e))
def OkT (M:Gm) (X:Cx) (r:Rc) (L:Lc):Prop:=∀ e,PT X e (tT (M.P.kt X) (r.T L e))
def OkI (M:Gm) (X:Cx) (r:Rc) (L:Lc):Prop:=∀ tg e,PI X tg e (tI (M.P.kt X) (r.I L tg e))
def OkO (M:Gm) (X:Cx) (r:Rc) (L:Lc):Prop:=∀ e,PE X e (tO (M.P.kt X) (r.O L e))
def vS (M:Gm) (aj:Nat->Fn) (k:Nat) (r:Rc):Prop:=∀ L X,CxOk M aj k L X->AZ M X r L/\OkT M X r L/\OkI M X r L/\OkO M X r L
theorem nW {q}(h:jE e=some q):∃ k p,e=.Constant q k p:=by
 cases e<;>first | (cases h;done) | (cases h;exact ⟨_,_,rfl⟩)
theorem fF (hE:AZ M X r L):∀ es:List Expr,es.all noStar=true->PA X es (tA (M.P.kt X) (dF (es.map (r.E L))))
 | [],_=>vI
 | e::es,h=>by
  rw [ee,c6] at h
  exact pG (hE e) (fF hE es h.2) (aH h.1)
theorem sC (hE:AZ M X r L):∀ es:List Expr,PE X (.BoolOp .And es pos) (tE (M.P.kt X) (Eo (es.map (r.E L))))
 | []=>aX
 | [a]=>DH (hE a)
 | a::b::es=>RT (hE a) (sC hE (b::es))
theorem x9 (hE:AZ M X r L):∀ es:List Expr,PE X (.BoolOp .Or es pos) (tE (M.P.kt X) (SW (es.map (r.E L))))
 | []=>aX
 | [a]=>DH (hE a)
 | a::b::es=>ZN (hE a) (x9 hE (b::es))
theorem aaN:PW X e (tT (M.P.kt X) mT):=fun _ _ _ _ _ _ _ ⟨_,_,_,_,_,h,_⟩=>by cases h
theorem sD (hT:OkT M X r L):∀ es:List Expr,PW X (.BoolOp .And es pos) (tT (M.P.kt X) (Ep (es.map (r.T L))))
 | []=>aaN
 | [a]=>RS (hT a)
 | a::b::es=>ZL (hT a) (sD hT (b::es))
theorem x_ (hT:OkT M X r L):∀ es:List Expr,PW X (.BoolOp .Or es pos) (tT (M.P.kt X) (SX (es.map (r.T L))))
 | []=>aaN
 | [a]=>ZK (hT a)
 | a::b::es=>adn (hT a) (x_ hT (b::es))
theorem c5 {α:Type}{l:List (Str × α)}{x:Str}{a:α}(h:l.lookup x=some a):(x,a)∈l:=by
 induction l with
 | nil=>simp at h
 | cons p l ih=>
  obtain ⟨q,b⟩:=p
  rw [iK] at h
  split at h
  ·rename_i e
   cases h
   rw [eq_of_beq e]
   exact eE ..
  ·exact eZ _ (ih h)
theorem vU (C:CxOk M aj k L X):∀ {ys:List Str}{ds:List Nat},sf M L ys=some ds->ys.length=ds.length/\∀ (i d:Nat) (y:Str),ds[i]?=some d->ys[i]?=some y->M.P.cn[d]?=some y/\(M.P.fn[d]?).isSome=true/\Gl X y/\bQ y
 | [],ds,h=>by
  cases h
  exact ⟨rfl,fun i d y h=>by simp at h⟩
 | y::ys,ds,h=>by
  unfold sf at h
  split at h
  ·rename_i q
   rw [c6] at q
   obtain ⟨d,h1,h2⟩:=e9.mp h
   obtain ⟨Uv,h3,rfl⟩:=cV.mp h2
   obtain ⟨h4,h5⟩:=vU C h3
   obtain ⟨g1,g2⟩:=iF C q.1
   refine ⟨by simp [h4],fun i d' y' e1 e2=>?_⟩
   cases i with
   | zero=>
    simp at e1 e2
    subst e1 e2
    refine ⟨gk h1,?_,g1,g2⟩
    have q2:=q.2
    rw [h1] at q2
    exact q2
   | succ i=>exact h5 i d' y' (by simpa using e1) (by simpa using e2)
  ·cases h
theorem jF (C:CxOk M aj k L X) (h:blt M L x=true):Gl X x/\X.mg x=none/\bQ x:=by
 unfold blt at h
 rw [c6] at h
 obtain ⟨g1,g2⟩:=iF C h.2
 exact ⟨g1,C.gm.bl x (Bv.mp h.1),g2⟩
theorem aaO (C:CxOk M aj k L X) (hE:AZ M X r L) {q:Expr}(hb:blt M L ("isinstance" : Str)=true) (hs:noStar a=true):PE X (.Call (.Name "isinstance" p) [a,q] [] pos) (tE (M.P.kt X) (isF M r L a q)):=by
 obtain ⟨hg,hm,_⟩:=jF C hb
 cases q with
 | Name y py=>
  show PE X _ (tE (M.P.kt X) (match rV.lookup y with | some ty=>_ | none=>_))
  split
  ·rename_i ty Vn
   split
   ·rename_i q
    rw [c6] at q
    obtain ⟨g1,g2⟩:=iF C q.2
    exact R_ rfl (c5 Vn) hm (C.gm.bl _ (Bv.mp q.1)) (hE a) hg g1 hs
   ·exact aX
  ·split
   ·rename_i ds Ao
    obtain ⟨h1,h2⟩:=vU C Ao
    match ds,h1,h2 with
    | [d],_,h2=>
     obtain ⟨f1,f2,f3,f4⟩:=h2 0 d y rfl rfl
     exact aaf C.gm.pg f1 hm (hE a) hg f3 hs f4 f2
   ·exact aX
 | Tuple es x1 tp=>
  show PE X _ (tE (M.P.kt X) (if es.length<=100 then _ else bF))
  split
  ·rename_i hl
   split
   ·rename_i ds Ao
    obtain ⟨ys,h0,Ao⟩:=e9.mp Ao
    obtain ⟨h1,h2⟩:=vU C Ao
    exact aaw C.gm.pg h0 h1 h2 hl hm (hE a) hg hs
   ·exact aX
  ·exact aX
 | _=>exact aX
theorem vV {f:Str}{args:List Expr}(h:nV M L f args=some a):f=("len" : Str)/\blt M L ("set" : Str)=true/\noStar a=true/\∃ p1 kH,args=[.Call (.Name "set" p1) [a] [] kH]:=by
 match args,h with
 | [e],h=>
  obtain ⟨⟨g,as,ks⟩,h1,hh⟩:=e9.mp h
  obtain ⟨p1,kH,rfl⟩:=eW h1
  match as,ks,hh with
  | [a'],[],hq=>
   dsimp only at hq
   split at hq
   ·rename_i q
    obtain ⟨rfl,rfl,q3,q4⟩:=q
    cases hq
    exact ⟨rfl,q3,q4,_,_,rfl⟩
   ·cases hq
theorem EB (C:CxOk M aj k L X) {i:Nat}(h:aaI L b=some i):∃ y py,b=.Name y py/\X.N[i]?=some y/\t_ X.env.scope y/\bQ y/\iM y:=by
 cases b<;>first | (cases h;done) | skip
 replace h:(if _ then _ else none)=some i:=h
 split at h
 ·rename_i q
  rw [c6] at q
  obtain ⟨l1,l2,l3,l4⟩:=fM C q.2
  exact ⟨_,_,rfl,by rw [C.N];exact gk h,l2,l3,l4⟩
 ·cases h
theorem Kc (C:CxOk M aj k L X) (hE:AZ M X r L) {op:CmpOp}(h:behindInMarks op b=false):PE X (.Compare a [op] [b] pos) (tE (M.P.kt X) (sj r L a op b)):=by
 obtain ⟨j,hj,hr⟩:=C.room
 unfold sj
 split
 ·rename_i neg i h1 h2
  obtain ⟨y,py,rfl,q1,q2,q3,q4⟩:=EB C h2
  exact aaF rfl hr h1 (hE a) q1 q2 q3 q4
 ·exact SG rfl hr (hE a) (hE b) h
theorem EC (C:CxOk M aj k L X) (hE:AZ M X r L) {op:CmpOp}(h:behindInMarks op b=false):PT X (.Compare a [op] [b] pos) (tT (M.P.kt X) (aZ (sj r L a op b))):=by
 obtain ⟨j,hj,hr⟩:=C.room
 unfold sj
 split
 ·rename_i neg i h1 h2
  obtain ⟨y,py,rfl,q1,q2,q3,q4⟩:=EB C h2
  exact SI rfl hr h1 (hE a) q1 q2 q3 q4
 ·exact J5 rfl hr (hE a) (hE b) h
theorem ya (C:CxOk M aj k L X):∀ {es:List Expr}{is:List Nat},Et L es=some is->PA X es (xV is)
 | [],_,h=>by cases h;exact eu
 | e::es,_,h=>by
  obtain ⟨y,h0,hh⟩:=e9.mp (show (asName e).bind _=some _ from h)
  obtain ⟨py,rfl⟩:=cZ h0
  split at hh
  case isFalse=>cases hh
  rename_i q
  obtain ⟨i,h1,h2⟩:=e9.mp hh
  obtain ⟨is,h3,rfl⟩:=cV.mp h2
  obtain ⟨l1,l2,l3,l4⟩:=fM C q
  exact bZ (dq (by rw [C.N];exact gk h1) l2 l3 l4) (ya C h3) (aH rfl)
theorem ED (C:CxOk M aj k L X) (hE:AZ M X r L) (f:Str) (args:List Expr):PE X (.Call (.Name f p) args [] pos) (tE (M.P.kt X) (vR M aj r L f args)):=by
 obtain ⟨j,hj,hr⟩:=C.room
 unfold vR
 split
 case isFalse=>exact aX
 rename_i hs
 have hA:=fF hE args hs
 split
 ·rename_i ds i hf
  split
  case isFalse=>exact aX
  rename_i q
  obtain ⟨g1,g2⟩:=iF C q
  split
  ·rename_i hy
   split
   ·rename_i is _ hn
    cases args with
    | nil=>cases hy
    | cons a args=>exact adG (C.gm.fns f [] i hf) hr (by omega) (ya C hn) g1 g2 hs
   ·exact aX
  cases args with
  | nil=>exact JP (C.gm.fns f ds i hf) hr (by omega) g1 g2
  | cons a args=>exact s_call (C.gm.fns f ds i hf) hr (by omega) hA g1 g2 hs
 ·split
  ·rename_i c n hc
   split
   case isFalse=>exact aX
   rename_i q
   rw [c6] at q
   obtain ⟨g1,g2⟩:=iF C q.1
   cases args with
   | nil=>cases q.2
   | cons a args=>exact aag (C.gm.fz f c n hc) hr hj hA g1 g2 hs
  ·rename_i c hc
   split
   case isFalse=>exact aX
   rename_i q
   rw [c6] at q
   obtain ⟨g1,g2⟩:=iF C q.1
   cases args with
   | nil=>exact Sd (C.gm.z0 f c hc) g1 g2
   | cons a args=>cases q.2
  ·rename_i c hc
   split
   ·rename_i a
    split
    case isFalse=>exact aX
    rename_i q
    obtain ⟨g1,g2⟩:=iF C q
    exact Sy (C.gm.cp f c hc) hr hj (hE a) g1 g2 (by simpa using hs)
   ·exact aX
  ·rename_i c i hc
   split
   case isFalse=>exact aX
   rename_i q
   rw [c6] at q
   obtain ⟨g1,g2⟩:=iF C q.1
   cases args with
   | nil=>cases q.2
   | cons a args=>exact Sx (C.gm.nw f c i hc) hr hj hA g1 g2 hs
  ·split
   case isFalse=>exact aX
   rename_i hb
   obtain ⟨g1,g2,g3⟩:=jF C hb
   split
   ·rename_i a q e
    have e:=eq_of_beq e
    subst e
    rw [ee,c6] at hs
    exact aaO C hE hb hs.1
   ·split
    ·rename_i y py e _
     have e:=eq_of_beq e
     subst e
     have main:PE X (.Call (.Name "len" p) [.Name y py] [] pos) (tE (M.P.kt X) (aK ba (dF [r.E L (.Name y py)]))):=Nf (D3 C.calm ("len", ba) (eE ..)) rfl g1 g2 hA hs
     split
     ·rename_i i hi
      split
      ·rename_i q
       rw [c6] at q
       obtain ⟨l1,l2,l3,l4⟩:=fM C q.2
       exact J1 rfl (by rw [C.N];exact gk hi) l2 l3 l4 g1 g2
      ·exact main
     ·exact main
    ·split
     ·rename_i a ha
      obtain ⟨rfl,h2,h3,p1,kH,rfl⟩:=vV ha
      obtain ⟨k1,k2,k3⟩:=jF C h2
      exact Ek C.calm g2 k2 (hE a) g1 k1 h3
     ·split
      ·rename_i g a aaP hg _ _ _
       exact Nf (D3 C.calm (f,g) (c5 hg)) rfl g1 g2 hA hs
      ·exact aX
theorem lQ {sc:Scope}(C:CxOk M aj k L X) (hf:∀ x∈frees sc,sc.names.lookup x=some .free/\L.sc.names.lookup x=some .cell):∀ {xs:List Str}{js:List Nat},idxs L.N xs=some js->(∀ x∈xs,x∈frees sc)->eS X sc js xs
 | [],js,h,_=>by cases h;exact .nil
 | x::xs,js,h,hx=>by
  obtain ⟨i,h1,h2⟩:=e9.mp (show (hU L.N x).bind _=some js from h)
  obtain ⟨js',h3,rfl⟩:=cV.mp h2
  obtain ⟨f1,f2⟩:=hf x (hx x (eE ..))
  refine .cons (by rw [C.N];exact gk h1) f1 ?_ (lQ C hf h3 fun y hy=>hx y (eZ _ hy))
  show X.env.scope.names.lookup x=_
  rw [C.sc];exact f2
theorem Ax {sc:Scope}{x:Str}(h:x∈frees sc):(x,NameKind.free)∈sc.names:=by
 unfold frees at h
 obtain ⟨q,h1,h2⟩:=Bj.mp h
 obtain ⟨n,kk⟩:=q
 split at h2
 ·rename_i e;cases h2;have e:kk=.free:=e;subst e;exact h1
 ·cases h2
theorem EE (C:CxOk M aj k L X) (sc:Scope):relabel sc X.env=Er sc L.sc:=by
 unfold relabel Er Env.kindOf
 rw [C.sc]
theorem vW {N:List Str}{ok:Str->Bool}(hN:X.N.Nodup) (h:∀ x i,ok x=true->hU N x=some i->X.N[i]?=some x/\Loc X.env.scope x/\(X.fn x=true\/X.env.scope.names.lookup x=some .local)):∀ {es:List Expr}{xs:List Str}{is:List Nat},namesOf es=some xs->xs.all ok=true->idxs N xs=some is ->
  UQ X es (lM is)/\(assignEach es X.env).length=is.length/\(assignEach es X.env).findIdx? (·.1)=none
 | [],xs,is,h1,_,h3=>by
  cases h1;cases h3
  exact ⟨GN,rfl,rfl⟩
 | e::es,xs,is,h1,h2,h3=>by
  cases e<;>first | (cases h1;done) | skip
  rename_i x px
  obtain ⟨zs,h4,rfl⟩:=cV.mp (show (namesOf es).map (x::·)=some xs from h1)
  rw [ee,c6] at h2
  obtain ⟨i,h5,h6⟩:=e9.mp (show (hU N x).bind _=some is from h3)
  obtain ⟨is',h7,rfl⟩:=cV.mp h6
  obtain ⟨g1,g2,g3⟩:=h x i h2.1 h5
  obtain ⟨r1,r2,r3⟩:=vW hN h h4 h2.2 h7
  refine ⟨B5 (oS hN g1 g2 g3) r1 rfl,?_,?_⟩
  ·show ((false,_)::assignEach es X.env).length=_
   rw [cQ,r2];rfl
  ·show List.findIdx? (·.1) ((false,_)::assignEach es X.env)=none
   rw [List.findIdx?_cons]
   simp only [r3]
   rfl
theorem Nx {B:KT}(hB:B.K=X.K) {N:List Str}{ok:Str->Bool}{tg:Expr}{g:FG}{is:List Nat}(hc:X.calm=true) (hN:X.N.Nodup) (h:∀ x i,ok x=true->hU N x=some i->X.N[i]?=some x/\Loc X.env.scope x/\(X.fn x=true\/X.env.scope.names.lookup x=some .local))
  (ht:Uu N ok tg=some (g,is)):∃ gt,PG X tg gt/\pL B gt g is:=by
 cases tg<;>first | (cases ht;done) | skip
 ·rename_i x px
  replace ht:(if ok x=true then _ else none)=some (g,is):=ht
  split at ht
  ·rename_i q
   obtain ⟨i,h1,h2⟩:=cV.mp ht
   cases h2
   obtain ⟨g1,g2,g3⟩:=h x i q h1
   exact ⟨_,oS hN g1 g2 g3,xw i⟩
  ·cases ht
 ·rename_i es x1 tp
  replace ht:(namesOf es).bind _=some (g,is):=ht
  obtain ⟨xs,h1,h2⟩:=e9.mp ht
  split at h2
  ·rename_i q
   obtain ⟨is',h3,h4⟩:=cV.mp h2
   cases h4
   obtain ⟨r1,r2,r3⟩:=vW hN h h1 q h3
   refine ⟨_,B6 hc r1 r2 r3,?_⟩
   rw [<- hB]
   exact D9 _ rfl
  ·cases h2
theorem Tc {N:List Str}{ok:Str->Bool}{tg:Expr}{g:FG}{is:List Nat}(ht:Uu N ok tg=some (g,is)):∀ i∈is,i<N.length:=by
 have lt:∀ {x i},hU N x=some i->i<N.length:=fun h=>(cU.mp (gk h)).1
 cases tg<;>first | (cases ht;done) | skip
 ·rename_i x px
  replace ht:(if ok x=true then _ else none)=some (g,is):=ht
  split at ht
  ·obtain ⟨i,h1,h2⟩:=cV.mp ht
   cases h2
   intro j hj
   rw [eo.mp hj];exact lt h1
  ·cases ht
 ·rename_i es x1 tp
  replace ht:(namesOf es).bind _=some (g,is):=ht
  obtain ⟨xs,h1,h2⟩:=e9.mp ht
  split at h2
  ·obtain ⟨is',h3,h4⟩:=cV.mp h2
   cases h4
   have:∀ (xs:List Str) (is:List Nat),idxs N xs=some is->∀ i∈is,i<N.length:=by
    intro xs
    induction xs with
    | nil=>intro is h;cases h;intro i hi;cases hi
    | cons x xs ih=>
     intro is h
     obtain ⟨i,h5,h6⟩:=e9.mp (show (hU N x).bind _=some is from h)
     obtain ⟨is2,h7,rfl⟩:=cV.mp h6
     intro j hj
     rcases cA.mp hj with z | z
     ·rw [z];exact lt h5
     ·exact ih is2 h7 j z
   exact this xs _ h3
  ·cases h2
theorem yb {it:Expr}(h:isSet it=false):∀ x,foldedSetIterable it X.env x=pure x:=fun x=>by
 unfold foldedSetIterable
 cases it<;>first | rfl | (cases h)
structure Td (M:Gm) (X:Cx) (r:Rc) (L:Lc) (elt tg iter:Expr) (ifs:List Expr) (sc:Scope) (js:List Nat) (g:FG) (is:List Nat):Prop where
 sco:fq X sc
 fr:eS X sc js (frees sc)
 nd:(locals sc++frees sc).Nodup
 it:PI X tg iter (tI (M.P.kt X) (r.I L tg iter))
 ex:∃ gt,(∀ cl C fp s H,PG (X.block (locals sc++frees sc) sc cl C fp s H) tg gt)/\pL (M.P.kt X) gt g is
 ts:∀ cl C fp s H,F_ (X.block (locals sc++frees sc) sc cl C fp s H) ifs (tT (M.P.kt X) (Nq r (Es L sc) ifs))
 el:∀ cl C fp s H,PE (X.block (locals sc++frees sc) sc cl C fp s H) elt (tE (M.P.kt X) (r.E (Es L sc) elt))
 lt:∀ i∈is,i<(locals sc).length
 st:∀ x,foldedSetIterable iter X.env x=pure x
theorem yc (R:vS M aj k r) (C:CxOk M aj k L X) {elt tg iter:Expr}{ifs:List Expr}{sc:Scope}{js:List Nat}{g:FG}{is:List Nat}(h:(SY L sc&&decide ((locals sc++frees sc).Nodup)&&!isSet iter&&decide (ifs.length<=1))=true) (hj:idxs L.N (frees sc)=some js)
  (ht:Uu (locals sc) (fun x=>decide (sc.names.lookup x=some .local)) tg=some (g,is)):Td M X r L elt tg iter ifs sc js g is:=by
 obtain ⟨hE,hT,hI,hO⟩:=R L X C
 simp only [c6,decide_eq_true_eq,LO] at h
 obtain ⟨⟨⟨h1,hnd⟩,h3⟩,h4⟩:=h
 unfold SY at h1
 simp only [c6,decide_eq_true_eq,e_] at h1
 obtain ⟨⟨k1,k2⟩,k3⟩:=h1
 have nk:∀ x∈frees sc,sc.names.lookup x=some .free/\L.sc.names.lookup x=some .cell:=fun x hx=>by
  have:=(k2 _ (Ax hx)).2 rfl
  exact this
 have bs:fq X sc:=⟨k1,fun q hq=>(k2 q hq).1.1,fun q hq e=>(k2 q hq).1.2 e,fun q hq e=>by
  show X.env.scope.names.lookup q.1=_
  rw [C.sc]
  exact ((k2 q hq).2 e).2⟩
 have blk:∀ cl CC fp s H,CxOk M aj k (Es L sc) (X.block (locals sc++frees sc) sc cl CC fp s H):=fun cl CC fp s H=>⟨C.gm,rfl,EE C sc,C.calm,C.room⟩
 refine ⟨bs,lQ C nk hj fun _ h=>h,hnd,hI tg iter,?_,fun cl CC fp s H=>?_,fun cl CC fp s H=>(R _ _ (blk cl CC fp s H)).1 elt,Tc ht,yb h3⟩
 ·-- the target's names are the block's own
  have key:∀ cl CC fp s H,∀ x i,decide (sc.names.lookup x=some .local)=true->hU (locals sc) x=some i->(X.block (locals sc++frees sc) sc cl CC fp s H).N[i]?=some x/\Loc (X.block (locals sc++frees sc) sc cl CC fp s H).env.scope x/\((X.block (locals sc++frees sc) sc cl CC fp s H).fn x=true\/(X.block (locals sc++frees sc) sc cl CC fp s H).env.scope.names.lookup x=some .local):=fun cl CC fp s H x i hx hi=>by
   have hl:(relabel sc X.env).names.lookup x=some .local:=lookup_relabel_local (of_decide_eq_true hx)
   have h1:=gk hi
   refine ⟨?_,.inl hl,.inr hl⟩
   show (locals sc++frees sc)[i]?=some x
   rw [iI (cU.mp h1).1];exact h1
  cases tg<;>first | (cases ht;done) | skip
  ·rename_i x px
   replace ht:(if _ then _ else none)=some (g,is):=ht
   split at ht
   ·rename_i q
    obtain ⟨i,h5,h6⟩:=cV.mp ht
    cases h6
    exact ⟨_,fun cl CC fp s H=>by
     obtain ⟨g1,g2,g3⟩:=key cl CC fp s H x i q h5
     exact oS hnd g1 g2 g3,xw i⟩
   ·cases ht
  ·rename_i es x1 tp
   replace ht:(namesOf es).bind _=some (g,is):=ht
   obtain ⟨xs,h5,h6⟩:=e9.mp ht
   split at h6
   ·rename_i q
    obtain ⟨is',h7,h8⟩:=cV.mp h6
    cases h8
    refine ⟨Oj X.K is.length (lM is),fun cl CC fp s H=>?_,D9 (B:=M.P.kt X) is rfl⟩
    obtain ⟨r1,r2,r3⟩:=vW (X:=X.block (locals sc++frees sc) sc cl CC fp s H) hnd (key cl CC fp s H) h5 q h7
    exact B6 (X:=X.block (locals sc++frees sc) sc cl CC fp s H) C.calm r1 r2 r3
   ·cases h6
 ·match ifs,h4 with
  | [],_=>exact aaj
  | [c],_=>exact aak ((R _ _ (blk cl CC fp s H)).2.1 c)
theorem jG (R:vS M aj k r) (C:CxOk M aj k L X) (e:Expr):PE X e (tO (M.P.kt X) (nU r L e)):=by
 cases e<;>first | exact g9 | skip
 rename_i elt gs sc p
 match gs with
 | []=>exact g9
 | _::_::_=>exact g9
 | [⟨tg,iter,ifs,ay⟩]=>
  show PE X _ (tO (M.P.kt X) (lP r L elt ⟨tg,iter,ifs,ay⟩ sc))
  unfold lP
  split
  case isFalse=>exact g9
  rename_i h
  obtain ⟨rfl,h⟩:=h
  split
  ·rename_i js g is hj ht
   have K:=yc R C (elt:=elt) h hj ht
   obtain ⟨gt,h1,h2⟩:=K.ex
   exact Sk (locals sc) C.calm K.sco K.fr K.it h1 h2 K.ts K.el K.lt K.st
  ·exact g9
theorem EF (hE:AZ M X r L):∀ e:Option Expr,PO X e (tP (M.P.kt X) (S2 r L e))
 | none=>Z4
 | some e=>Z5 (hE e)
theorem Kd (h:isSlice e=false):jf e:=fun o i=>by
 unfold subscripted
 cases e<;>first | rfl | (cases h)
theorem yd {l:List (Nat × Nat)}{m:Str}(C:CxOk M aj k L X) (h:M.ms.lookup m=some l):∀ c f,aE l aj c=some f->DnM M.P X.prog X.w X.K X.mg X.base k c m f:=fun c f hf=>by
 obtain ⟨i,h1,rfl⟩:=cV.mp hf
 exact C.gm.mts m l c i h h1
theorem EG {kk:Nat}(c:Const):PE X (.Constant c kk pos) (tE (M.P.kt X) (Eu c)):=by
 cases c with
 | int i=>exact jv N8 fun _ _=>rfl
 | bool b=>exact jv UG fun _ _=>rfl
 | none=>exact jv N9 fun _ _=>rfl
 | str s=>
  show PE X _ (tE _ (if s.length<=1000000 then cF (.str s.cps.toList) else bF))
  split
  ·rename_i h
   obtain ⟨⟨l⟩⟩:=s
   exact jv N_ fun _ _=>⟨rfl,by rw [<- fh l];exact h⟩
  ·exact aX
 | _=>exact aX
theorem Ke (C:CxOk M aj k L X) (x:Str):PE X (.Name x pos) (tE (M.P.kt X) (Ew M L x)):=by
 unfold Ew
 split
 ·rename_i i hi
  split
  ·rename_i q
   obtain ⟨l1,l2,l3,l4⟩:=fM C q
   exact DC (by rw [C.N];exact gk hi) l2 l3 l4
  ·exact aX
 ·split
  ·rename_i t ht
   split
   ·rename_i q
    obtain ⟨g1,g2⟩:=iF C q
    exact aay (C.gm.cst _ _ ht) rfl g1 g2
   ·exact aX
  ·exact aX
theorem aaQ (C:CxOk M aj k L X) (hE:AZ M X r L) {i:Expr}(h:jf i):PE X (.Subscript o i pos) (tE (M.P.kt X) (ixE M r L o i)):=by
 unfold ixE
 split
 ·rename_i y kk hk
  obtain ⟨y',h1,h2⟩:=e9.mp hk
  obtain ⟨k',h2,h3⟩:=cV.mp h2
  cases h3
  obtain ⟨py,rfl⟩:=cZ h1
  split
  ·exact aX
  ·split
   ·exact aaB M.SS (hE _) (hE _) h
   ·exact Z3 rfl (hE _) (hE _) h
 ·exact Z3 rfl (hE _) (hE _) h
theorem str_inv (h:km e=some x):∃ kk p,e=.Constant (.str x) kk p:=by
 unfold km at h
 cases hc:jE e with
 | none=>rw [hc] at h;cases h
 | some c=>
  rw [hc] at h
  cases c<;>first | (cases h;done) | skip
  cases h
  exact nW hc
theorem Te {q}(h:J_ e=some q):∃ p,e=.FormattedValue q.1 q.2.1 q.2.2 p:=by
 cases e<;>first | (cases h;done) | (cases h;exact ⟨_,rfl⟩)
theorem aaR (hE:AZ M X r L) (es:List Expr):PE X (.JoinedStr es pos) (tE (M.P.kt X) (joE r L es)):=by
 match es with
 | []=>exact aX
 | [_]=>exact aX
 | [_,_]=>exact aX
 | _::_::_::_::_=>exact aX
 | [e,q,f]=>
  show PE X _ (tE (M.P.kt X) (match km e,J_ q,km f with | some x,some (a,cv,none),some y=>_ | _,_,_=>bF))
  cases h1:km e with
  | none=>exact aX
  | some x=>
  cases h2:J_ q with
  | none=>exact aX
  | some w=>
  obtain ⟨a,cv,o⟩:=w
  cases o with
  | some _=>exact aX
  | none=>
  cases h3:km f with
  | none=>exact aX
  | some y=>
  obtain ⟨k1,p1,rfl⟩:=str_inv h1
  obtain ⟨p2,rfl⟩:=Te h2
  obtain ⟨k3,p3,rfl⟩:=str_inv h3
  show PE X _ (tE (M.P.kt X) (if _ then _ else bF))
  split
  ·rename_i h
   obtain ⟨rfl,h1,h2⟩:=h
   exact Sz rfl (hE _) h1 h2
  ·exact aX
theorem Tf (C:CxOk M aj k L X) (hE:AZ M X r L) (o:Expr) (m:Str) (ap:Pos) (args:List Expr) (cp:Pos):PE X (.Call (.Attribute o m ap) args [] cp) (tE (M.P.kt X) (S4 M aj r L o m ap args cp)):=by
 obtain ⟨j,hj,hr⟩:=C.room
 unfold S4
 split
 case isFalse=>exact aX
 rename_i h
 simp only [c6,decide_eq_true_eq] at h
 obtain ⟨⟨⟨h1,h2⟩,h3⟩,h4⟩:=h
 have hA:=fF hE args h2
 split
 ·rename_i l hl
  cases args with
  | nil=>exact JQ (yd C hl) hr (by omega) (hE o) (Nn h1 h2 (by omega) h4)
  | cons a args=>exact Sa (yd C hl) hr (by omega) (hE o) hA h2 (Nn h1 h2 (by omega) h4)
 ·split
  ·rename_i g a aaP hg
   exact Z6 (R7 (m,g) (c5 hg)) rfl (hE o) hA h1 h2 (by rw [cQ] at h3;omega) h4
  ·exact aX
theorem EH (R:vS M aj k r) (C:CxOk M aj k L X) (e:Expr):PE X e (tE (M.P.kt X) (Nr M aj r L e)):=by
 obtain ⟨hE,hT,hI,hO⟩:=R L X C
 cases e with
 | Constant c _ _=>exact EG c
 | Name x _=>exact Ke C x
 | BinOp a op b _=>exact ZW rfl _ (hE _) (hE _)
 | UnaryOp op a _=>cases op with
  | USub=>exact ZX rfl (hE _)
  | Not=>exact RU (hE _)
  | _=>exact aX
 | BoolOp op es _=>cases op with
  | And=>exact sC hE _
  | Or=>exact x9 hE _
 | Compare a ops bs _=>
  match ops,bs with
  | [op],[b]=>
   show PE X _ (tE (M.P.kt X) (if behindInMarks op b then bF else sj r L a op b))
   split
   ·exact aX
   ·rename_i h
    exact Kc C hE (by simpa using h)
  | [],_=>exact aX
  | _::_::_,_=>exact aX
  | [_],[]=>exact aX
  | [_],_::_::_=>exact aX
 | IfExp c a b _=>exact ZO (hT _) (hE _) (hE _)
 | Tuple es _ _=>
  show PE X _ (tE (M.P.kt X) (if es.all noStar then _ else bF))
  split
  ·rename_i h;exact ZI (fF hE _ h)
  ·exact aX
 | List es _=>
  show PE X _ (tE (M.P.kt X) (if es.all noStar then _ else bF))
  split
  ·rename_i h;exact ZJ (fF hE _ h)
  ·exact aX
 | Subscript o i _=>
  show PE X _ (tE (M.P.kt X) (S3 M r L o i))
  cases hs:isSlice i with
  | false=>
   rw [show S3 M r L o i=ixE M r L o i by cases i<;>first | rfl | cases hs]
   exact aaQ C hE (Kd hs)
  | true=>
   cases i<;>first | (cases hs;done) | skip
   rename_i lo hi st _
   cases st with
   | none=>exact adw rfl (hE _) (EF hE _) (EF hE _)
   | some _=>exact aX
 | Attribute o f _=>
  show PE X _ (tE (M.P.kt X) (if dM o then _ else bF))
  split
  ·rename_i h
   split
   ·rename_i j hj
    exact aad C.gm.pg (gk hj) (hE _) h
   ·exact aX
  ·exact aX
 | JoinedStr vs _=>exact aaR hE vs
 | ListComp elt gs sc p=>exact DG (jG R C _)
 | Call f args ks cp=>
  cases ks with
  | cons _ _=>exact aX
  | nil=>cases f with
   | Name f _=>exact ED C hE _ _
   | Attribute o m ap=>exact Tf C hE o m ap args cp
   | _=>exact aX
 | _=>exact aX
theorem EI (R:vS M aj k r) (C:CxOk M aj k L X) (e:Expr):PT X e (tT (M.P.kt X) (stepT r L e)):=by
 obtain ⟨hE,hT,hI,hO⟩:=R L X C
 cases e with
 | BoolOp op es _=>cases op with
  | And=>exact (sD hT _).pt
  | Or=>exact (x_ hT _).pt
 | UnaryOp op a _=>cases op with
  | Not=>exact ZM (hT _)
  | _=>exact M9 (hE _) rfl fun gx=>rfl
 | Compare a ops bs _=>
  match ops,bs with
  | [op],[b]=>
   show PT X _ (tT (M.P.kt X) (if behindInMarks op b then mT else aZ (sj r L a op b)))
   split
   ·exact iQ
   ·rename_i h
    exact EC C hE (by simpa using h)
  | [],_=>exact iQ
  | _::_::_,_=>exact iQ
  | [_],[]=>exact iQ
  | [_],_::_::_=>exact iQ
 | IfExp _ _ _ _=>exact iQ
 | _=>exact M9 (hE _) rfl fun gx=>rfl
theorem Kf {e:Expr}{args:List Expr}(h:xY e=some args):∃ p pos,e=.Call (.Name "range" p) args [] pos:=by
 obtain ⟨⟨f,as,ks⟩,h1,hh⟩:=e9.mp h
 clear h
 obtain ⟨p,pos,rfl⟩:=eW h1
 have h:=hh;clear hh
 split at h
 ·rename_i q
  obtain ⟨rfl,q⟩:=q
  cases h
  rw [show ks=[] from wA.mp q]
  exact ⟨_,_,rfl⟩
 ·cases h
theorem EJ {e a:Expr}{n:Int}(h:sy e=some (a,n)):∃ p pos,(n=0/\e=.Call (.Name "enumerate" p) [a] [] pos)\/(n=1/\∃ k1 p1 kp,e=.Call (.Name "enumerate" p) [a] [⟨some (Str.ofString "start"),.Constant (.int 1) k1 p1,kp⟩] pos):=by
 obtain ⟨⟨f,as,ks⟩,h1,hh⟩:=e9.mp h
 clear h
 obtain ⟨p,pos,rfl⟩:=eW h1
 have h:=hh;clear hh
 split at h
 case isFalse=>cases h
 rename_i q
 replace q:f=("enumerate" : Str):=q
 subst q
 match as,ks,h with
 | [a'],[],h=>cases h;exact ⟨_,_,.inl ⟨rfl,rfl⟩⟩
 | [a'],[⟨an,v,kp⟩],h=>
  dsimp only at h
  cases hc:jE v with
  | none=>rw [hc] at h;cases h
  | some c=>
   rw [hc] at h
   cases c<;>first | (cases h;done) | skip
   obtain ⟨k1,p1,rfl⟩:=nW hc
   dsimp only at h
   split at h
   ·rename_i q;obtain ⟨rfl,rfl⟩:=q;cases h;exact ⟨_,_,.inr ⟨rfl,_,_,_,rfl⟩⟩
   ·cases h
theorem EK (R:vS M aj k r) (C:CxOk M aj k L X) (tg e:Expr):PI X tg e (tI (M.P.kt X) (stepI M r L tg e)):=by
 obtain ⟨hE,hT,hI,hO⟩:=R L X C
 unfold stepI
 split
 ·rename_i args ha
  obtain ⟨p,pos,rfl⟩:=Kf ha
  split
  case isFalse=>exact xx
  rename_i h
  rw [c6] at h
  obtain ⟨g1,g2,_⟩:=jF C h.1
  have hs:=h.2
  split
  ·exact D_ g1 g2 (hE _) (by simpa using hs)
  ·exact xx
 ·split
  ·rename_i a n hen
   split
   case isFalse=>exact xx
   rename_i h
   simp only [c6] at h
   obtain ⟨⟨h1,h2⟩,h3⟩:=h
   obtain ⟨g1,g2,_⟩:=jF C h1
   cases tg<;>first | (cases h2;done) | skip
   obtain ⟨p,pos,h4 | h4⟩:=EJ hen
   ·obtain ⟨rfl,rfl⟩:=h4
    exact aau rfl g1 g2 (hE a) h3
   ·obtain ⟨rfl,k1,p1,kp,rfl⟩:=h4
    exact aav rfl g1 g2 (hE a) h3
  ·split
   ·rename_i h
    cases tg<;>first | (cases h;done) | skip
    exact aai rfl (hE e)
   ·exact Nh rfl (hE e)
theorem EL (R:vS M aj k r) (C:CxOk M aj k L X) (e:Expr):PE X e (tO (M.P.kt X) (Nt r L e)):=by
 obtain ⟨hE,hT,hI,hO⟩:=R L X C
 cases e with
 | List es _=>
  show PE X _ (tO (M.P.kt X) (if es.all noStar then _ else iB))
  split
  ·rename_i h;exact RQ (fF hE _ h)
  ·exact g9
 | ListComp elt gs sc p=>exact jG R C _
 | _=>exact g9
theorem c7:∀ n,vS M aj k (comp M aj n)
 | 0=>fun L X C=>⟨fun _=>aX,fun _=>iQ,fun _ _=>xx,fun _=>g9⟩
 | n+1=>fun L X C=>⟨EH (c7 n) C,EI (c7 n) C,EK (c7 n) C,EL (c7 n) C⟩
structure Gi (M:Gm) (aj:Nat->Fn) (k:Nat) (L:Lc) (X:Cx):Prop extends CxOk M aj k L X where
 fn:∀ x,X.fn x=true
 nd:X.N.Nodup
 xe:X.xe=fun _ _=>False
theorem h_ {t:Option Expr}{l:Nat}(h:sA e=false):swapsWith e t l X.env=pure false:=by
 cases e<;>first | rfl | (cases h)
theorem Tg (C:CxOk M aj k L X) {tp:Pos}{l:Nat}(h:sA e=true->∃ elt gs sc p,e=.ListComp elt gs sc p):swapsWith e (some (.Name x tp)) l X.env=pure (Ex L x tp e):=by
 cases e<;>first | rfl | skip
 ·unfold swapsWith Ex Env.blockKind Env.kindOf
  rw [C.sc]
  rfl
 ·obtain ⟨_,_,_,_,z⟩:=h rfl;cases z
 ·obtain ⟨_,_,_,_,z⟩:=h rfl;cases z
theorem passes (C:Gi M aj k L X):PassesOwn (model X.prog X.w) X.A X.env X.xe:=by rw [C.xe];exact PassesOwn.never
theorem Kg (h:Ey e=true):∃ dp,e=.Dict [] [] dp:=by
 cases e<;>first | (cases h;done) | skip
 rename_i ks vs dp
 match ks,vs,h with
 | [],[],_=>exact ⟨_,rfl⟩
theorem Th (h:sA e=true):Ey e=false:=by
 cases e<;>first | rfl | (cases h)
theorem Kh {a:FE}{n:Nat}(h:aaK M aj n L e=some a):∃ f fp args cp j,e=.Call (.Name f fp) args [] cp/\M.fs.lookup f=some ([],j)/\Aw L f=true/\args.all noStar=true/\args≠[]/\a=jZ (aj j) (dF (args.map ((comp M aj n).E L))):=by
 obtain ⟨⟨f,as,ks⟩,h1,hh⟩:=e9.mp h
 clear h
 obtain ⟨p,pos,rfl⟩:=eW h1
 have h:=hh;clear hh
 split at h
 ·rename_i hf
  split at h
  ·rename_i q
   simp only [c6] at q
   cases h
   rw [show ks=[] from wA.mp q.1.1.1]
   exact ⟨_,_,_,_,_,rfl,hf,q.1.1.2,q.1.2,fun z=>(by subst z;cases q.2),rfl⟩
  ·cases h
 ·cases h
theorem Kl {y nm:Str}(h:x8 M e=some (y,nm)):∃ py ap0 ap cp,e=.Call (.Attribute (.Attribute (.Name y py) nm ap0) "clear" ap) [] [] cp/\(ap.endLine == cp.line)=true:=by
 obtain ⟨q,h1,h⟩:=e9.mp h
 obtain ⟨w,h2,h⟩:=e9.mp h
 obtain ⟨v,h3,h⟩:=e9.mp h
 obtain ⟨y',h4,h⟩:=e9.mp h
 split at h
 ·rename_i z
  obtain ⟨z1,_,z3,z4,z5⟩:=z
  cases h
  obtain ⟨py,h4⟩:=cZ h4
  rw [jY h1,kX h2,kX h3,h4,z1,wA.mp z4,wA.mp z5]
  exact ⟨_,_,_,_,rfl,z3⟩
 ·cases h
theorem Km (C:Gi M aj k L X) (n:Nat) (e:Expr):PS X (.Assign [.Name x bR] e pos) (tS (M.P.kt X) (Ez M aj n L x e)):=by
 obtain ⟨hE,hT,hI,hO⟩:=c7 (M:=M) (aj:=aj) (k:=k) n L X C.toCxOk
 unfold Ez
 split
 case h_2=>exact bN
 rename_i i hi
 split
 case isFalse=>exact bN
 rename_i q
 obtain ⟨l1,l2,l3,l4⟩:=fM C.toCxOk q
 have hN:X.N[i]?=some x:=by rw [C.N];exact gk hi
 have hf:X.fn x=true\/X.env.scope.names.lookup x=some .local:=.inl (C.fn x)
 split
 ·split
  ·rename_i a ha
   obtain ⟨f,fp,args,cp,j,rfl,hl,q1,q2,q3,rfl⟩:=Kh ha
   obtain ⟨j',hj,hr⟩:=C.room
   obtain ⟨g1,g2⟩:=iF C.toCxOk q1
   cases args with
   | nil=>exact absurd rfl q3
   | cons a args=>exact SM C.nd hN l1 (J7 (C.gm.fns f [] j hl) hr (by omega) (fF hE _ q2) g1 g2 q2) (h_ rfl) hf
  ·exact bN
 by_cases hlc:sA e=false
 ·split
  ·split
   ·rename_i hd
    obtain ⟨dp,rfl⟩:=Kg hd
    exact SJ C.nd hN l1 hf
   ·exact Nj C.nd hN l1 (hO e) (h_ hlc) hf
  ·exact Ni C.nd hN l1 (hE e) (h_ hlc) hf
 ·rw [Th (by simpa using hlc),if_neg eK]
  cases n with
  | zero=>
   split
   ·exact fun _ _ _ _ _ _ ⟨_,_,_,_,_,h,_⟩=>by cases h
   ·exact fun _ _ _ _ _ _ ⟨_,_,_,_,_,h,_⟩=>by cases h
  | succ n=>
   cases e with
   | ListComp elt gs sc cp=>
    have R:=c7 (M:=M) (aj:=aj) (k:=k) n
    have main:PS X (.Assign [.Name x bR] (.ListComp elt gs sc cp) pos) (tS (M.P.kt X) (kK i (nU (comp M aj n) L (.ListComp elt gs sc cp))))/\PS X (.Assign [.Name x bR] (.ListComp elt gs sc cp) pos) (tS (M.P.kt X) (aA i (bP (nU (comp M aj n) L (.ListComp elt gs sc cp))))):=by
     have sw:=Tg (X:=X) (x:=x) (tp:=bR) (l:=pos.line) (e:=.ListComp elt gs sc cp) C.toCxOk (fun _=>⟨_,_,_,_,rfl⟩)
     cases hb:Ex L x bR (.ListComp elt gs sc cp) with
     | false=>
      rw [hb] at sw
      exact ⟨Nj C.nd hN l1 (jG R C.toCxOk _) sw hf,Ni C.nd hN l1 (DG (jG R C.toCxOk _)) sw hf⟩
     | true=>
      rw [hb] at sw
      have bad:PS X (.Assign [.Name x bR] (.ListComp elt gs sc cp) pos) (tS (M.P.kt X) (kK i iB))/\PS X (.Assign [.Name x bR] (.ListComp elt gs sc cp) pos) (tS (M.P.kt X) (aA i (bP iB))):=
       ⟨fun _ _ _ _ _ _ ⟨_,_,_,_,_,h,_⟩=>(by cases h),fun _ _ _ _ _ _ ⟨_,_,_,_,_,h,_⟩=>(by cases h)⟩
      match gs with
      | []=>exact bad
      | _::_::_=>exact bad
      | [⟨tg,iter,ifs,ay⟩]=>
       rw [show nU (comp M aj n) L (.ListComp elt [⟨tg,iter,ifs,ay⟩] sc cp)=lP (comp M aj n) L elt ⟨tg,iter,ifs,ay⟩ sc from rfl]
       unfold lP
       split
       case isFalse=>exact bad
       rename_i h
       obtain ⟨rfl,h⟩:=h
       split
       ·rename_i js g is hj ht
        have K:=yc R C.toCxOk (elt:=elt) h hj ht
        obtain ⟨gt,h1,h2⟩:=K.ex
        exact Ss (locals sc) C.calm C.nd hN l1 K.sco K.fr K.it h1 h2 K.ts K.el K.lt K.st hf sw
       ·exact bad
    split
    ·exact main.1
    ·exact main.2
   | SetComp a b c d=>
    split
    ·exact fun _ _ _ _ _ _ ⟨_,_,_,_,_,h,_⟩=>by cases h
    ·exact fun _ _ _ _ _ _ ⟨_,_,_,_,_,h,_⟩=>by cases h
   | DictComp a b c d f=>
    split
    ·exact fun _ _ _ _ _ _ ⟨_,_,_,_,_,h,_⟩=>by cases h
    ·exact fun _ _ _ _ _ _ ⟨_,_,_,_,_,h,_⟩=>by cases h
   | _=>exact absurd rfl hlc
theorem Kn {mu:List Str}{e a:Expr}{y:Str}(h:xZ mu e=some (y,a)):noStar a=true/\∃ py ap cp,e=.Call (.Attribute (.Name y py) "append" ap) [a] [] cp/\(ap.endLine == cp.line)=true:=by
 obtain ⟨⟨f,as,ks,cp⟩,h1,h⟩:=e9.mp h
 obtain ⟨w,h2,h⟩:=e9.mp h
 obtain ⟨y',h3,h⟩:=e9.mp h
 match as,ks,h1,h with
 | [a'],[],h1,h=>
  dsimp only at h
  split at h
  ·rename_i q
   obtain ⟨q1,_,q3,q4⟩:=q
   cases h
   obtain ⟨py,h3⟩:=cZ h3
   rw [jY h1,kX h2,h3,q1]
   exact ⟨q3,_,_,_,rfl,q4⟩
  ·cases h
theorem pX {es:List Expr}{x1:Nat}{tp:Pos}(h:Nu e=true):swappedStores [.Tuple es x1 tp] e X.env=pure none:=by
 cases e<;>first | rfl | skip
 rename_i vs _ _
 unfold swappedStores
 dsimp only
 rw [show vs.all (foldedForSure 8)=true from h]
 split
 ·rfl
 split
 ·rfl
 split
 ·rfl
 rfl
theorem Ko (C:CxOk M aj k L X) {es:List Expr}{i j:Nat}(h:aaM L es e=some (i,j,a,b)):∃ x y px py k2 p2,es=[.Name x px,.Name y py]/\e=.Tuple [a,b] k2 p2/\hU L.N x=some i/\hU L.N y=some j/\x≠y/\X.env.scope.names.lookup x=some .local/\X.env.scope.names.lookup y=some .local/\[a,b].all noStar=true/\∀ kt pt,swappedStores [.Tuple [.Name x px,.Name y py] kt pt] (.Tuple [a,b] k2 p2) X.env=pure (some [x,y]):=by
 obtain ⟨vs,h0,hh⟩:=e9.mp h
 clear h
 have h:=hh;clear hh
 obtain ⟨k2,p2,rfl⟩:∃ k2 p2,e=.Tuple vs k2 p2:=by cases e<;>first | (cases h0;done) | (cases h0;exact ⟨_,_,rfl⟩)
 match es,vs,h with
 | [t,u],[a',b'],h=>
  obtain ⟨⟨x,px⟩,g1,h⟩:=e9.mp h
  obtain ⟨⟨y,py⟩,g2,h⟩:=e9.mp h
  have nm:∀ {t:Expr} {q},S6 t=some q->t=.Name q.1 q.2:=fun {t q} h=>by cases t<;>first | (cases h;done) | (cases h;rfl)
  rw [nm g1,nm g2]
  split at h
  ·rename_i q
   obtain ⟨i',h1,h⟩:=e9.mp h
   obtain ⟨j',h2,h⟩:=cV.mp h
   cases h
   unfold aaL at q
   simp only [c6,decide_eq_true_eq,LO] at q
   obtain ⟨⟨⟨⟨⟨⟨⟨q1,q2⟩,q3⟩,q4⟩,q5⟩,q6⟩,q7⟩,q8⟩:=q
   refine ⟨x,y,px,py,k2,p2,rfl,rfl,h1,h2,q5,by rw [C.sc];exact q2,by rw [C.sc];exact q3,q8,fun kt pt=>?_⟩
   have bk:(X.env.blockKind != .function)=false:=by
    unfold Env.blockKind
    rw [C.sc]
    exact (by simpa using q1)
   have q4':=eq_of_beq q4
   unfold swappedStores
   dsimp only
   rw [bk,q6,q7]
   rw [if_neg (by simp),if_neg (by
    simp only [ee,List.all_nil,BH,c6] at q8
    simp only [i8,Bw,GA,LP,LL]
    exact ⟨by cases a<;>first | rfl | (cases q8.1),by cases b<;>first | rfl | (cases q8.2)⟩)]
   have e1:X.env.kindOf x=some NameKind.local:=by unfold Env.kindOf;rw [C.sc,q2]
   have e2:X.env.kindOf y=some NameKind.local:=by unfold Env.kindOf;rw [C.sc,q3]
   have ep:∀ (x:Str) (p:Pos),(Expr.Name x p).pos=p:=fun _ _=>rfl
   simp [e1,e2,ep,q4',Bc,List.filterMap_nil,List.eraseDups_cons,Ne.symm q5]
  ·cases h
theorem tgl (C:Gi M aj k L X):∀ x i,iU L x=true->hU L.N x=some i->X.N[i]?=some x/\Loc X.env.scope x/\(X.fn x=true\/X.env.scope.names.lookup x=some .local):=fun x i h1 h2=>⟨by rw [C.N];exact gk h2,(fM C.toCxOk h1).1,.inl (C.fn x)⟩
theorem Kp (C:Gi M aj k L X) (n:Nat) (es:List Expr) {x1:Nat}{tp:Pos}(e:Expr):PS X (.Assign [.Tuple es x1 tp] e pos) (tS (M.P.kt X) (tupS M aj n L es e)):=by
 obtain ⟨hE,hT,hI,hO⟩:=c7 (M:=M) (aj:=aj) (k:=k) n L X C.toCxOk
 unfold tupS
 split
 ·rename_i i j a b h
  obtain ⟨x,y,px,py,k2,p2,rfl,rfl,h1,h2,h3,h4,h5,h6,h7⟩:=Ko C.toCxOk h
  have l1:X.N[i]?=some x:=by rw [C.N];exact gk h1
  have l2:X.N[j]?=some y:=by rw [C.N];exact gk h2
  exact aaG C.calm C.nd l1 l2 (fun z=>h3 (by rw [z,l2] at l1;exact (jN.inj l1).symm)) h4 h5 (fF hE [a,b] h6) (h7 _ _)
 split
 ·exact bN
 ·rename_i h
  simp only [wB,not_or,LP,Bool.not_eq_eq_eq_not,BC,BJ] at h
  obtain ⟨⟨h1,h2⟩,h3⟩:=h
  split
  ·rename_i g is ht
   obtain ⟨gt,q1,q2⟩:=Nx (B:=M.P.kt X) (tg:=.Tuple es x1 tp) rfl C.calm C.nd (tgl C) ht
   exact aap (hE e) q1 q2 (show swapsWith e (some (.Tuple es x1 tp)) pos.line X.env=pure false from h_ h1) (pX (by simpa using h2)) rfl
  ·exact bN
theorem Kq (C:Gi M aj k L X) (n:Nat) (o:Expr) (f:Str) {fp:Pos}(e:Expr):PS X (.Assign [.Attribute o f fp] e pos) (tS (M.P.kt X) (S7 M aj n L o f e)):=by
 obtain ⟨hE,hT,hI,hO⟩:=c7 (M:=M) (aj:=aj) (k:=k) n L X C.toCxOk
 unfold S7
 split
 ·exact bN
 ·rename_i h
  split
  ·rename_i j hj
   exact aas C.gm.pg (gk hj) (hE o) (hE e) (h_ (by simpa using h))
  ·exact bN
theorem Kr (C:Gi M aj k L X) (n:Nat) (o b:Expr) {sp:Pos}(e:Expr):PS X (.Assign [.Subscript o b sp] e pos) (tS (M.P.kt X) (S8 M aj n L o b e)):=by
 obtain ⟨hE,hT,hI,hO⟩:=c7 (M:=M) (aj:=aj) (k:=k) n L X C.toCxOk
 unfold S8
 split
 case h_2=>exact bN
 rename_i y hy
 obtain ⟨py,rfl⟩:=cZ hy
 split
 ·exact bN
 ·rename_i h
  split
  ·exact SD M.SS (hE e) (hE _) (hE b) (h_ (by simpa using h))
  split
  ·rename_i i hi
   split
   ·rename_i q
    obtain ⟨l1,l2,l3,l4⟩:=fM C.toCxOk q
    obtain ⟨j,hj,hr⟩:=C.room
    exact SK hr (hE e) (hE b) (by rw [C.N];exact gk hi) l2 l3 l4 (h_ (by simpa using h))
   ·exact bN
  ·exact bN
theorem Ks (C:Gi M aj k L X) (n:Nat) (t:Expr) (op:Operator) (e:Expr):PS X (.AugAssign t op e pos) (tS (M.P.kt X) (S9 M aj n L t op e)):=by
 obtain ⟨hE,hT,hI,hO⟩:=c7 (M:=M) (aj:=aj) (k:=k) n L X C.toCxOk
 unfold S9
 split
 case h_2=>exact bN
 rename_i x i hk
 obtain ⟨x',h1,h2⟩:=e9.mp hk
 obtain ⟨i',h2,h3⟩:=cV.mp h2
 cases h3
 obtain ⟨py,rfl⟩:=cZ h1
 split
 ·rename_i q
  obtain ⟨rfl,q⟩:=q
  obtain ⟨l1,l2,l3,l4⟩:=fM C.toCxOk q
  exact aax C.nd (by rw [C.N];exact gk h2) l1 (hE _) (.inl (C.fn _))
 ·exact bN
theorem Ti (C:Gi M aj k L X) (n:Nat) (e:Expr):PS X (.Expr e pos) (tS (M.P.kt X) (exS M aj n L e)):=by
 obtain ⟨hE,hT,hI,hO⟩:=c7 (M:=M) (aj:=aj) (k:=k) n L X C.toCxOk
 unfold exS
 split
 ·rename_i y nm ha
  obtain ⟨py,ap0,ap,cp,rfl,h2⟩:=Kl ha
  split
  ·rename_i i j hi hj
   split
   ·rename_i q
    obtain ⟨l1,l2,l3,l4⟩:=fM C.toCxOk q
    exact SQ C.gm.pg (gk hj) (by rw [C.N];exact gk hi) l2 l3 l4 h2
   ·exact bN
  ·exact bN
 split
 ·rename_i y a ha
  obtain ⟨h1,py,ap,cp,rfl,h2⟩:=Kn ha
  split
  ·rename_i i hi
   split
   ·rename_i q
    obtain ⟨l1,l2,l3,l4⟩:=fM C.toCxOk q
    exact aaq (hE a) (by rw [C.N];exact gk hi) l2 l3 l4 h1 h2
   ·exact bN
  ·exact bN
 ·split
  ·exact bN
  ·rename_i h
   exact Sv (hE e) (h_ (by simpa using h))
theorem EM (C:Gi M aj k L X) (n:Nat) {rS:Lc->List Stmt->FS}(hS:∀ Sl,jb X Sl (tS (M.P.kt X) (rS L Sl))) (st:Stmt):PS X st (tS (M.P.kt X) (stF M aj n rS L st)):=by
 obtain ⟨hE,hT,hI,hO⟩:=c7 (M:=M) (aj:=aj) (k:=k) n L X C.toCxOk
 cases st with
 | Assign ts e pos=>
  match ts with
  | []=>exact bN
  | _::_::_=>exact bN
  | [t]=>cases t with
   | Name x _=>exact Km C n _
   | Tuple es _ _=>exact Kp C n es e
   | Attribute o f _=>exact Kq C n o f e
   | Subscript o b _=>exact Kr C n o b e
   | _=>exact bN
 | AugAssign t op e pos=>exact Ks C n t op e
 | Expr e pos=>exact Ti C n e
 | Return o pos=>cases o with
  | none=>exact Su
  | some e=>
   show PS X _ (tS (M.P.kt X) (if L.mu.contains ("return" : Str) then _ else _))
   split
   ·exact Nk (SA M.SS M.adH (hO _))
   ·exact Nk (hE _)
 | If c a b pos=>exact adC (hT _) (hS _) (hS _)
 | For tg it body oe pos=>cases oe with
  | cons _ _=>exact bN
  | nil=>
   show PS X _ (tS (M.P.kt X) (S_ M aj n L (rS L body) tg it))
   unfold S_
   split
   ·exact bN
   ·rename_i h
    split
    ·rename_i g is ht
     obtain ⟨gt,q1,q2⟩:=Nx (B:=M.P.kt X) rfl C.calm C.nd (tgl C) ht
     exact aar C.calm (hI tg it) q1 q2 (hS body) (passes C) (yb (by simpa using h))
    ·exact bN
 | While c body oe pos=>cases oe with
  | cons _ _=>exact bN
  | nil=>exact JU _ (hT _) (hS _) (passes C)
 | Try body hs oe fb pos=>
  match hs,oe,fb with
  | [],_,_=>exact bN
  | _::_,_::_,_=>exact bN
  | _::_,[],_::_=>exact bN
  | _::_,[],[]=>exact aaz C.xe (hS _)
 | Pass _=>exact So
 | Break _=>exact JS
 | Continue _=>exact Sq
 | _=>exact bN
theorem iy (n:Nat):∀ (m:Nat) (L:Lc) (X:Cx),Gi M aj k L X->∀ Sl,jb X Sl (tS (M.P.kt X) (j0 M aj n m L Sl))
 | 0,_,_,_,_=>aam
 | m+1,L,X,C,[]=>aan
 | m+1,L,X,C,[st]=>aao (EM C n (iy n m L X C) st)
 | m+1,L,X,C,st::s2::rest=>Sn (EM C n (iy n m L X C) st) (iy n m L X C (s2::rest))
structure Fe where
 cls:Option Str
 x:Str
 qual:Str
 st:Stmt
 N:List Str
 ps:List Str
 mu:List Str
 sl:Bool
def noFn:Fn:=fun _ _=>.bad
def aaS (b:Bool) (f:Fn):Fn:=if b then aY f else f
def EN (M:Gm) (aj:Nat->Fn) (e:Fe):Fn:=aaS e.sl (aR e.ps.length e.N.length (j0 M aj 60 200 ⟨e.N,aI e.st,e.mu⟩ (cu e.st)))
def iG (M:Gm) (Ft:List Fe):Nat->Nat->Fn
 | 0,_=>noFn
 | n+1,i=>match Ft[i]? with
  | some e=>EN M (iG M Ft n) e
  | none=>noFn
section
def EO (K:bC) (x:Str):Option Addr:=match mJ K mainGlobals x with
 | some (some (.ref a))=>some a
 | _=>none
theorem jH {x:Str}{a:Addr}(h:EO K x=some a):mJ K mainGlobals x=some (some (.ref a)):=by
 unfold EO at h
 split at h
 ·rename_i e;cases h;exact e
 ·cases h
def adM (K:bC) (C:Addr) (m:Str):Option Addr:=match fH K (.ref C) m with
 | some (some (.ref a))=>some a
 | _=>none
def clB (K:bC) (C:Addr) (ns:List Str):Bool:=A1 K C Str.empty&&Gn K C&&A6 K C&&decide (fH K (.ref C) "__setattr__" = some (some (.builtin "object.__setattr__"))) &&
 decide (fH K (.ref C) "__class__" = some (some (.builtin "object.__class__")))&&decide (Gs K C (.type "object")=some true)&&ns.all (fun f=>decide (fH K (.ref C) f=some none))&&decide ns.Nodup&&decide (ns.length<=100)
def subB (K:bC) (cn:List Str) (C:Addr) (l:List Nat):Bool:=(gM cn.length).all fun d=>match cn[d]? with
 | none=>true
 | some n=>(match EO K n with
  | some D=>decide (oB K (.ref C) (.ref D)=some (decide (d∈l)))
  | none=>false)
def pgB (K:bC) (P:Pg):Bool:=(gM P.cn.length).all fun c=>match P.cn[c]? with
 | none=>true
 | some n=>(match EO K n,P.fn[c]?,P.sub[c]? with
  | some C,some ns,some l=>clB K C ns&&subB K P.cn C l
  | _,_,_=>false)
def gtB (K:bC):Bool:=decide (Gp K (.builtin "object.__class__") "__get__" = some (some (.builtin "getset_descriptor.__get__")))&&decide (Gq K (.builtin "object.__class__")=some true)
def Tj (K:bC) (mg:Str->Option Value):Prop:=∀ x o,mJ K mainGlobals x=some o->mg x=o
theorem Tn {h:Heap}(X:K.In h) (G:h.Ns mainGlobals mg):Tj K mg:=fun x o e=>by
 cases o with
 | none=>exact PySem.W.mg_none_of X G e
 | some v=>exact PySem.W.mg_of X G e
theorem sE {P:Pg}(h:pgB K P=true) {c:Nat}{n:Str}(hc:P.cn[c]?=some n):∃ C ns l,EO K n=some C/\P.fn[c]?=some ns/\P.sub[c]?=some l/\clB K C ns=true/\subB K P.cn C l=true:=by
 unfold pgB at h
 have:=e_.mp h c (Bb.mpr (cU.mp hc).1)
 rw [hc] at this
 dsimp only at this
 split at this
 ·rename_i C ns l h1 h2 h3
  rw [c6] at this
  exact ⟨C,ns,l,h1,h2,h3,this.1,this.2⟩
 ·cases this
theorem pY (g:Tj K mg) {n:Str}{C:Addr}{ns:List Str}(ha:EO K n=some C) (h:clB K C ns=true):Uo K mg n ns C:=by
 unfold clB at h
 simp only [c6,decide_eq_true_eq] at h
 obtain ⟨⟨⟨⟨⟨⟨⟨⟨h1,h2⟩,h3⟩,h4⟩,h5⟩,h6⟩,h7⟩,h8⟩,h9⟩:=h
 have a:=jH ha
 exact ⟨a,g _ _ a,h8,h9,⟨h1,h2,h3,h4⟩,fun f hf=>show fH K (.ref C) f=some none from of_decide_eq_true (e_.mp h7 f hf),h5,h6⟩
theorem aaT {P:Pg}(g:Tj K mg) (h:pgB K P=true) (ht:gtB K=true):mX K mg P:=by
 refine ⟨fun c n ns h1 h2=>?_,fun c d n n' C D l h1 h2 h3 h4 h5=>?_,?_⟩
 ·obtain ⟨C,Gd,l,ha,hn,_,hb,_⟩:=sE h h1
  rw [h2] at hn
  cases hn
  exact ⟨C,pY g ha hb⟩
 ·obtain ⟨C',Gd,l',ha,_,hl,_,hs⟩:=sE h h1
  rw [h5] at hl
  cases hl
  have e:=(g _ _ (jH ha)).symm.trans h3
  cases e
  unfold subB at hs
  have:=e_.mp hs d (Bb.mpr (cU.mp h2).1)
  rw [h2] at this
  dsimp only at this
  split at this
  ·rename_i D' hd
   have e:=(g _ _ (jH hd)).symm.trans h4
   cases e
   exact of_decide_eq_true this
  ·cases this
 ·unfold gtB at ht
  rw [c6] at ht
  exact ⟨of_decide_eq_true ht.1,of_decide_eq_true ht.2⟩
def To (K:bC) (e:Fe):Option Addr:=match e.cls with
 | none=>EO K e.x
 | some c=>(EO K c).bind fun C=>adM K C e.x
def Ny (K:bC) (e:Fe):Option FuncData:=(To K e).bind fun f=>match K.lookup f with
 | some ⟨_,_,.func fd,_⟩=>some fd
 | _=>none
def Tp (e:Fe) (fd:FuncData):FuncData:=yD e.x e.qual (jj e.st) (cu e.st) (aI e.st) .none fd.kwdefaults fd.doc fd.pyModule fd.annotations fd.code fd.closureTuple
def scB (e:Fe):Bool:=decide ((aI e.st).kind=.function)&&!(aI e.st).isCoroutine&&!(aI e.st).isGenerator&&decide e.N.Nodup&&decide (e.N.take e.ps.length=e.ps)&&e.ps.all (fun x=>decide ((aI e.st).names.lookup x=some .local) || decide ((aI e.st).names.lookup x=some .cell))&&(aI e.st).names.all (fun y=>decide (y.2≠.free))
def feB (K:bC) (e:Fe):Bool:=match To K e,Ny K e with
 | some f,some fd=>mH K (.ref f)&&A2 K (.ref f)&&A_ K fd.code e.qual&&scB e
 | _,_=>false
def Bn (e:Fe):Prop:=∀ (kV doc pm:Value) (an:Option Addr) (il ct:Value) (us:List Value),us.length=e.ps.length->bindArgs (yD e.x e.qual (jj e.st) (cu e.st) (aI e.st) .none kV doc pm an il ct) ⟨us,[]⟩=pure (e.ps.zip us)
structure Ay (K:bC) (e:Fe) (f:Addr) (fd:FuncData):Prop where
 at_:To K e=some f
 fn:G5 K e.x e.qual e.st f fd
 sc:gh e.N e.ps (aI e.st)
 isf:A2 K (.ref f)=true
 bn:Binds K fd e.ps []
theorem aaU {e:Fe}(h:feB K e=true) (q:Ny K e=(Ny K e).map (Tp e)) (b:Bn e):∃ f fd,Ay K e f fd:=by
 unfold feB at h
 split at h
 case h_2=>cases h
 rename_i f fd h1 h2
 simp only [c6] at h
 obtain ⟨⟨⟨h3,h4⟩,h5⟩,h6⟩:=h
 rw [h2] at q
 injection q with q
 have l:∃ oc od yT,K.lookup f=some ⟨oc,od,.func fd,yT⟩:=by
  unfold Ny at h2
  rw [h1] at h2
  dsimp only [Option.bind] at h2
  split at h2
  ·rename_i oc od fd' yT e
   cases h2
   exact ⟨oc,od,yT,e⟩
  ·cases h2
 obtain ⟨oc,od,yT,l⟩:=l
 have F:G5 K e.x e.qual e.st f fd:=⟨⟨oc,od,fd.kwdefaults,fd.doc,fd.pyModule,fd.annotations,fd.code,fd.closureTuple,yT,q,l,h5⟩,h3⟩
 refine ⟨f,fd,h1,F,?_,h4,F.binds b⟩
 unfold scB at h6
 simp only [c6,decide_eq_true_eq] at h6
 obtain ⟨⟨⟨⟨⟨⟨g1,g2⟩,g3⟩,g4⟩,g5⟩,g6⟩,g7⟩:=h6
 refine ⟨g1,by simpa using g2,by simpa using g3,g4,g5,fun x hx=>?_,fun y hy=>of_decide_eq_true (e_.mp g7 y hy)⟩
 have:=e_.mp g6 x hx
 rw [wB] at this
 exact this.imp of_decide_eq_true of_decide_eq_true
end
abbrev Ku:=List (Str × Nat)
section
variable {Ft:List Fe}{It:Ku}
def hvB (e:Fe):Bool:=e.N.all fun x=>(decide ((aI e.st).names.lookup x=some .local) || decide ((aI e.st).names.lookup x=some .cell))&&!nT x
theorem Nz {e:Fe}(h:hvB e=true):∀ (i:Nat) (x:Str),e.N[i]?=some x->t_ (aI e.st) x/\bQ x/\iM x:=fun i x hx=>by
 have:=e_.mp h x (iJ hx)
 rw [c6,wB] at this
 refine ⟨this.1.elim (fun h=>.inl (of_decide_eq_true h)) fun h=>.inr (.inl (of_decide_eq_true h)),dbg (by simpa using this.2)⟩
def mkB (K:bC) (C f:Addr):Bool:=A3 K C&&decide (fH K (.ref C) "__init__" = some (some (.ref f)))&&mH K (.ref C)
def ER (K:bC) (M:Gm) (Ft:List Fe) (It:Ku) (c:Nat) (x:Str) (t:List Str->Fe->Bool):Bool:=match M.P.cn[c]?,M.P.fn[c]?,(It.lookup x).bind fun i=>Ft[i]? with
 | some n,some ns,some e=>decide (n=x)&&(match EO K x,To K e with
  | some C,some f=>mkB K C f&&t ns e
  | _,_=>false)
 | _,_,_=>false
def fzB (n:Nat) (ns:List Str) (e:Fe):Bool:=hvB e&&lN e.N 1 (cu e.st) ns&&decide (e.ps.length=ns.length+1)&&decide (ns.length=n)
noncomputable def cpB (K:bC) (ns:List Str) (e:Fe):Bool:=hvB e&&decide (e.ps.length=2)&&decide (mJ K mainGlobals "list" = some none)&&decide ((aI e.st).names.lookup ("list" : Str)=some .globalImplicit)&&(match cu e.st with
 | [st1]=>(match pR st1 with
  | some (s0,n,q)=>decide (ns=[n])&&decide (e.N[0]?=some s0)&&decide (e.N[1]?=some q)
  | none=>false)
 | _=>false)
noncomputable def ckB (K:bC) (M:Gm) (Ft:List Fe) (It:Ku) (x:Str):Ck->Bool
 | .fz c n=>ER K M Ft It c x (fzB n)
 | .z0 c=>(match M.P.cn[c]?,EO K x with
  | some n,some C=>decide (n=x)&&A3 K C&&decide (fH K (.ref C) "__init__" = some (some (.builtin "object.__init__")))&&mH K (.ref C)
  | _,_=>false)
 | .cp c=>ER K M Ft It c x (cpB K)
 | .nw c i=>decide (It.lookup x=some i)&&ER K M Ft It c x fun _ _=>true
def fsB (K:bC) (Ft:List Fe) (p:Str × List T × Nat):Bool:=p.2.1.isEmpty&&(match Ft[p.2.2]? with
 | some e=>decide (e.cls=none)&&decide (e.x=p.1)
 | none=>false)
noncomputable def msB (K:bC) (M:Gm) (Ft:List Fe) (m:Str) (p:Nat × Nat):Bool:=match M.P.cn[p.1]?,M.P.fn[p.1]?,Ft[p.2]? with
 | some n,some ns,some e=>(match EO K n,To K e with
  | some C,some f=>decide (fH K (.ref C) m=some (some (.ref f)))&&!ns.contains m
  | _,_=>false)
 | _,_,_=>false
def Tq (K:bC) (M:Gm) (Ft:List Fe) (It:Ku):Bool:=pgB K M.P&&gtB K&&Ft.all (feB K)&&M.fs.all (fsB K Ft)&&M.cl.all (fun p=>ckB K M Ft It p.1 p.2)&&M.ms.all (fun p=>p.2.all (msB K M Ft p.1))&&M.bl.all (fun x=>decide (mJ K mainGlobals x=some none))
structure ModOk (K:bC) (M:Gm) (Ft:List Fe) (It:Ku):Prop where
 b:Tq K M Ft It=true
 q:Ft.map (Ny K)=Ft.map fun e=>(Ny K e).map (Tp e)
 bn:∀ e∈Ft,Bn e
theorem ES {α β:Type}{f g:α->β}:∀ {l:List α},l.map f=l.map g->∀ a∈l,f a=g a
 | [],_,a,h=>by simp at h
 | b::l,e,a,h=>by
  rw [fR,fR] at e
  injection e with e1 e2
  rcases cA.mp h with rfl | h
  ·exact e1
  ·exact ES e2 a h
theorem ModOk.split (O:ModOk K M Ft It):pgB K M.P=true/\gtB K=true/\(∀ e∈Ft,feB K e=true)/\(∀ p∈M.fs,fsB K Ft p=true)/\(∀ p∈M.cl,ckB K M Ft It p.1 p.2=true)/\(∀ p∈M.ms,∀ q∈p.2,msB K M Ft p.1 q=true)/\∀ x∈M.bl,mJ K mainGlobals x=some none:=by
 have h:=O.b
 unfold Tq at h
 simp only [c6] at h
 obtain ⟨⟨⟨⟨⟨⟨h1,h2⟩,h3⟩,h4⟩,h5⟩,h6⟩,h7⟩:=h
 exact ⟨h1,h2,e_.mp h3,e_.mp h4,e_.mp h5,fun p hp=>e_.mp (e_.mp h6 p hp),fun x hx=>of_decide_eq_true (e_.mp h7 x hx)⟩
theorem ModOk.fe (O:ModOk K M Ft It) {e:Fe}(h:e∈Ft):∃ f fd,Ay K e f fd:=aaU (O.split.2.2.1 e h) (ES O.q e h) (O.bn e h)
theorem Kv {B:KT}{P:Program}{w:World}{base:Heap}{k:Nat}{f:Addr}{fd:FuncData}{ps:List Str}:dc P w K mg base kG k f fd ps (nP B noFn):=
 ⟨fun vs H Q E ⟨_,_,_,_,_,_,_,h,_⟩=>(by cases h),fun _ _ _ _ _ _ _ _ _ _ _ _ _ ⟨_,_,_,_,_,_,_,h,_⟩=>(by cases h)⟩
theorem vX (g:Tj K mg) (O:ModOk K M Ft It) {c:Nat}{x:Str}{t:List Str->Fe->Bool}(h:ER K M Ft It c x t=true):∃ C ns e i f fd,M.P.cn[c]?=some x/\M.P.fn[c]?=some ns/\It.lookup x=some i/\Ft[i]?=some e/\Ay K e f fd/\Mk K C f/\Uo K mg x ns C/\t ns e=true:=by
 unfold ER at h
 split at h
 case h_2=>cases h
 rename_i n ns e h1 h2 h3
 obtain ⟨i,h4,h5⟩:=e9.mp h3
 rw [c6] at h
 obtain ⟨hn,h⟩:=h
 have hn:=of_decide_eq_true hn
 subst hn
 split at h
 case h_2=>cases h
 rename_i C f h6 h7
 rw [c6] at h
 obtain ⟨f',fd,F⟩:=O.fe (iJ h5)
 have:=F.at_.symm.trans h7
 cases this
 obtain ⟨C',Gd,l,g1,g2,_,g3,_⟩:=sE O.split.1 h1
 rw [h6] at g1
 cases g1
 rw [h2] at g2
 cases g2
 unfold mkB at h
 simp only [c6,decide_eq_true_eq] at h
 exact ⟨C,ns,e,i,_,fd,h1,h2,h4,h5,F,⟨h.1.1.1,h.1.1.2,F.isf,h.1.2⟩,pY g h6 g3,h.2⟩
theorem Az {α:Type}{l:List (Nat × α)}{x:Nat}{a:α}(h:l.lookup x=some a):(x,a)∈l:=by
 induction l with
 | nil=>simp at h
 | cons p l ih=>
  obtain ⟨q,b⟩:=p
  rw [iK] at h
  split at h
  ·rename_i e
   cases h
   rw [eq_of_beq e]
   exact eE ..
  ·exact eZ _ (ih h)
variable {Pr:Program}{w:World}{base:Heap}
theorem Uo.ET {P:Pg}{c:Nat}{x:Str}{ns:List Str}{C:Addr}(F:Uo K mg x ns C) (h1:P.cn[c]?=some x) (h2:P.fn[c]?=some ns):gE (iT P K Pr w) c C ns:=⟨x,h1,h2,F.nd,F.at_⟩
theorem Kw {e:Fe}{f:Addr}{fd:FuncData}{aj:Nat->Fn}{k:Nat}(F:Ay K e f fd) (G:EA M Pr w K mg base aj k):dc Pr w K mg base kG (k+2) f fd e.ps (nP (iT M.P K Pr w) (EN M aj e)):=by
 have main:dc Pr w K mg base kG (k+2) f fd e.ps (nP (iT M.P K Pr w) (aR e.ps.length e.N.length (j0 M aj 60 200 ⟨e.N,aI e.st,e.mu⟩ (cu e.st)))):=by
  refine Sw F.fn F.sc fun il A outer s H E hr=>?_
  exact iy 60 200 ⟨e.N,aI e.st,e.mu⟩ (mO kG Pr w K mg base e.N e.qual (aI e.st) f il A outer s H E).L_ ⟨⟨G,rfl,rfl,rfl,k+1,dS _,hr⟩,fun _=>rfl,F.sc.nd,rfl⟩ (cu e.st)
 unfold EN aaS
 split
 ·exact JV main
 ·exact main
theorem ye {n:Nat}{i:Nat}{e:Fe}{f:Addr}{fd:FuncData}(F:Ay K e f fd) (he:Ft[i]?=some e) (h:∀ m,n=m+1->EA M Pr w K mg base (iG M Ft m) (2*m+1)):dc Pr w K mg base kG (2*n+1) f fd e.ps (nP (iT M.P K Pr w) (iG M Ft n i)):=by
 cases n with
 | zero=>exact Kv
 | succ m=>
  have:=Kw F (h m rfl)
  unfold iG
  rw [he]
  exact this
theorem Tr (g:Tj K mg) (O:ModOk K M Ft It) (hc:∀ x t,M.cs.lookup x=some t->xK K mg x t):∀ n,EA M Pr w K mg base (iG M Ft n) (2*n+1):=by
 intro n
 induction n using Nat.strongRecOn with
 | ind n ih=>
 have call:∀ {i:Nat} {e:Fe} {f:Addr} {fd:FuncData},Ay K e f fd->Ft[i]?=some e->dc Pr w K mg base kG (2*n+1) f fd e.ps (nP (iT M.P K Pr w) (iG M Ft n i)):=fun F he=>ye F he fun m hm=>ih m (by omega)
 obtain ⟨o1,o2,o3,o4,o5,o6,o7⟩:=O.split
 have pg:=aaT g o1 o2
 refine ⟨pg,hc,fun x ds i h=>?_,fun x c k h=>?_,fun x c h=>?_,fun x c h=>?_,fun x c i h=>?_,fun m l c i h1 h2=>?_,fun x h=>g x none (o7 x h)⟩
 ·have q:=o4 _ (c5 h)
  unfold fsB at q
  rw [c6] at q
  obtain ⟨q1,q2⟩:=q
  dsimp only at q1 q2
  split at q2
  case h_2=>cases q2
  rename_i e he
  rw [c6] at q2
  obtain ⟨q2,q3⟩:=q2
  have q2:=of_decide_eq_true q2
  have q3:=of_decide_eq_true q3
  subst q3
  obtain ⟨f,fd,F⟩:=O.fe (iJ he)
  have ha:=F.at_
  unfold To at ha
  rw [q2] at ha
  have:ds=[]:=by simpa using q1
  subst this
  exact ⟨f,fd,e.ps,[],[],call F he,g _ _ (jH ha),F.fn.kp,F.bn,.nil,fun _ _=>rfl⟩
 ·obtain ⟨C,ns,e,i,f,fd,c1,c2,c3,c4,F,m,cl,q⟩:=vX g O (o5 _ (c5 h))
  unfold fzB at q
  simp only [c6,decide_eq_true_eq] at q
  obtain ⟨⟨⟨q1,q2⟩,q3⟩,q4⟩:=q
  exact ⟨C,f,fd,e.ps,ns,cl.ET c1 c2,q4,cl.gl,m,J0 F.fn F.sc (Nz q1) q2 q3 cl.cl cl.na cl.nd cl.lJ,F.bn⟩
 ·have q:=o5 _ (c5 h)
  unfold ckB at q
  dsimp only at q
  split at q
  case h_2=>cases q
  rename_i n' C h1 h2
  simp only [c6,decide_eq_true_eq] at q
  obtain ⟨⟨⟨q1,q2⟩,q3⟩,q4⟩:=q
  subst q1
  obtain ⟨C',ns,l,g1,g2,_,g3,_⟩:=sE o1 h1
  rw [h2] at g1
  cases g1
  have cl:=pY g h2 g3
  exact ⟨C,ns,cl.ET h1 g2,cl.gl,q2,q3,q4⟩
 ·obtain ⟨C,ns,e,i,f,fd,c1,c2,c3,c4,F,m,cl,q⟩:=vX g O (o5 _ (c5 h))
  unfold cpB at q
  simp only [c6,decide_eq_true_eq] at q
  obtain ⟨⟨⟨⟨q1,q2⟩,q3⟩,q4⟩,q5⟩:=q
  split at q5
  case h_2=>cases q5
  rename_i st1 hb
  split at q5
  case h_2=>cases q5
  rename_i s0 n' q' hi
  simp only [c6,decide_eq_true_eq] at q5
  obtain ⟨⟨r1,r2⟩,r3⟩:=q5
  subst r1
  exact ⟨C,f,fd,e.ps,n',cl.ET c1 c2,cl.gl,m,Ef F.fn F.sc hb hi r2 r3 (Nz q1) (g _ _ q3) q4 q2 cl.cl (cl.na _ (eE ..)),F.bn⟩
 ·have q:=o5 _ (c5 h)
  unfold ckB at q
  dsimp only at q
  rw [c6] at q
  obtain ⟨q0,q⟩:=q
  have q0:=of_decide_eq_true q0
  obtain ⟨C,ns,e,i',f,fd,c1,c2,c3,c4,F,m,cl,_⟩:=vX g O q
  rw [q0] at c3
  cases c3
  exact ⟨C,f,fd,e.ps,ns,cl.ET c1 c2,cl.gl,m,call F c4,F.bn⟩
 ·have q:=o6 _ (c5 h1) (c,i) (Az h2)
  unfold msB at q
  dsimp only at q
  split at q
  case h_2=>cases q
  rename_i n' ns e d1 d2 d3
  split at q
  case h_2=>cases q
  rename_i C f d4 d5
  rw [c6] at q
  obtain ⟨q1,q2⟩:=q
  obtain ⟨C',Gd,l',g1,g2,_,g3,_⟩:=sE o1 d1
  rw [d4] at g1
  cases g1
  rw [d2] at g2
  cases g2
  have cl:=pY g d4 g3
  obtain ⟨f',fd,F⟩:=O.fe (iJ d3)
  have:=F.at_.symm.trans d5
  cases this
  exact ⟨C,_,fd,e.ps,ns,cl.ET d1 d2,cl.cl,⟨of_decide_eq_true q1,F.isf,F.fn.kp⟩,call F d3,F.bn,fun z=>by rw [Bv.mpr z] at q2;cases q2⟩
end
section
variable {Ft:List Fe}{It:Ku}
def yf:T->Value->Bool
 | .int i,.int j _=>decide (i=j)
 | .str l,.str s _=>decide (s.cps.toList=l)&&decide (l.length<=1000000)
 | .bl b,.bool c=>b == c
 | .non,.none=>true
 | _,_=>false
def dE:T->V
 | .int i=>.int i
 | .str l=>SV l
 | .bl b=>.bl b
 | _=>.non
theorem yh {t:T}{u:Value}(h:yf t u=true):RelV (dE t) u/\∀ (B:KT) al H,Rep B al H t (dE t):=by
 unfold yf at h
 split at h
 ·have h:=of_decide_eq_true h
  subst h
  exact ⟨⟨_,rfl⟩,fun _ _ _=>rfl⟩
 ·rename_i l s tk
  rw [c6] at h
  have h1:=of_decide_eq_true h.1
  subst h1
  exact ⟨⟨tk,rfl⟩,fun _ _ _=>⟨rfl,of_decide_eq_true h.2⟩⟩
 ·have h:=eq_of_beq h
  subst h
  exact ⟨rfl,fun _ _ _=>rfl⟩
 ·exact ⟨rfl,fun _ _ _=>rfl⟩
 ·cases h
def pZ:List T->List Value->Bool
 | [],[]=>true
 | t::ts,u::us=>yf t u&&pZ ts us
 | _,_=>false
theorem sF:∀ {ts:List T}{us:List Value},pZ ts us=true->Vals (ts.map dE) us/\∀ (B:KT) al H,aC B al H ts (ts.map dE)
 | [],[],_=>⟨.nil,fun _ _ _=>rfl⟩
 | t::ts,u::us,h=>by
  rw [pZ,c6] at h
  obtain ⟨a,b⟩:=yh h.1
  obtain ⟨c,d⟩:=sF h.2
  exact ⟨.cons a c,fun B al H=>⟨_,_,rfl,b B al H,d B al H⟩⟩
 | [],_::_,h=>by cases h
 | _::_,[],h=>by cases h
def Kz (K:bC) (p:Str × T):Bool:=match mJ K mainGlobals p.1 with
 | some (some u)=>(match p.2,u with
  | .tup ts,.ref a=>(match K.lookup a with
   | some ⟨.type c,_,.seq its _,_⟩=>decide (c = "tuple")&&decide (its.size<=sizeLine)&&pZ ts its.toList
   | _=>false)
  | t,u=>yf t u)
 | _=>false
theorem Tt (g:Tj K mg) {x:Str}{t:T}(h:Kz K (x,t)=true):xK K mg x t:=by
 unfold Kz at h
 dsimp only at h
 split at h
 case h_2=>cases h
 rename_i u hu
 have hm:=g _ _ hu
 split at h
 ·rename_i ts a
  split at h
  ·rename_i c od its n sl hl
   simp only [c6,decide_eq_true_eq] at h
   obtain ⟨⟨h1,h2⟩,h3⟩:=h
   subst h1
   obtain ⟨v1,v2⟩:=sF h3
   exact ⟨_,.ref a,hm,rfl,fun B al H hB=>⟨a,ts.map dE,rfl,.inr ⟨_,its,n,hB ▸ hl,rfl,rfl,h2,v1⟩,v2 B al H⟩⟩
  ·cases h
 ·obtain ⟨v1,v2⟩:=yh h
  exact ⟨u,dE t,hm,v1,fun B al H _=>v2 B al H⟩
structure EU (K:bC) (M:Gm) (Ft:List Fe) (It:Ku):Prop extends ModOk K M Ft It where
 cs:M.cs.all (Kz K)=true
variable {Pr:Program}{w:World}{base:Heap}
theorem KA (g:Tj K mg) (O:EU K M Ft It) (n:Nat):EA M Pr w K mg base (iG M Ft n) (2*n+1):=Tr g O.toModOk (fun x t h=>Tt g (e_.mp O.cs _ (c5 h))) n
theorem KC {B:KT}{f:Fn}{k:Nat}(ns:List Int) (h:∃ m',f [.scr ns] []=.ok (.bl true,m')) {H:Hp}{a:Addr}(hO:OR H) (hS:du B.K H a (ns.map V.int)):nP B f [.ref a] H (fun v _=>v=.bl true) fun _ _ _=>False:=by
 obtain ⟨m',h⟩:=h
 refine ⟨⟨H,fun _=>none,[]⟩,[.scr ns],[],_,m',⟨fun _ _ e=>e,fun b p e=>(by cases e),rfl,fun k ob e=>(by simp at e)⟩,⟨_,_,rfl,⟨a,rfl,hS⟩,rfl⟩,h,fun v g' H' _ _ r=>r⟩
end
theorem aaV {l:PySem.W.OpenLaw}{m n:Nat}{q:Program}{loose:List Str}{XP:(Str->Option Value)->Heap->Prop}{YP:World->Heap->Prop}{d:DefRec}{K:Params->bC}{M:Gm}{Ft:List Fe}{It:Ku}{i:Nat}{e:Fe}
  (hn:l.most=some m) (hm:m<=sizeLine) (hdf:d.params.defaults=[]) (hr:bO (2*n+1) callerA) (hY:∀ (w:World) (h:Heap),YP w h->(K w.params).In h)
  (he:Ft[i]?=some e) (hp:e.ps=[("_law_script" : Str)]) (hx:e.x=d.name) (G6:e.cls=none) (O:∀ P,EU (K P) M Ft It) (hT:∀ ns:List Int,ns.length<=m->(∀ i∈ns,i.natAbs.log2<1048577)->∃ m',iG M Ft n i [.scr ns] []=.ok (.bl true,m')) :
  PySem.W.WalkO q loose XP YP l.row.toRowW d [] (fun f vs=>PySem.call f vs):=by
 intro w s₀ s₁ mg mb G Y fa o pm cd doc dV kV ho hd kE hD hmg hg args vals as G4 adN hrd hwl hlo
 obtain rfl:dV=.none:=Lm.none hD hdf
 obtain rfl:kV=.none:=Lm.noKw hD
 obtain ⟨a,vs,ns,rfl,rfl,adO,hints,cW⟩:=Att.yX hn G4 hwl
 have bits:∀ i∈ns,i.natAbs.log2<1048577:=fun i hi=>by
  have h1:=PySem.W.layableW_item (PySem.W.layableW_arg adN _ (eo.mpr rfl)) (.int i) (i9.mpr ⟨i,hi,rfl⟩)
  have h2:=PyData.bits_of_layable (PyProof.Rows.Da.lay0_int (PySem.W.layable_int h1))
  unfold Builtin.Int.intBits at h2
  split at h2
  ·rename_i z
   rw [show i=0 from of_decide_eq_true z];decide
  ·omega
 refine PySem.W.enter_call (codeAny_mono (?_:codeAny (model l.prog w) callerA (.call (.ref fa) ⟨[.ref a],[]⟩) (fun r s'=>r=.ok (.ret (.bool true))/\OldK s₁.heap s'.heap/\s'.os=s₁.os/\PyProof.Rows.AllBare s'.gens) s₁) fun r s' hq=>?_)
 ·have KX:=hY w _ Y
  have g:=Tn KX G.T.g
  obtain ⟨f,fd,F⟩:=(O w.params).fe (iJ he)
  have ha:=F.at_
  unfold To at ha
  rw [G6] at ha
  have ea:=(g _ _ (jH ha)).symm.trans (hx ▸ hmg)
  cases ea
  refine Cz (k:=2*n+1) (fd:=fd) (x:=("_law_script" : Str)) (CX:=kG) (sp:=nP (iT M.P (K w.params) l.prog w) (iG M Ft n i)) KX G.T.g G.T.b G.T.builtins G.T.nolimit hg adO hints (gO cW hm) hr (fun base KB GB=>?_) (fun s u=>?_) (fun H hO hS=>KC (k:=0) ns (hT ns cW bits) hO hS) fun _ _ _ z=>z
  ·have:=ye (Pr:=l.prog) (w:=w) (base:=base) (mg:=mg) F he (n:=n) fun m hm=>KA g (O w.params) m
   rw [hp] at this
   exact this
  ·obtain ⟨oc,od,kV,doc,pm,an,il,ct,yT,rfl,_⟩:=F.fn.ex
   have:=(O w.params).bn e (iJ he) kV doc pm an il ct [u] (by rw [hp];rfl)
   rw [hp] at this
   exact .of_eq this
 ·obtain ⟨rfl,h2,h3,h4⟩:=hq
  exact ⟨.inl ⟨.bool true,.bool true,[],rfl,fun _=>rfl,.bool true,Att.yY l _,fun _=>⟨List.Pairwise.nil,fun _ hm=>(nomatch hm)⟩⟩,h2,h3,h4⟩
end D
namespace D
theorem bK {α β:Type}(a:α) (f:α->Res β):Res.bind (.ok a) f=f a:=rfl
theorem dh {α:Type}(a:α):cK (some a)=.ok a:=rfl
section
variable {a b:FS}{s s':S}{r:Res (Out × S)}{t:T}{c:FT}{np n:Nat}{ts:List T}{m m':List Ob}{e:FE}
theorem seq1 (h:a s=.ok (.nx,s')) (k:b s'=r):ah a b s=r:=by unfold ah;rw [h];exact k
theorem ia (h:a s=.ok (.rt t,s')):ah a b s=.ok (.rt t,s'):=by unfold ah;rw [h];rfl
theorem kZ (h:c s=.ok (true,s')) (k:a s'=r):aQ c a b s=r:=by unfold aQ;rw [h];exact k
theorem dN (h:c s=.ok (false,s')) (k:b s'=r):aQ c a b s=r:=by unfold aQ;rw [h];exact k
theorem aV (h:e s=.ok (t,s')):ak e s=.ok (.rt t,s'):=by unfold ak;rw [h];rfl
theorem aS (h:ts.length=np) (k:b ⟨ts.map (fun t=>some (.val t))++ed (n-ts.length) none,m⟩=.ok (.rt t,s')) (hm:s'.m=m'):aR np n b ts m=.ok (t,m'):=by
 unfold aR;rw [if_pos h,k,<- hm];rfl
theorem aaW (h:ts.length=np) (k:b ⟨ts.map (fun t=>some (.val t))++ed (n-ts.length) none,m⟩=.ok (.nx,s')) (hm:s'.m=m'):aR np n b ts m=.ok (.non,m'):=by
 unfold aR;rw [if_pos h,k,<- hm];rfl
theorem aT {g:Fn}(h:aB ts=true) (k:g ts []=.ok (t,m')) (ht:noOwn t=true):aY g ts m=.ok (t,m):=by
 unfold aY;rw [if_pos h,k];exact if_pos ht
theorem aF {g:Fn}{ds:List T}{fl:FL}(h:fl s=.ok (ts,s')) (k:g (ts++ds) s'.m=.ok (t,m')):ai g ds fl s=.ok (t,⟨s'.r,m'⟩):=by
 unfold ai;rw [h];show (match g (ts++ds) s'.m with | .ok q=>_ | .bad=>_ | .exc c fs s'=>_)=_;rw [k]
end
theorem aaX {g:Nat->Option Fn}{o:FE}{fl:FL}{k:Nat}{ob:Ob}{f:Fn}{ts:List T}{t:T}{s s1 s2:S}{m':List Ob}(h:o s=.ok (.own k,s1)) (hm:s1.m[k]?=some ob) (hg:g ob.c=some f) (ha:fl s1=.ok (ts,s2)) (hc:f (.own k::ts) s2.m=.ok (t,m')) :
  aM g o fl s=.ok (t,⟨s2.r,m'⟩):=by
 unfold aM
 rw [h]
 show Res.bind (cK ((s1.m[k]?).bind fun ob=>g ob.c)) _=_
 rw [hm]
 show Res.bind (cK (g ob.c)) _=_
 rw [hg]
 refine Eq.trans (bK f _) ?_
 exact aF (ts:=.own k::ts) (s':=s2) (by rw [ha];rfl) (by rw [dH];exact hc)
theorem jI {α:Type}{p:Prop} [Decidable p] {x:α}(h:p):gd p x=some x:=if_pos h
theorem ev:(∀ t s,cF t s=.ok (t,s))/\(∀ g a s,bG g a s=(a s).bind fun p=>(cK (g p.1)).bind fun t=>.ok (t,p.2))/\(∀ g a b s,a_ g a b s=(a s).bind fun p=>(b p.2).bind fun q=>(cK (g p.1 q.1)).bind fun t=>.ok (t,q.2)) /\
  (∀ s,b_ s=.ok ([],s))/\(∀ a r s,dY a r s=(a s).bind fun p=>(r p.2).bind fun q=>.ok (p.1::q.1,q.2))/\(∀ g a s,aK g a s=(a s).bind fun p=>(cK (g p.1)).bind fun t=>.ok (t,p.2)) /\
  (∀ a s,tB a s=(a s).bind fun p=>(cK (Jv p.1)).bind fun b=>.ok (b,p.2))/\(∀ a s,aZ a s=(a s).bind fun p=>(cK (RL p.1)).bind fun b=>.ok (b,p.2))/\(∀ a s,bz a s=(a s).bind fun p=>.ok (!p.1,p.2)) /\
  (∀ s,rJ s=.ok (none,s))/\(∀ a s,kJ a s=(a s).bind fun p=>(cK (RM p.1)).bind fun i=>.ok (some i,p.2))/\(∀ a lo hi s,mU a lo hi s=(a s).bind fun p=>(lo p.2).bind fun q=>(hi q.2).bind fun z=>(cK (Dv q.1 z.1 p.1)).bind fun t=>.ok (t,z.2)) /\
  (∀ i a s,aA i a s=(a s).bind fun p=>.ok (.nx,i7 p.2 i (.val p.1)))/\(∀ a s,cX a s=(a s).bind fun p=>.ok (.nx,p.2))/\(∀ s,ao s=.ok (.nx,s)) /\
  (∀ r m i c,i7 ⟨r,m⟩ i c=⟨r.set i (some c),m⟩)/\(∀ f o fl s,jB f o fl s=(o s).bind fun p=>(cK (JL p.1)).bind fun l=>(fl p.2).bind fun q=>(cK (f l q.1)).bind fun t=>.ok (t,q.2)) /\
  (∀ t,Jv (.bl t)=some t)/\(∀ t,RL (.bl t)=some t)/\(∀ i,RM (.int i)=some i)/\(∀ l,JL (.str l)=some l):=
 ⟨fun _ _=>rfl,fun _ _ _=>rfl,fun _ _ _ _=>rfl,fun _=>rfl,fun _ _ _=>rfl,fun _ _ _=>rfl,fun _ _=>rfl,fun _ _=>rfl,fun _ _=>rfl,fun _=>rfl,fun _ _=>rfl,fun _ _ _ _=>rfl,fun _ _ _=>rfl,fun _ _=>rfl,fun _=>rfl,fun _ _ _ _=>rfl,fun _ _ _ _=>rfl,fun _=>rfl,fun _=>rfl,fun _=>rfl,fun _=>rfl⟩
theorem d8:(∀ r m t,vF 0 ⟨some (.val t)::r,m⟩=.ok (t,⟨some (.val t)::r,m⟩))/\(∀ x0 r m t,vF 1 ⟨x0::some (.val t)::r,m⟩=.ok (t,⟨x0::some (.val t)::r,m⟩))/\(∀ x0 x1 r m t,vF 2 ⟨x0::x1::some (.val t)::r,m⟩=.ok (t,⟨x0::x1::some (.val t)::r,m⟩))/\(∀ x0 x1 x2 r m t,vF 3 ⟨x0::x1::x2::some (.val t)::r,m⟩=.ok (t,⟨x0::x1::x2::some (.val t)::r,m⟩))/\(∀ x0 x1 x2 x3 r m t,vF 4 ⟨x0::x1::x2::x3::some (.val t)::r,m⟩=.ok (t,⟨x0::x1::x2::x3::some (.val t)::r,m⟩))/\(∀ x0 x1 x2 x3 x4 r m t,vF 5 ⟨x0::x1::x2::x3::x4::some (.val t)::r,m⟩=.ok (t,⟨x0::x1::x2::x3::x4::some (.val t)::r,m⟩))/\(∀ x0 x1 x2 x3 x4 x5 r m t,vF 6 ⟨x0::x1::x2::x3::x4::x5::some (.val t)::r,m⟩=.ok (t,⟨x0::x1::x2::x3::x4::x5::some (.val t)::r,m⟩))/\(∀ x0 x1 x2 x3 x4 x5 x6 r m t,vF 7 ⟨x0::x1::x2::x3::x4::x5::x6::some (.val t)::r,m⟩=.ok (t,⟨x0::x1::x2::x3::x4::x5::x6::some (.val t)::r,m⟩))/\(∀ y r c,qA (α:=Option C) (y::r) 0 c=c::r)/\(∀ x0 y r c,qA (α:=Option C) (x0::y::r) 1 c=x0::c::r)/\(∀ x0 x1 y r c,qA (α:=Option C) (x0::x1::y::r) 2 c=x0::x1::c::r)/\(∀ x0 x1 x2 y r c,qA (α:=Option C) (x0::x1::x2::y::r) 3 c=x0::x1::x2::c::r)/\(∀ x0 x1 x2 x3 y r c,qA (α:=Option C) (x0::x1::x2::x3::y::r) 4 c=x0::x1::x2::x3::c::r)/\(∀ x0 x1 x2 x3 x4 y r c,qA (α:=Option C) (x0::x1::x2::x3::x4::y::r) 5 c=x0::x1::x2::x3::x4::c::r)/\(∀ x0 x1 x2 x3 x4 x5 y r c,qA (α:=Option C) (x0::x1::x2::x3::x4::x5::y::r) 6 c=x0::x1::x2::x3::x4::x5::c::r)/\(∀ x0 x1 x2 x3 x4 x5 x6 y r c,qA (α:=Option C) (x0::x1::x2::x3::x4::x5::x6::y::r) 7 c=x0::x1::x2::x3::x4::x5::x6::c::r):=
 ⟨fun _ _ _=>rfl,fun _ _ _ _=>rfl,fun _ _ _ _ _=>rfl,fun _ _ _ _ _ _=>rfl,fun _ _ _ _ _ _ _=>rfl,fun _ _ _ _ _ _ _ _=>rfl,fun _ _ _ _ _ _ _ _ _=>rfl,fun _ _ _ _ _ _ _ _ _ _=>rfl,fun _ _ _=>rfl,fun _ _ _ _=>rfl,fun _ _ _ _ _=>rfl,fun _ _ _ _ _ _=>rfl,fun _ _ _ _ _ _ _=>rfl,fun _ _ _ _ _ _ _ _=>rfl,fun _ _ _ _ _ _ _ _ _=>rfl,fun _ _ _ _ _ _ _ _ _ _=>rfl⟩
end D
namespace D
open PySem L2 PyProof.Rows
theorem EV (l:List Nat):(⟨l.toArray⟩:Str).length=l.length:=by show l.toArray.size=_;simp
open PySem.StrLaws in
theorem sG (s sub:Str) (hi:Nat):∀ (l:List Nat) (a fr:Nat),(forIn l ((#[a]:Array Nat),fr) (occBody s sub hi 1)).run.fst=#[a]
 | [],_,_=>rfl
 | b::l,a,fr=>by
  rw [Gw]
  unfold occBody
  rw [if_neg (by simp)]
  exact sG s sub hi l a fr
open PySem.StrLaws Builtin.Str in
theorem occ_first (s sub:Str) (hi:Nat):∀ (n lo fr:Nat),fr<=lo ->
  ((forIn (Lz lo n) ((#[]:Array Nat),fr) (occBody s sub hi 1)).run.fst=#[]/\∀ i,lo<=i->i<lo+n->¬ (i+sub.length<=hi/\subAt s sub i=true)) \/
  ∃ i,(forIn (Lz lo n) ((#[]:Array Nat),fr) (occBody s sub hi 1)).run.fst=#[i]/\lo<=i/\i<lo+n/\(i+sub.length<=hi/\subAt s sub i=true)/\∀ j,lo<=j->j<i->¬ (j+sub.length<=hi/\subAt s sub j=true)
 | 0,lo,fr,_=>.inl ⟨rfl,fun i a b=>by omega⟩
 | n+1,lo,fr,h=>by
  rw [List.range'_succ,Gw]
  by_cases hc:lo+sub.length<=hi/\subAt s sub lo=true
  ·right
   refine ⟨lo,?_,dS _,by omega,hc,fun j a b=>by omega⟩
   unfold occBody
   rw [if_pos ⟨⟨⟨by simp,h⟩,hc.1⟩,hc.2⟩]
   exact sG s sub hi _ lo _
  ·have e:∀ k,(occBody s sub hi 1 lo ((#[]:Array Nat),fr) >>= k:Id (Array Nat × Nat))=k (ForInStep.yield ((#[]:Array Nat),fr)):=fun k=>by
    unfold occBody
    rw [if_neg (fun z=>hc ⟨z.1.2,z.2⟩)]
    rfl
   rw [e]
   rcases occ_first s sub hi n (lo+1) fr (by omega) with ⟨a,b⟩ | ⟨i,a,b,c,d,g⟩
   ·refine .inl ⟨a,fun i h1 h2=>?_⟩
    by_cases z:i=lo
    ·subst z;exact hc
    ·exact b i (by omega) (by omega)
   ·refine .inr ⟨i,a,by omega,by omega,d,fun j h1 h2=>?_⟩
    by_cases z:j=lo
    ·subst z;exact hc
    ·exact g j (by omega) h2
theorem vY (c:Nat) (r:List Nat) (i:Nat):(i+(⟨[c].toArray⟩:Str).length<=r.length/\Builtin.Str.subAt ⟨r.toArray⟩ ⟨[c].toArray⟩ i=true) ↔ r[i]?=some c:=by
 rw [StrLaws.subAt_eq,EV,beq_iff_eq]
 show (i + [c].length<=r.length/\(r.drop i).take [c].length=[c]) ↔ _
 constructor
 ·rintro ⟨h1,h2⟩
  have:=congrArg (fun q=>q[0]?) h2
  simpa using this
 ·intro h
  have hi:=(cU.mp h).1
  refine ⟨hi,?_⟩
  rw [Br hi]
  have:=(cU.mp h).2
  simp [this]
theorem yi (c:Nat) (D S R:List Nat) (h:c ∉ S):Builtin.Str.occurrences ⟨(D++(S++c::R)).toArray⟩ ⟨[c].toArray⟩ D.length (D++(S++c::R)).length 1=[D.length+S.length]:=by
 have hat:(D++(S++c::R))[D.length+S.length]?=some c:=by
  rw [fJ (by omega),fJ (by omega)]
  simp
 have Av:∀ j,D.length<=j->j<D.length+S.length->¬ (D++(S++c::R))[j]?=some c:=fun j h1 h2 z=>by
  rw [fJ h1,iI (by omega)] at z
  exact h (iJ z)
 rw [StrLaws.occ_eq]
 rcases occ_first ⟨(D++(S++c::R)).toArray⟩ ⟨[c].toArray⟩ (D++(S++c::R)).length ((D++(S++c::R)).length+1-D.length) D.length D.length (dS _) with ⟨a,b⟩ | ⟨i,a,b,c',d,g⟩
 ·exact absurd ((vY c _ _).mpr hat) (b _ (by omega) (by simp;omega))
 ·rw [a]
  have hi:=(vY c _ _).mp d
  have:i=D.length+S.length:=by
   rcases Nat.lt_trichotomy i (D.length+S.length) with z | z | z
   ·exact absurd hi (Av i b z)
   ·exact z
   ·exact absurd ((vY c _ _).mpr hat) (g _ (by omega) z)
  rw [this]
theorem EW (c:Nat) (D S R:List Nat) (h:c ∉ S):lK (D++(S++c::R)) [.str [c],.int (D.length:Nat)]=some (.int ((D.length+S.length:Nat):Int)):=by
 show some (T.int (Txt.find3 _ _ _))=_
 unfold Txt.find3
 have hfi:PySem.fromIndex (⟨(D++(S++c::R)).toArray⟩:Str).length ((D.length:Nat):Int)=D.length:=by
  unfold PySem.fromIndex
  rw [if_neg (by omega)]
  omega
 rw [hfi,EV,yi c D S R h]
theorem AA (c:Nat) (S R:List Nat) (h:c ∉ S):lK (S++c::R) [.str [c]]=some (.int ((S.length:Nat):Int)):=by
 have:=yi c [] S R h
 rw [Gv] at this
 show some (T.int (Txt.find _ _))=_
 unfold Txt.find
 rw [EV]
 have e:Builtin.Str.occurrences ⟨(S++c::R).toArray⟩ ⟨[c].toArray⟩ 0 (S++c::R).length 1=[0+S.length]:=this
 rw [e,qB]
theorem k6 (n d k:Nat):fm n d (some (k:Int))=min k n:=by
 unfold fm
 dsimp only
 rw [if_neg (by omega)];rfl
theorem EX (n d:Nat):fm n d none=d:=rfl
theorem ib {α:Type}(w r:List α):bD (w++r) (some (w.length:Int)) none=r:=by
 unfold bD
 rw [k6,EX,bJ,BK (by omega),By]
 simp
theorem EY {α:Type}(w r:List α):bD (w++r) none (some (w.length:Int))=w:=by
 unfold bD
 rw [k6,EX,bJ,BK (by omega)]
 simp
theorem KD {α:Type}(a b c:List α):bD (a++(b++c)) (some (a.length:Int)) (some ((a.length+b.length:Nat):Int))=b:=by
 unfold bD
 rw [k6,k6,bJ,bJ,BK (by omega),BK (by omega),By]
 have:a.length+b.length-a.length=b.length:=by omega
 rw [this,List.take_left]
theorem pre_app (w r:List Nat):pre w (w++r)=true:=by unfold pre;simp
theorem a8 {c d:Nat}{w r:List Nat}(h:c≠d):pre (c::w) (d::r)=false:=by
 unfold pre
 rw [cQ,cQ,LA]
 have:(d::BA w.length r == c::w)=false:=by
  rw [beq_eq_false_iff_ne]
  intro z
  injection z with z _
  exact h z.symm
 rw [this,wC]
theorem fX (c:Nat) (w r:List Nat):pre (c::w) (c::r)=pre w r:=by
 unfold pre
 rw [cQ,cQ,LA]
 have:(c::BA w.length r == c::w)=(BA w.length r == w):=by
  rw [GC];simp
 rw [this]
 congr 1
 apply decide_eq_decide.mpr
 omega
end D
namespace D
abbrev sv (t:T):Option C:=some (.val t)
abbrev cI (i:Int):FE:=cF (.int i)
abbrev cS (l:List Nat):FE:=cF (.str l)
abbrev oA:FE->FE->FE:=a_ (bw .Add)
abbrev oM:FE->FE->FE:=a_ (bw .Mod)
abbrev oD:FE->FE->FE:=a_ (bw .FloorDiv)
abbrev oE:FE->FE->FE:=a_ (aJ .Eq)
abbrev oI:FE->FE->FE:=a_ gi
abbrev k1 (a:FE):FL:=dY a b_
abbrev k2 (a b:FE):FL:=dY a (k1 b)
abbrev k3 (a b c:FE):FL:=dY a (k2 b c)
def W {α:Type}(x:Res α) (Q:α->Prop):Prop:=∃ a,x=.ok a/\Q a
section
variable {α β:Type}{x:Res α}{f:α->Res β}{P:α->Prop}{R:β->Prop}
theorem W.mono {Q:α->Prop}(h:W x Q) (k:∀ a,Q a->P a):W x P:=let ⟨a,e,q⟩:=h;⟨a,e,k a q⟩
theorem W.bind (h:W x fun a=>W (f a) R):W (x.bind f) R:=by
 obtain ⟨a,rfl,b,e,q⟩:=h
 exact ⟨b,e,q⟩
theorem W.of {a:α}(e:x=.ok a) (h:P a):W x P:=⟨a,e,h⟩
theorem wO {o:Option α}{a:α}(e:o=some a) (h:W (f a) R):W ((cK o).bind f) R:=by rw [e];exact h
end
section
variable {s s1 s':S}{a b:FE}{fl:FL}{g:T->T->Option T}{gN:List T->Option T}{Q:T × S->Prop}{t u:T}{ts:List T}{i:Nat}{c:FT}{A B:FS}{QS:Out × S->Prop}{QB:Bool × S->Prop}{QL:List T × S->Prop}{G:T × List Ob->Prop}
theorem sH (h:W (a s) fun p=>W (b p.2) fun q=>∃ v,g p.1 q.1=some v/\Q (v,q.2)):W (a_ g a b s) Q:=W.bind (h.mono fun _ k=>W.bind (k.mono fun _ ⟨_,e,q⟩=>wO e ⟨_,rfl,q⟩))
theorem adP (h:W (fl s) fun p=>∃ v,gN p.1=some v/\Q (v,p.2)):W (aK gN fl s) Q:=W.bind (h.mono fun _ ⟨_,e,q⟩=>wO e ⟨_,rfl,q⟩)
theorem fG (h:W (a s) fun p=>W (fl p.2) fun q=>QL (p.1::q.1,q.2)):W (dY a fl s) QL:=W.bind (h.mono fun _ k=>W.bind (k.mono fun _ q=>⟨_,rfl,q⟩))
theorem b9 {f:Fn}(h:W (fl s) fun p=>W (f p.1 p.2.m) fun q=>Q (q.1,⟨p.2.r,q.2⟩)):W (ai f [] fl s) Q:=W.bind (h.mono fun p k=>by
 obtain ⟨q,e,k⟩:=k
 refine ⟨_,?_,k⟩
 rw [dH,e])
theorem aaY (h:W (a s) fun p=>∃ k,p.1=.bl k/\QB (k,p.2)):W (aZ a s) QB:=W.bind (h.mono fun p ⟨k,e,q⟩=>by rw [e];exact ⟨_,rfl,q⟩)
def WB (b:FS) (s:S) (G:T × List Ob->Prop):Prop:=W (b s) fun p=>∃ t,p.1=.rt t/\G (t,p.2.m)
theorem EZ (h:W (a s) fun p=>G (p.1,p.2.m)):WB (ak a) s G:=W.bind (h.mono fun p q=>⟨_,rfl,_,rfl,q⟩)
theorem d9 (e:a s=.ok (t,s')) (h:G (t,s'.m)):WB (ak a) s G:=EZ ⟨_,e,h⟩
theorem kM (h:W (A s) fun p=>p.1=.nx/\WB B p.2 G):WB (ah A B) s G:=W.bind (h.mono fun p zz=>by
 obtain ⟨e,k⟩:=zz
 obtain ⟨o,s'⟩:=p
 cases e
 exact k)
theorem aaZ (h:WB A s G):WB (ah A B) s G:=W.bind (W.mono h fun p ⟨t,e,k⟩=>⟨p,by obtain ⟨o,s'⟩:=p;cases e;rfl,t,e,k⟩)
theorem j1 (h:W (a s) fun p=>QS (.nx,i7 p.2 i (.val p.1))):W (aA i a s) QS:=W.bind (h.mono fun _ q=>⟨_,rfl,q⟩)
theorem dD (h:W (a s) fun p=>WB B (i7 p.2 i (.val p.1)) G):WB (ah (aA i a) B) s G:=kM (j1 (h.mono fun _ q=>⟨rfl,q⟩))
theorem KG (e:a s=.ok (t,s')) (h:WB B (i7 s' i (.val t)) G):WB (ah (aA i a) B) s G:=dD ⟨_,e,h⟩
theorem wIf (h:W (c s) fun p=>(p.1=true->W (A p.2) QS)/\(p.1=false->W (B p.2) QS)):W (aQ c A B s) QS:=W.bind (h.mono fun p zz=>by
 obtain ⟨k1,k2⟩:=zz
 cases e:p.1 with
 | true=>exact k1 e
 | false=>exact k2 e)
theorem E1 (e:c s=.ok (true,s')) (h:W (A s') QS):W (aQ c A B s) QS:=wIf ⟨_,e,⟨fun _=>h,fun z=>by cases z⟩⟩
theorem adQ (e:c s=.ok (false,s')) (h:W (B s') QS):W (aQ c A B s) QS:=wIf ⟨_,e,⟨fun z=>(by cases z),fun _=>h⟩⟩
theorem k7 (e:c s=.ok (true,s')) (h:WB A s' G):WB (ah (aQ c A B) a') s G:=aaZ (E1 e h)
theorem cM (e:c s=.ok (false,s')) (h:WB B s' G):WB (ah (aQ c A ao) B) s G:=kM (adQ e ⟨_,rfl,rfl,h⟩)
theorem bIf (h:W (c s) fun p=>(p.1=true->W (A p.2) fun q=>q.1=.nx/\WB B q.2 G)/\(p.1=false->WB B p.2 G)):WB (ah (aQ c A ao) B) s G:=kM (wIf (h.mono fun _ k=>⟨k.1,fun z=>⟨_,rfl,rfl,k.2 z⟩⟩))
theorem bBr (h:W (c s) fun p=>(p.1=true->WB A p.2 G)/\(p.1=false->WB B p.2 G)):WB (ah (aQ c A ao) B) s G:=by
 obtain ⟨p,e,k1,k2⟩:=h
 obtain ⟨k,s'⟩:=p
 cases k with
 | true=>exact k7 e (k1 rfl)
 | false=>exact cM e (k2 rfl)
theorem lR {np n:Nat}{m:List Ob}(h:ts.length=np) (k:WB B ⟨ts.map (fun t=>some (.val t))++ed (n-ts.length) none,m⟩ G):W (aR np n B ts m) G:=by
 unfold aR
 rw [if_pos h]
 exact W.bind (W.mono k fun p ⟨t,e,k⟩=>⟨_,by rw [e],k⟩)
theorem aa0 {f:Fn}{m:List Ob}(h:aB ts=true) (k:W (f ts []) fun p=>noOwn p.1=true/\G (p.1,m)):W (aY f ts m) G:=by
 obtain ⟨p,e,h1,h2⟩:=k
 refine ⟨_,?_,h2⟩
 unfold aY
 rw [if_pos h,e]
 exact if_pos h1
theorem vZ (h:W (A s) fun p=>p.1=.nx/\W (B p.2) QS):W (ah A B s) QS:=W.bind (h.mono fun p zz=>by
 obtain ⟨e,k⟩:=zz
 obtain ⟨o,s'⟩:=p
 cases e
 exact k)
theorem adR {gL:List T->Option (List T)}(h:W (fl s) fun p=>∃ v,gL p.1=some v/\QL (v,p.2)):W (wZ gL fl s) QL:=W.bind (h.mono fun _ ⟨_,e,q⟩=>wO e ⟨_,rfl,q⟩)
theorem E2 {gg:FG}(h:W (a s) fun p=>∃ r,gg p.1 p.2.r=some r/\QS (.nx,⟨r,p.2.m⟩)):W (vH gg a s) QS:=W.bind (h.mono fun _ ⟨_,e,q⟩=>wO e ⟨_,rfl,q⟩)
theorem aa1 {j:Nat}(h:W (fl s) fun p=>∃ r,nJ [i,j] p.1 p.2.r=some r/\QS (.nx,⟨r,p.2.m⟩)):W (En i j fl s) QS:=W.bind (h.mono fun _ ⟨_,e,q⟩=>wO e ⟨_,rfl,q⟩)
theorem aa2 (h:W (fl s) fun p=>Q (.lst p.1,p.2)):W (bP fl s) Q:=W.bind (h.mono fun _ q=>⟨_,rfl,q⟩)
theorem NB {n:Nat}{js:List Nat}{gg:FG}{e:FE}(h:W (fl s) fun p=>p.1.length<=1000000/\W (cC gg c e (iP n js (jo js p.2.r)) p.1 p.2.m) fun q=>QL (q.1,⟨jo js p.2.r,q.2⟩)):W (bj fl n js gg c e s) QL:=W.bind (h.mono fun p zz=>by
 obtain ⟨z,k⟩:=zz
 rw [if_pos z]
 exact W.bind (k.mono fun _ q=>⟨_,rfl,q⟩))
theorem wGo {gg:FG}{e:FE}{r:List (Option C)}{I:List Ob->Prop}{R:T->Prop}:∀ {ts:List T},(∀ t∈ts,∀ m,I m->∃ b1,gg t r=some b1/\W (e ⟨b1,m⟩) fun p=>R p.1/\I p.2.m)->∀ m,I m->W (cC gg dg e r ts m) fun p=>p.1.length=ts.length/\(∀ t∈p.1,R t)/\I p.2
 | [],_,m,h=>⟨_,rfl,rfl,fun _ z=>(nomatch z),h⟩
 | t::ts,k,m,h=>by
  obtain ⟨b1,e1,p,e2,r1,h1⟩:=k t (eE ..) m h
  obtain ⟨q,e3,l,r2,h2⟩:=wGo (fun t ht=>k t (eZ _ ht)) p.2.m h1
  refine ⟨(p.1::q.1,q.2),?_,by show q.1.length+1=ts.length+1;rw [l],fun u hu=>?_,h2⟩
  ·rw [cC,e1]
   refine Eq.trans (bK _ _) ?_
   show Res.bind (e ⟨b1,m⟩) _=_
   rw [e2]
   show Res.bind (cC gg dg e r ts p.2.m) _=_
   rw [e3];rfl
  ·rcases cA.mp hu with z | z
   ·rw [z];exact r1
   ·exact r2 u z
theorem E3 {α:Type}{f:α->T}{P:α->Prop}:∀ {us:List T},(∀ t∈us,∃ x,P x/\t=f x)->∃ xs:List α,us=xs.map f/\∀ x∈xs,P x
 | [],_=>⟨[],rfl,fun _ z=>nomatch z⟩
 | u::us,h=>by
  obtain ⟨x,h1,rfl⟩:=h u (eE ..)
  obtain ⟨xs,rfl,h2⟩:=E3 fun t ht=>h t (eZ _ ht)
  exact ⟨x::xs,rfl,fun y hy=>by
   rcases cA.mp hy with z | z
   ·rw [z];exact h1
   ·exact h2 y z⟩
theorem aa3 {gg:FG}{I:S->Prop}:∀ {ts:List T}{s:S},(∀ t∈ts,∀ s,I s->∃ r,gg t s.r=some r/\W (B ⟨r,s.m⟩) fun p=>p.1=.nx/\I p.2)->I s->W (c_ gg B ts s) fun p=>p.1=.nx/\I p.2
 | [],s,_,h=>⟨_,rfl,rfl,h⟩
 | t::ts,s,k,h=>by
  obtain ⟨r,e1,⟨o,s1⟩,e2,e3,h1⟩:=k t (eE ..) s h
  cases e3
  obtain ⟨p,e4,h2⟩:=aa3 (ts:=ts) (fun t ht=>k t (eZ _ ht)) h1
  refine ⟨p,?_,h2⟩
  rw [c_,e1]
  refine Eq.trans (bK _ _) ?_
  show Res.bind (B ⟨r,s.m⟩) _=_
  rw [e2]
  exact e4
theorem bx1 {c k:Nat}{zs:List T}{j:Int}(h1:a s=.ok (.own k,s)) (h2:s.m[k]?=some ⟨c,[.ol zs]⟩) (h3:b s=.ok (.int j,s)) (h4:atT zs j=some t):kL c a b s=.ok (t,s):=by
 unfold kL
 rw [h1];refine Eq.trans (bK _ _) ?_
 dsimp only
 rw [h3];refine Eq.trans (bK _ _) ?_
 dsimp only
 unfold Aj
 dsimp only
 rw [h2]
 dsimp only
 rw [if_pos rfl]
 show Res.bind (cK (atT zs j)) _=_
 rw [h4];rfl
theorem bpt {c k:Nat}{zs:List T}{j:Int}{v:T}{e:FE}(h0:e s=.ok (v,s)) (h1:a s=.ok (.own k,s)) (h2:s.m[k]?=some ⟨c,[.ol zs]⟩) (h3:b s=.ok (.int j,s)) (h4:0<=j/\j<zs.length):lC c a b e s=.ok (.nx,⟨s.r,s.m.set k ⟨c,[.ol (zs.set j.toNat v)]⟩⟩):=by
 unfold lC
 rw [h0];refine Eq.trans (bK _ _) ?_
 dsimp only
 rw [h1];refine Eq.trans (bK _ _) ?_
 dsimp only
 rw [h3];refine Eq.trans (bK _ _) ?_
 dsimp only
 unfold Aj
 dsimp only
 rw [h2]
 dsimp only
 rw [if_pos rfl]
 show Res.bind (cK (gd (0<=j/\j<zs.length) ())) _=_
 rw [jI h4];rfl
end
end D
namespace K23
open PySem D L2
variable (n:Nat){m:List _root_.D.Ob}
abbrev E4:List Nat:=[97,98,99,100,101,102,103,104,105,106,107,108,109,110,111,112,113,114,115,116,117,118,119,120,121,122,65,66,67,68,69,70,71,72,73,74,75,76,77,78,79,80,81,82,83,84,85,86,87,88,89,90,48,49,50,51,52,53,54,55,56,57,32,33,34,35,36,38,39,40,41,42,43,44,45,46,47,58,59,60,61,62,63,64,91,92,93,94,95,96,123,124,125,126]
abbrev KI:List Nat:=[97,98,99,100,101,102,103,104,105,106,107,108,109,110,111,112,113,114,115,116,117,118,119,120,121,122]
abbrev aa4:List Nat:=[32,33,35,36,38,39,40,41,42,43,44,45,46,47,48,49,50,51,52,53,54,55,56,57,58,59,60,61,62,63,64,65,66,67,68,69,70,71,72,73,74,75,76,77,78,79,80,81,82,83,84,85,86,87,88,89,90,91,92,93,94,95,96,97,98,99,100,101,102,103,104,105,106,107,108,109,110,111,112,113,114,115,116,117,118,119,120,121,122,123,124,125,126]
abbrev aa5:List Nat:=[32,33,34,35,36,38,39,40,41,42,43,44,45,46,48,49,50,51,52,53,54,55,56,57,58,59,60,61,62,63,64,65,66,67,68,69,70,71,72,73,74,75,76,77,78,79,80,81,82,83,84,85,86,87,88,89,90,91,92,95,96,97,98,99,100,101,102,103,104,105,106,107,108,109,110,111,112,113,114,115,116,117,118,119,120,121,122,123,124,125,126]
abbrev aa6:List Nat:=[32,33,34,35,38,39,40,41,44,45,48,49,50,51,52,53,54,55,56,57,58,59,60,61,62,64,65,66,67,68,69,70,71,72,73,74,75,76,77,78,79,80,81,82,83,84,85,86,87,88,89,90,92,95,96,97,98,99,100,101,102,103,104,105,106,107,108,109,110,111,112,113,114,115,116,117,118,119,120,121,122,123,124,125,126]
noncomputable abbrev fx (x:Str) (i:Nat):Str × List T × Nat:=(x,[],i)
noncomputable def M:Gm:={
 P:={ cn:=["Program", "Line", "Cond", "Always", "RowIs", "Last", "Like", "Soon", "FromTo", "Not", "End", "Deed", "Mark", "Drop", "Print", "Done", "Say", "Swap", "Join", "Pile", "Bring", "Go", "Add", "Tell", "Scan"],an:=["lines", "cond", "deed", "number", "pattern", "many", "first", "second", "inner", "name", "words", "every", "most", "shelf", "rest"],tab:=[[0],[1,2],[],[],[3],[],[4],[5,4],[6,7],[8],[],[],[9],[],[],[],[10],[4,10,11],[12],[13,12],[13],[9],[6,7],[],[14,3]],sub:=[[0],[1],[2],[2,3],[2,4],[2,5],[2,6],[2,7],[2,8],[2,9],[2,10],[11],[11,12],[11,13],[11,14],[11,15],[11,16],[11,17],[11,18],[11,19],[11,20],[11,21],[11,22],[11,23],[24]] },
 cs:=[("SIGNS", .str E4),("SMALL_LETTERS", .str KI),("FIGURES", .str [48,49,50,51,52,53,54,55,56,57]),("MOST_ITEMS", .int 8),("MOST_SIGNS", .int 12),("NEVER_PLAIN", .str [94,36,46,91,93,42,43,63,47]),("NEVER_IN_A_SET", .str [93,94,47]),("ONCE", .str [49]),("HOW_MANY", .str [42,43,63]),("COND_BEGINNINGS", .tup [.str [114,111,119,32],.str [108,97,115,116],.str [47],.str [115,111,111,110,32],.str [102,114,111,109,32],.str [110,111,116,32],.str [101,110,100]]),("MOST_ROW", .int 999),("MOST_FIGURES", .int 3),("MOST_SOON", .int 3),("LEAST_JOIN", .int 2),("MOST_SMALL", .int 9),("MOST_LETTERS", .int 8),("MOST_TEXT", .int 40),("MOST_LINES", .int 24)],
 fs:=[fx "made_of" 0,fx "beginning_of" 1,fx "may_stand_plain" 2,fx "pattern" 3,fx "items_of" 4,fx "place_behind_core" 5,fx "many_at" 6,fx "item_of" 7,fx "set_item" 8,fx "is_written_plain" 9,fx "written" 10,fx "written_core" 11,fx "may_be_empty" 12,fx "least_length" 13,fx "may_be_left_out" 14,fx "line_of" 15,fx "line_next" 16,fx "cond_next" 17,fx "plain_cond_next" 18,fx "row_or_pattern_next" 19,fx "deed_next" 20,fx "swap_next" 21,fx "pile_next" 22,fx "add_next" 23,fx "number_next" 24,fx "name_next" 25,fx "words_next" 26,fx "pattern_next" 27,fx "may_stand" 28,fx "may_swap" 29,fx "cut" 30,fx "read" 31,fx "lines_of" 32,fx "marks_of" 33,fx "refuse_go_without_mark" 34,fx "shown" 35,fx "line_text" 36,fx "cond_text" 37,fx "deed_text" 38,fx "pattern_text" 39,fx "quoted" 40,fx "_law_whole" 41,fx "_law_same" 42,fx "_law_is_cond" 43,fx "_law_is_numbered" 44,fx "_law_is_deed" 45,fx "_law_right" 46,fx "_law_box" 47,fx "_law_take" 48,fx "_law_any_signs" 49,fx "_law_any_name" 50,fx "_law_any_words" 51,fx "_law_any_set" 52,fx "_law_any_item" 53,fx "_law_any_pattern" 54,fx "_law_any_end" 55,fx "_law_any_cond" 56,fx "_law_any_swap" 57,fx "_law_any_deed" 58,fx "_law_any_line" 59,fx "_law_any_marks" 60,fx "_law_any_lines" 61,fx "_law_mixed" 62,fx "law" 63],
 cl:=[("Program", .cp 0),("Line", .fz 1 2),("Cond", .z0 2),("Always", .z0 3),("RowIs", .fz 4 1),("Last", .z0 5),("Like", .fz 6 1),("Soon", .fz 7 2),("FromTo", .fz 8 2),("Not", .fz 9 1),("End", .z0 10),("Deed", .z0 11),("Mark", .fz 12 1),("Drop", .z0 13),("Print", .z0 14),("Done", .z0 15),("Say", .fz 16 1),("Swap", .fz 17 3),("Join", .fz 18 1),("Pile", .fz 19 2),("Bring", .fz 20 1),("Go", .fz 21 1),("Add", .fz 22 2),("Tell", .z0 23),("Scan", .nw 24 79)],
 ms:=[("refuse", [(24,80)]),("passes", [(24,81)]),("must_pass", [(24,82)]),("while_made_of", [(24,83)]),("between", [(24,84)])],
 bl:=["isinstance", "len", "all", "any", "str", "int", "list", "range", "enumerate", "tuple", "bool", "set", "abs"],bx:=["_law_box_here"],yg:=["_law_program"] }
noncomputable def Ft:List Fe:=[
 ⟨none, "made_of", "made_of", top 35,["text", "signs"],["text", "signs"],[],true⟩,
 ⟨none, "beginning_of", "beginning_of", top 36,["text", "signs", "many"],["text", "signs"],[],true⟩,
 ⟨none, "may_stand_plain", "may_stand_plain", top 44,["sign"],["sign"],[],true⟩,
 ⟨none, "pattern", "pattern", top 45,["text", "front", "body", "back", "items"],["text"],[],true⟩,
 ⟨none, "items_of", "items_of", top 46,["body", "items", "place", "behind", "many"],["body"],["items"],true⟩,
 ⟨none, "place_behind_core", "place_behind_core", top 47,["body", "place", "bracket"],["body", "place"],[],true⟩,
 ⟨none, "many_at", "many_at", top 48,["body", "place"],["body", "place"],[],true⟩,
 ⟨none, "item_of", "item_of", top 49,["core", "many"],["core", "many"],[],true⟩,
 ⟨none, "set_item", "set_item", top 50,["inside", "many", "others", "signs"],["inside", "many"],[],true⟩,
 ⟨none, "is_written_plain", "is_written_plain", top 51,["signs", "others"],["signs", "others"],[],true⟩,
 ⟨none, "written", "written", top 52,["one", "parts", "signs", "others", "many"],["one"],["parts"],true⟩,
 ⟨none, "written_core", "written_core", top 53,["signs", "others"],["signs", "others"],[],true⟩,
 ⟨none, "may_be_empty", "may_be_empty", top 54,["one"],["one"],[],true⟩,
 ⟨none, "least_length", "least_length", top 55,["one"],["one"],[],true⟩,
 ⟨none, "may_be_left_out", "may_be_left_out", top 56,["item"],["item"],[],true⟩,
 ⟨none, "line_of", "line_of", top 67,["row", "number", "scan", "line"],["row", "number"],[],true⟩,
 ⟨none, "line_next", "line_next", top 68,["scan", "cond"],["scan"],[],false⟩,
 ⟨none, "cond_next", "cond_next", top 69,["scan"],["scan"],[],false⟩,
 ⟨none, "plain_cond_next", "plain_cond_next", top 70,["scan", "many", "first"],["scan"],[],false⟩,
 ⟨none, "row_or_pattern_next", "row_or_pattern_next", top 71,["scan"],["scan"],[],false⟩,
 ⟨none, "deed_next", "deed_next", top 72,["scan"],["scan"],[],false⟩,
 ⟨none, "swap_next", "swap_next", top 73,["scan", "every", "one"],["scan", "every"],[],false⟩,
 ⟨none, "pile_next", "pile_next", top 74,["scan", "shelf"],["scan"],[],false⟩,
 ⟨none, "add_next", "add_next", top 75,["scan", "first"],["scan"],[],false⟩,
 ⟨none, "number_next", "number_next", top 76,["scan", "least", "most", "figures", "number"],["scan", "least", "most"],[],false⟩,
 ⟨none, "name_next", "name_next", top 77,["scan", "name"],["scan"],[],false⟩,
 ⟨none, "words_next", "words_next", top 78,["scan", "words"],["scan"],[],false⟩,
 ⟨none, "pattern_next", "pattern_next", top 79,["scan", "text"],["scan"],[],false⟩,
 ⟨none, "may_stand", "may_stand", top 80,["cond", "deed"],["cond", "deed"],[],true⟩,
 ⟨none, "may_swap", "may_swap", top 81,["deed"],["deed"],[],true⟩,
 ⟨none, "cut", "cut", top 83,["text", "rows"],["text"],[],true⟩,
 ⟨none, "read", "read", top 86,["text", "lines", "marks"],["text"],[],true⟩,
 ⟨none, "lines_of", "lines_of", top 87,["rows", "lines", "number", "row"],["rows"],["lines"],true⟩,
 ⟨none, "marks_of", "marks_of", top 88,["lines", "marks", "number", "line"],["lines"],["marks"],true⟩,
 ⟨none, "refuse_go_without_mark", "refuse_go_without_mark", top 89,["lines", "marks", "number", "line"],["lines", "marks"],[],true⟩,
 ⟨none, "shown", "shown", top 91,["program"],["program"],[],true⟩,
 ⟨none, "line_text", "line_text", top 92,["line"],["line"],[],true⟩,
 ⟨none, "cond_text", "cond_text", top 93,["cond"],["cond"],[],true⟩,
 ⟨none, "deed_text", "deed_text", top 94,["deed"],["deed"],[],true⟩,
 ⟨none, "pattern_text", "pattern_text", top 95,["one"],["one"],[],true⟩,
 ⟨none, "quoted", "quoted", top 96,["words"],["words"],[],true⟩,
 ⟨none, "_law_whole", "_law_whole", top 98,["_law_got"],["_law_got"],[],true⟩,
 ⟨none, "_law_same", "_law_same", top 99,["_law_got", "_law_due", "_law_item"],["_law_got", "_law_due"],[],true⟩,
 ⟨none, "_law_is_cond", "_law_is_cond", top 100,["_law_got", "_law_due"],["_law_got", "_law_due"],[],true⟩,
 ⟨none, "_law_is_numbered", "_law_is_numbered", top 101,["_law_got", "_law_due"],["_law_got", "_law_due"],[],true⟩,
 ⟨none, "_law_is_deed", "_law_is_deed", top 102,["_law_got", "_law_due"],["_law_got", "_law_due"],[],true⟩,
 ⟨none, "_law_right", "_law_right", top 103,["_law_program", "_law_due", "_law_k", "_law_line"],["_law_program", "_law_due"],[],true⟩,
 ⟨none, "_law_box", "_law_box", top 104,["_law_cell", "_law_number"],["_law_cell"],["return"],false⟩,
 ⟨none, "_law_take", "_law_take", top 105,["_law_box_here", "_law_many", "_law_digit"],["_law_box_here", "_law_many"],[],false⟩,
 ⟨none, "_law_any_signs", "_law_any_signs", top 106,["_law_box_here", "_law_some", "_law_size"],["_law_box_here", "_law_some", "_law_size"],[],false⟩,
 ⟨none, "_law_any_name", "_law_any_name", top 107,["_law_box_here"],["_law_box_here"],[],false⟩,
 ⟨none, "_law_any_words", "_law_any_words", top 108,["_law_box_here", "_law_most", "_law_some"],["_law_box_here", "_law_most"],[],false⟩,
 ⟨none, "_law_any_set", "_law_any_set", top 109,["_law_box_here", "_law_size", "_law_some", "_law_signs", "_law_k", "_law_left"],["_law_box_here", "_law_size"],[],false⟩,
 ⟨none, "_law_any_item", "_law_any_item", top 110,["_law_box_here", "_law_number", "_law_many", "_law_behind", "_law_way", "_law_some", "_law_sign", "_law_signs"],["_law_box_here"],[],false⟩,
 ⟨none, "_law_any_pattern", "_law_any_pattern", top 111,["_law_box_here", "_law_least", "_law_front", "_law_shut", "_law_amid", "_law_made", "_law_text"],["_law_box_here", "_law_least"],[],false⟩,
 ⟨none, "_law_any_end", "_law_any_end", top 112,["_law_box_here", "_law_one", "_law_number"],["_law_box_here"],[],false⟩,
 ⟨none, "_law_any_cond", "_law_any_cond", top 113,["_law_box_here", "_law_way", "_law_negated", "_law_head", "_law_cond", "_law_number", "_law_one", "_law_first", "_law_second"],["_law_box_here"],[],false⟩,
 ⟨none, "_law_any_swap", "_law_any_swap", top 114,["_law_box_here", "_law_every", "_law_one", "_law_most", "_law_word", "_law_words"],["_law_box_here", "_law_every"],[],false⟩,
 ⟨none, "_law_any_deed", "_law_any_deed", top 115,["_law_box_here", "_law_names", "_law_way", "_law_name", "_law_words", "_law_number", "_law_numbers"],["_law_box_here", "_law_names"],[],false⟩,
 ⟨none, "_law_any_line", "_law_any_line", top 116,["_law_cell", "_law_names", "_law_box_here", "_law_way", "_law_words", "_law_name", "_law_head", "_law_cond", "_law_text", "_law_deed"],["_law_cell", "_law_names"],[],true⟩,
 ⟨none, "_law_any_marks", "_law_any_marks", top 117,["_law_cells", "_law_names", "_law_cell", "_law_box_here"],["_law_cells"],["_law_names"],true⟩,
 ⟨none, "_law_any_lines", "_law_any_lines", top 118,["_law_cells", "_law_names", "_law_made", "_law_marked", "_law_cell", "_law_is_mark"],["_law_cells"],["_law_made", "_law_marked"],true⟩,
 ⟨none, "_law_mixed", "_law_mixed", top 119,["_law_cells", "_law_made", "_law_k", "_law_cell", "_law_number"],["_law_cells"],["_law_made"],true⟩,
 ⟨none, "law", "law", top 120,["_law_script", "_law_cells", "_law_due", "_law_text", "_law_handed", "_law_program", "_law_got", "_law_again"],["_law_script"],[],true⟩,
 ⟨some "Program", "__init__", "Program.__init__", inClass (top 7) 0,["self", "lines"],["self", "lines"],[],false⟩,
 ⟨some "Line", "__init__", "Line.__init__", inClass (top 8) 0,["self", "cond", "deed"],["self", "cond", "deed"],[],false⟩,
 ⟨some "RowIs", "__init__", "RowIs.__init__", inClass (top 11) 0,["self", "number"],["self", "number"],[],false⟩,
 ⟨some "Like", "__init__", "Like.__init__", inClass (top 13) 0,["self", "pattern"],["self", "pattern"],[],false⟩,
 ⟨some "Soon", "__init__", "Soon.__init__", inClass (top 14) 0,["self", "many", "pattern"],["self", "many", "pattern"],[],false⟩,
 ⟨some "FromTo", "__init__", "FromTo.__init__", inClass (top 15) 0,["self", "first", "second"],["self", "first", "second"],[],false⟩,
 ⟨some "Not", "__init__", "Not.__init__", inClass (top 16) 0,["self", "inner"],["self", "inner"],[],false⟩,
 ⟨some "Mark", "__init__", "Mark.__init__", inClass (top 19) 0,["self", "name"],["self", "name"],[],false⟩,
 ⟨some "Say", "__init__", "Say.__init__", inClass (top 23) 0,["self", "words"],["self", "words"],[],false⟩,
 ⟨some "Swap", "__init__", "Swap.__init__", inClass (top 24) 0,["self", "pattern", "words", "every"],["self", "pattern", "words", "every"],[],false⟩,
 ⟨some "Join", "__init__", "Join.__init__", inClass (top 25) 0,["self", "most"],["self", "most"],[],false⟩,
 ⟨some "Pile", "__init__", "Pile.__init__", inClass (top 26) 0,["self", "shelf", "most"],["self", "shelf", "most"],[],false⟩,
 ⟨some "Bring", "__init__", "Bring.__init__", inClass (top 27) 0,["self", "shelf"],["self", "shelf"],[],false⟩,
 ⟨some "Go", "__init__", "Go.__init__", inClass (top 28) 0,["self", "name"],["self", "name"],[],false⟩,
 ⟨some "Add", "__init__", "Add.__init__", inClass (top 29) 0,["self", "first", "second"],["self", "first", "second"],[],false⟩,
 ⟨some "Scan", "__init__", "Scan.__init__", inClass (top 66) 0,["self", "row", "number"],["self", "row", "number"],[],false⟩,
 ⟨some "Scan", "refuse", "Scan.refuse", inClass (top 66) 1,["self"],["self"],[],false⟩,
 ⟨some "Scan", "passes", "Scan.passes", inClass (top 66) 2,["self", "words"],["self", "words"],[],false⟩,
 ⟨some "Scan", "must_pass", "Scan.must_pass", inClass (top 66) 3,["self", "words"],["self", "words"],[],false⟩,
 ⟨some "Scan", "while_made_of", "Scan.while_made_of", inClass (top 66) 4,["self", "signs", "taken"],["self", "signs"],[],false⟩,
 ⟨some "Scan", "between", "Scan.between", inClass (top 66) 5,["self", "sign", "place", "inside"],["self", "sign"],[],false⟩]
noncomputable def It:Ku:=[("Program", 64),("Line", 65),("RowIs", 66),("Like", 67),("Soon", 68),("FromTo", 69),("Not", 70),("Mark", 71),("Say", 72),("Swap", 73),("Join", 74),("Pile", 75),("Bring", 76),("Go", 77),("Add", 78),("Scan", 79)]
noncomputable abbrev cN:=iG M Ft
def t0 (aj:Nat->Fn):Fn:=aY (aR 2 2 (ak (aK JN (k1 (bP (bj (gZ (vF 0)) 2 [1] (setG 1) dg (a_ (aJ .In) (vF 1) (vF 2))))))))
theorem w0:cN (n+1) 0=t0 (cN n):=rfl
def t1 (aj:Nat->Fn):Fn:=aY (aR 2 3 (ah (aA 2 (cI 0))
 (ah (pD many (dw (aZ (a_ (aJ .Lt) (vF 2) (aK ba (k1 (vF 0))))) (aZ (a_ (aJ .In) (oI (vF 0) (vF 2)) (vF 1))))
  (Dw xJ 2 (cI 1)))
 (ak (mU (vF 0) rJ (kJ (vF 2)))))))
theorem w1:cN (n+1) 1=t1 (cN n):=rfl
def t2 (aj:Nat->Fn):Fn:=aY (aR 1 1 (ak (dI (a_ (aJ .In) (vF 0) (cS E4)) (a_ (aJ .NotIn) (vF 0) (cS [94,36,46,91,93,42,43,63,47])))))
theorem w2:cN (n+1) 2=t2 (cN n):=rfl
def t3 (aj:Nat->Fn):Fn:=aY (aR 1 5 (ah (aQ (bz (tB (bG (ua "str") (vF 0))))
  bM
  ao)
 (ah (aQ (bz (tB (ai (aj 0) [] (k2 (vF 0) (cS E4)))))
  bM
  ao)
 (ah (aA 1 (jB qv (vF 0) (k1 (cS [94]))))
 (ah (aA 2 (qu (tB (vF 1)) (mU (vF 0) (kJ (cI 1)) rJ) (vF 0)))
 (ah (aA 3 (jB ewM (vF 2) (k1 (cS [36]))))
 (ah (aA 4 (ai (aj 4) [] (k1 (qu (tB (vF 3)) (mU (vF 2) rJ (kJ (bG kI (cI 1)))) (vF 2)))))
 (ah (aQ (aZ (a_ (aJ .Gt) (aK ba (k1 (vF 4))) (cI 8)))
  bM
  ao)
 (ak (aK aL (k3 (vF 1) (vF 4) (vF 3))))))))))))
theorem w3:cN (n+1) 3=t3 (cN n):=rfl
def t4 (aj:Nat->Fn):Fn:=aY (aR 1 5 (ah (kK 1 (jT b_))
 (ah (aA 2 (cI 0))
 (ah (pD many (aZ (a_ (aJ .Lt) (vF 2) (aK ba (k1 (vF 0)))))
  (ah (aA 3 (ai (aj 5) [] (k2 (vF 0) (vF 2))))
 (ah (aA 4 (ai (aj 6) [] (k2 (vF 0) (vF 3))))
 (ah (dZ 1 (ai (aj 7) [] (k2 (mU (vF 0) (kJ (vF 2)) (kJ (vF 3))) (vF 4))))
 (aA 2 (qu (aZ (oE (vF 4) (cS [49]))) (vF 3) (oA (vF 3) (cI 1))))))))
 (ak (vF 1))))))
theorem w4:cN (n+1) 4=t4 (cN n):=rfl
def t5 (aj:Nat->Fn):Fn:=aY (aR 2 3 (ah (aQ (aZ (a_ (aJ .NotEq) (oI (vF 0) (vF 1)) (cS [91])))
  (ak (oA (vF 1) (cI 1)))
  ao)
 (ah (aA 2 (jB lK (vF 0) (k2 (cS [93]) (vF 1))))
 (ah (aQ (aZ (oE (vF 2) (bG kI (cI 1))))
  bM
  ao)
 (ak (oA (vF 2) (cI 1)))))))
theorem w5:cN (n+1) 5=t5 (cN n):=rfl
def t6 (aj:Nat->Fn):Fn:=aY (aR 2 2 (ah (aQ (dw (aZ (a_ (aJ .Lt) (vF 1) (aK ba (k1 (vF 0))))) (aZ (a_ (aJ .In) (oI (vF 0) (vF 1)) (cS [42,43,63]))))
  (ak (oI (vF 0) (vF 1)))
  ao)
 (ak (cS [49]))))
theorem w6:cN (n+1) 6=t6 (cN n):=rfl
def t7 (aj:Nat->Fn):Fn:=aY (aR 2 2 (ah (aQ (aZ (oE (vF 0) (cS [46])))
  (ak (aK aL (k3 (cS []) (cF (.bl true)) (vF 1))))
  ao)
 (ah (aQ (tB (jB qv (vF 0) (k1 (cS [91]))))
  (ak (ai (aj 8) [] (k2 (mU (vF 0) (kJ (cI 1)) (kJ (bG kI (cI 1)))) (vF 1))))
  ao)
 (ah (aQ (bz (tB (ai (aj 2) [] (k1 (vF 0)))))
  bM
  ao)
 (ak (aK aL (k3 (vF 0) (cF (.bl false)) (vF 1))))))))
theorem w7:cN (n+1) 7=t7 (cN n):=rfl
def t8 (aj:Nat->Fn):Fn:=aY (aR 2 4 (ah (aA 2 (jB qv (vF 0) (k1 (cS [94]))))
 (ah (aA 3 (qu (tB (vF 2)) (mU (vF 0) (kJ (cI 1)) rJ) (vF 0)))
 (ah (aQ (gz (aZ (oE (vF 3) (cS []))) (aZ (a_ (aJ .Gt) (aK ba (k1 (vF 3))) (cI 12))))
  bM
  ao)
 (ah (aQ (tB (aK pI (k1 (bP (bj (gZ (vF 3)) 2 [] (setG 1) dg (a_ (aJ .In) (vF 1) (cS [93,94,47])))))))
  bM
  ao)
 (ah (aQ (aZ (a_ (aJ .NotEq) (bG pS (vF 3)) (aK ba (k1 (vF 3)))))
  bM
  ao)
 (ah (aQ (tB (ai (aj 9) [] (k2 (vF 3) (vF 2))))
  bM
  ao)
 (ak (aK aL (k3 (vF 3) (vF 2) (vF 1)))))))))))
theorem w8:cN (n+1) 8=t8 (cN n):=rfl
def t9 (aj:Nat->Fn):Fn:=aY (aR 2 2 (ak (dI (rH (vF 1)) (dI (oE (aK ba (k1 (vF 0))) (cI 1)) (ai (aj 2) [] (k1 (vF 0)))))))
theorem w9:cN (n+1) 9=t9 (cN n):=rfl
def t10 (aj:Nat->Fn):Fn:=aY (aR 1 5 (ah (kK 1 (jT (k1 (qu (tB (oI (vF 0) (cI 0))) (cS [94]) (cS [])))))
 (ah (jr (JR (oI (vF 0) (cI 1))) (eG [2,3,4])
  (ah (dZ 1 (ai (aj 11) [] (k2 (vF 2) (vF 3))))
 (dZ 1 (qu (aZ (oE (vF 4) (cS [49]))) (cS []) (vF 4)))))
 (ah (dZ 1 (qu (tB (oI (vF 0) (cI 2))) (cS [36]) (cS [])))
 (ak (jB joinM (cS []) (k1 (vF 1))))))))
theorem w10:cN (n+1) 10=t10 (cN n):=rfl
def t11 (aj:Nat->Fn):Fn:=aY (aR 2 2 (ah (aQ (aZ (oE (vF 0) (cS [])))
  (ak (cS [46]))
  ao)
 (ah (aQ (tB (vF 1))
  (ak (bG (nR [91,94] [93]) (vF 0)))
  ao)
 (ah (aQ (tB (ai (aj 9) [] (k2 (vF 0) (vF 1))))
  (ak (vF 0))
  ao)
 (ak (bG (nR [91] [93]) (vF 0)))))))
theorem w11:cN (n+1) 11=t11 (cN n):=rfl
def t12 (aj:Nat->Fn):Fn:=aY (aR 1 1 (ak (oE (ai (aj 13) [] (k1 (vF 0))) (cI 0))))
theorem w12:cN (n+1) 12=t12 (cN n):=rfl
def t13 (aj:Nat->Fn):Fn:=aY (aR 1 1 (ak (aK ba (k1 (bP (bj (gZ (oI (vF 0) (cI 1))) 2 [] (setG 1) (bz (tB (ai (aj 14) [] (k1 (vF 1))))) (vF 1)))))))
theorem w13:cN (n+1) 13=t13 (cN n):=rfl
def t14 (aj:Nat->Fn):Fn:=aY (aR 1 1 (ak (a_ (aJ .In) (oI (vF 0) (cI 2)) (aK aL (k2 (cS [42]) (cS [63]))))))
theorem w14:cN (n+1) 14=t14 (cN n):=rfl
def t15 (aj:Nat->Fn):Fn:=aY (aR 2 4 (ah (aA 2 (Ai 24 (aj 79) (k2 (vF 0) (vF 1))))
 (ah (aA 3 (ai (aj 16) [] (k1 (vF 2))))
 (ah (aQ (gz (aZ (a_ (aJ .NotEq) (aG M.P.tab 14 (vF 2)) (cS []))) (bz (tB (ai (aj 28) [] (k2 (aG M.P.tab 1 (vF 3)) (aG M.P.tab 2 (vF 3)))))))
  (cX (aM (aE [(24,80)] aj) (vF 2) b_))
  ao)
 (ak (vF 3))))))
theorem w15:cN (n+1) 15=t15 (cN n):=rfl
def t16 (aj:Nat->Fn):Fn:=aR 1 2 (ah (aQ (tB (aM (aE [(24,81)] aj) (vF 0) (k1 (cS [109,97,114,107,32]))))
  (ak (c8 1 2 (k2 (c8 3 0 b_) (c8 12 1 (k1 (ai (aj 25) [] (k1 (vF 0))))))))
  ao)
 (ah (aQ (bz (tB (aK pI (k1 (bP (bj (gZ (cF (.tup [(.str [114,111,119,32]),(.str [108,97,115,116]),(.str [47]),(.str [115,111,111,110,32]),(.str [102,114,111,109,32]),(.str [110,111,116,32]),(.str [101,110,100])]))) 2 [0] (setG 1) dg (jB qv (aG M.P.tab 14 (vF 2)) (k1 (vF 1)))))))))
  (ak (c8 1 2 (k2 (c8 3 0 b_) (ai (aj 20) [] (k1 (vF 0))))))
  ao)
 (ah (aA 1 (ai (aj 17) [] (k1 (vF 0))))
 (ah (cX (aM (aE [(24,82)] aj) (vF 0) (k1 (cS [58,32]))))
 (ak (c8 1 2 (k2 (vF 1) (ai (aj 20) [] (k1 (vF 0))))))))))
theorem w16:cN (n+1) 16=t16 (cN n):=rfl
def t17 (aj:Nat->Fn):Fn:=aR 1 1 (ah (aQ (tB (aM (aE [(24,81)] aj) (vF 0) (k1 (cS [101,110,100]))))
  (ak (c8 10 0 b_))
  ao)
 (ah (aQ (tB (aM (aE [(24,81)] aj) (vF 0) (k1 (cS [110,111,116,32]))))
  (ak (c8 9 1 (k1 (ai (aj 18) [] (k1 (vF 0))))))
  ao)
 (ak (ai (aj 18) [] (k1 (vF 0))))))
theorem w17:cN (n+1) 17=t17 (cN n):=rfl
def t18 (aj:Nat->Fn):Fn:=aR 1 3 (ah (aQ (tB (aM (aE [(24,81)] aj) (vF 0) (k1 (cS [108,97,115,116]))))
  (ak (c8 5 0 b_))
  ao)
 (ah (aQ (tB (aM (aE [(24,81)] aj) (vF 0) (k1 (cS [115,111,111,110,32]))))
  (ah (aA 1 (ai (aj 24) [] (k3 (vF 0) (cI 1) (cI 3))))
 (ah (cX (aM (aE [(24,82)] aj) (vF 0) (k1 (cS [32]))))
 (ak (c8 7 2 (k2 (vF 1) (ai (aj 27) [] (k1 (vF 0))))))))
  ao)
 (ah (aQ (tB (aM (aE [(24,81)] aj) (vF 0) (k1 (cS [102,114,111,109,32]))))
  (ah (aA 2 (ai (aj 19) [] (k1 (vF 0))))
 (ah (cX (aM (aE [(24,82)] aj) (vF 0) (k1 (cS [32,116,111,32]))))
 (ak (c8 8 2 (k2 (vF 2) (ai (aj 19) [] (k1 (vF 0))))))))
  ao)
 (ak (ai (aj 19) [] (k1 (vF 0)))))))
theorem w18:cN (n+1) 18=t18 (cN n):=rfl
def t19 (aj:Nat->Fn):Fn:=aR 1 1 (ah (aQ (tB (aM (aE [(24,81)] aj) (vF 0) (k1 (cS [114,111,119,32]))))
  (ak (c8 4 1 (k1 (ai (aj 24) [] (k3 (vF 0) (cI 1) (cI 999))))))
  ao)
 (ak (c8 6 1 (k1 (ai (aj 27) [] (k1 (vF 0)))))))
theorem w19:cN (n+1) 19=t19 (cN n):=rfl
def t20 (aj:Nat->Fn):Fn:=aR 1 1 (ah (aQ (tB (aM (aE [(24,81)] aj) (vF 0) (k1 (cS [100,114,111,112]))))
  (ak (c8 13 0 b_))
  ao)
 (ah (aQ (tB (aM (aE [(24,81)] aj) (vF 0) (k1 (cS [112,114,105,110,116]))))
  (ak (c8 14 0 b_))
  ao)
 (ah (aQ (tB (aM (aE [(24,81)] aj) (vF 0) (k1 (cS [100,111,110,101]))))
  (ak (c8 15 0 b_))
  ao)
 (ah (aQ (tB (aM (aE [(24,81)] aj) (vF 0) (k1 (cS [116,101,108,108]))))
  (ak (c8 23 0 b_))
  ao)
 (ah (aQ (tB (aM (aE [(24,81)] aj) (vF 0) (k1 (cS [115,97,121,32]))))
  (ak (c8 16 1 (k1 (ai (aj 26) [] (k1 (vF 0))))))
  ao)
 (ah (aQ (tB (aM (aE [(24,81)] aj) (vF 0) (k1 (cS [115,119,97,112,32,101,118,101,114,121,32]))))
  (ak (ai (aj 21) [] (k2 (vF 0) (cF (.bl true)))))
  ao)
 (ah (aQ (tB (aM (aE [(24,81)] aj) (vF 0) (k1 (cS [115,119,97,112,32]))))
  (ak (ai (aj 21) [] (k2 (vF 0) (cF (.bl false)))))
  ao)
 (ah (aQ (tB (aM (aE [(24,81)] aj) (vF 0) (k1 (cS [106,111,105,110,32]))))
  (ak (c8 18 1 (k1 (ai (aj 24) [] (k3 (vF 0) (cI 2) (cI 9))))))
  ao)
 (ah (aQ (tB (aM (aE [(24,81)] aj) (vF 0) (k1 (cS [112,105,108,101,32]))))
  (ak (ai (aj 22) [] (k1 (vF 0))))
  ao)
 (ah (aQ (tB (aM (aE [(24,81)] aj) (vF 0) (k1 (cS [98,114,105,110,103,32]))))
  (ak (c8 20 1 (k1 (ai (aj 25) [] (k1 (vF 0))))))
  ao)
 (ah (aQ (tB (aM (aE [(24,81)] aj) (vF 0) (k1 (cS [103,111,32]))))
  (ak (c8 21 1 (k1 (ai (aj 25) [] (k1 (vF 0))))))
  ao)
 (ah (cX (aM (aE [(24,82)] aj) (vF 0) (k1 (cS [97,100,100,32]))))
 (ak (ai (aj 23) [] (k1 (vF 0))))))))))))))))
theorem w20:cN (n+1) 20=t20 (cN n):=rfl
def t21 (aj:Nat->Fn):Fn:=aR 2 3 (ah (aA 2 (ai (aj 27) [] (k1 (vF 0))))
 (ah (cX (aM (aE [(24,82)] aj) (vF 0) (k1 (cS [32]))))
 (ak (c8 17 3 (k3 (vF 2) (ai (aj 26) [] (k1 (vF 0))) (vF 1))))))
theorem w21:cN (n+1) 21=t21 (cN n):=rfl
def t22 (aj:Nat->Fn):Fn:=aR 1 2 (ah (aA 1 (ai (aj 25) [] (k1 (vF 0))))
 (ah (aQ (bz (tB (aM (aE [(24,81)] aj) (vF 0) (k1 (cS [32])))))
  (ak (c8 19 2 (k2 (vF 1) (cF .non))))
  ao)
 (ak (c8 19 2 (k2 (vF 1) (ai (aj 24) [] (k3 (vF 0) (cI 1) (cI 9))))))))
theorem w22:cN (n+1) 22=t22 (cN n):=rfl
def t23 (aj:Nat->Fn):Fn:=aR 1 2 (ah (aA 1 (ai (aj 24) [] (k3 (vF 0) (cI 1) (cI 9))))
 (ah (cX (aM (aE [(24,82)] aj) (vF 0) (k1 (cS [32]))))
 (ak (c8 22 2 (k2 (vF 1) (ai (aj 24) [] (k3 (vF 0) (cI 1) (cI 9))))))))
theorem w23:cN (n+1) 23=t23 (cN n):=rfl
def t24 (aj:Nat->Fn):Fn:=aR 3 5 (ah (aA 3 (aM (aE [(24,83)] aj) (vF 0) (k1 (cS [48,49,50,51,52,53,54,55,56,57]))))
 (ah (aQ (gz (aZ (oE (vF 3) (cS []))) (gz (tB (jB qv (vF 3) (k1 (cS [48])))) (aZ (a_ (aJ .Gt) (aK ba (k1 (vF 3))) (cI 3)))))
  (cX (aM (aE [(24,80)] aj) (vF 0) b_))
  ao)
 (ah (aA 4 (aK pJ (k1 (vF 3))))
 (ah (aQ (gz (aZ (a_ (aJ .Lt) (vF 4) (vF 1))) (aZ (a_ (aJ .Gt) (vF 4) (vF 2))))
  (cX (aM (aE [(24,80)] aj) (vF 0) b_))
  ao)
 (ak (vF 4))))))
theorem w24:cN (n+1) 24=t24 (cN n):=rfl
def t25 (aj:Nat->Fn):Fn:=aR 1 2 (ah (aA 1 (aM (aE [(24,83)] aj) (vF 0) (k1 (cS KI))))
 (ah (aQ (gz (aZ (oE (vF 1) (cS []))) (aZ (a_ (aJ .Gt) (aK ba (k1 (vF 1))) (cI 8))))
  (cX (aM (aE [(24,80)] aj) (vF 0) b_))
  ao)
 (ak (vF 1))))
theorem w25:cN (n+1) 25=t25 (cN n):=rfl
def t26 (aj:Nat->Fn):Fn:=aR 1 2 (ah (aA 1 (aM (aE [(24,84)] aj) (vF 0) (k1 (cS [34]))))
 (ah (aQ (gz (aZ (a_ (aJ .Gt) (aK ba (k1 (vF 1))) (cI 40))) (bz (tB (ai (aj 0) [] (k2 (vF 1) (cS E4))))))
  (cX (aM (aE [(24,80)] aj) (vF 0) b_))
  ao)
 (ak (vF 1))))
theorem w26:cN (n+1) 26=t26 (cN n):=rfl
def t27 (aj:Nat->Fn):Fn:=aR 1 2 (ah (aA 1 (aM (aE [(24,84)] aj) (vF 0) (k1 (cS [47]))))
 (ak (ai (aj 3) [] (k1 (vF 1)))))
theorem w27:cN (n+1) 27=t27 (cN n):=rfl
def t28 (aj:Nat->Fn):Fn:=aY (aR 2 2 (ah (aQ (tB (bG (cz M.P.sub [10]) (vF 0)))
  (ak (bG (cz M.P.sub [16,20,23]) (vF 1)))
  ao)
 (ah (aQ (tB (bG (cz M.P.sub [17]) (vF 1)))
  (ak (ai (aj 29) [] (k1 (vF 1))))
  ao)
 (ak (rH (bG (cz M.P.sub [23]) (vF 1)))))))
theorem w28:cN (n+1) 28=t28 (cN n):=rfl
def t29 (aj:Nat->Fn):Fn:=aY (aR 1 1 (ah (aQ (tB (ai (aj 12) [] (k1 (aG M.P.tab 4 (vF 0)))))
  (ak (cF (.bl false)))
  ao)
 (ak (orV (rH (aG M.P.tab 11 (vF 0))) (a_ (aJ .LtE) (aK ba (k1 (aG M.P.tab 10 (vF 0)))) (ai (aj 13) [] (k1 (aG M.P.tab 4 (vF 0)))))))))
theorem w29:cN (n+1) 29=t29 (cN n):=rfl
def t30 (aj:Nat->Fn):Fn:=aY (aR 1 2 (ah (aA 1 (jB splitM (vF 0) (k1 (cS [10]))))
 (ah (aQ (aZ (oE (oI (vF 1) (bG kI (cI 1))) (cS [])))
  (ak (aK aL (k2 (mU (vF 1) rJ (kJ (bG kI (cI 1)))) (cF (.bl true)))))
  ao)
 (ak (aK aL (k2 (vF 1) (cF (.bl false))))))))
theorem w30:cN (n+1) 30=t30 (cN n):=rfl
def t31 (aj:Nat->Fn):Fn:=aY (aR 1 3 (ah (aA 1 (ai (aj 32) [] (k1 (oI (ai (aj 30) [] (k1 (vF 0))) (cI 0)))))
 (ah (aA 2 (ai (aj 33) [] (k1 (vF 1))))
 (ah (cX (ai (aj 34) [] (k2 (vF 1) (vF 2))))
 (ak (bG (RN 0) (vF 1)))))))
theorem w31:cN (n+1) 31=t31 (cN n):=rfl
def t32 (aj:Nat->Fn):Fn:=aY (aR 1 4 (ah (kK 1 (jT b_))
 (ah (jr (ki 1 (vF 0)) (eG [2,3])
  (ah (aQ (aZ (a_ (aJ .Gt) (vF 2) (cI 24)))
  bM
  ao)
 (dZ 1 (ai (aj 15) [] (k2 (vF 3) (vF 2))))))
 (ak (vF 1)))))
theorem w32:cN (n+1) 32=t32 (cN n):=rfl
def t33 (aj:Nat->Fn):Fn:=aY (aR 1 4 (ah (Eh 1)
 (ah (jr (ki 1 (vF 0)) (eG [2,3])
  (aQ (tB (bG (cz M.P.sub [12]) (aG M.P.tab 2 (vF 3))))
  (ah (aQ (aZ (Gh .In false 1 (aG M.P.tab 9 (aG M.P.tab 2 (vF 3)))))
  bM
  ao)
 (xO 1 (aG M.P.tab 9 (aG M.P.tab 2 (vF 3))) (cF (.bl true))))
  ao))
 (ak (vF 1)))))
theorem w33:cN (n+1) 33=t33 (cN n):=rfl
def t34 (aj:Nat->Fn):Fn:=aY (aR 2 4 (jr (ki 1 (vF 0)) (eG [2,3])
  (aQ (dw (tB (bG (cz M.P.sub [21]) (aG M.P.tab 2 (vF 3)))) (aZ (a_ (aJ .NotIn) (aG M.P.tab 9 (aG M.P.tab 2 (vF 3))) (vF 1))))
  bM
  ao)))
theorem w34:cN (n+1) 34=t34 (cN n):=rfl
def t35 (aj:Nat->Fn):Fn:=aY (aR 1 1 (ak (jB joinM (cS []) (k1 (bP (bj (gZ (aG M.P.tab 0 (vF 0))) 2 [] (setG 1) dg (oA (ai (aj 36) [] (k1 (vF 1))) (cS [10]))))))))
theorem w35:cN (n+1) 35=t35 (cN n):=rfl
def t36 (aj:Nat->Fn):Fn:=aY (aR 1 1 (ah (aQ (tB (bG (cz M.P.sub [3]) (aG M.P.tab 1 (vF 0))))
  (ak (ai (aj 38) [] (k1 (aG M.P.tab 2 (vF 0)))))
  ao)
 (ak (oA (oA (ai (aj 37) [] (k1 (aG M.P.tab 1 (vF 0)))) (cS [58,32])) (ai (aj 38) [] (k1 (aG M.P.tab 2 (vF 0))))))))
theorem w36:cN (n+1) 36=t36 (cN n):=rfl
def t37 (aj:Nat->Fn):Fn:=aY (aR 1 1 (ah (aQ (tB (bG (cz M.P.sub [4]) (vF 0)))
  (ak (oA (cS [114,111,119,32]) (aK strN (k1 (aG M.P.tab 3 (vF 0))))))
  ao)
 (ah (aQ (tB (bG (cz M.P.sub [5]) (vF 0)))
  (ak (cS [108,97,115,116]))
  ao)
 (ah (aQ (tB (bG (cz M.P.sub [6]) (vF 0)))
  (ak (ai (aj 39) [] (k1 (aG M.P.tab 4 (vF 0)))))
  ao)
 (ah (aQ (tB (bG (cz M.P.sub [7]) (vF 0)))
  (ak (oA (oA (oA (cS [115,111,111,110,32]) (aK strN (k1 (aG M.P.tab 5 (vF 0))))) (cS [32])) (ai (aj 39) [] (k1 (aG M.P.tab 4 (vF 0))))))
  ao)
 (ah (aQ (tB (bG (cz M.P.sub [8]) (vF 0)))
  (ak (oA (oA (oA (cS [102,114,111,109,32]) (ai (aj 37) [] (k1 (aG M.P.tab 6 (vF 0))))) (cS [32,116,111,32])) (ai (aj 37) [] (k1 (aG M.P.tab 7 (vF 0))))))
  ao)
 (ah (aQ (tB (bG (cz M.P.sub [9]) (vF 0)))
  (ak (oA (cS [110,111,116,32]) (ai (aj 37) [] (k1 (aG M.P.tab 8 (vF 0))))))
  ao)
 (ak (cS [101,110,100])))))))))
theorem Uw:cN (n+1) 37=t37 (cN n):=rfl
def t38 (aj:Nat->Fn):Fn:=aY (aR 1 1 (ah (aQ (tB (bG (cz M.P.sub [12]) (vF 0)))
  (ak (oA (cS [109,97,114,107,32]) (aG M.P.tab 9 (vF 0))))
  ao)
 (ah (aQ (tB (bG (cz M.P.sub [13]) (vF 0)))
  (ak (cS [100,114,111,112]))
  ao)
 (ah (aQ (tB (bG (cz M.P.sub [14]) (vF 0)))
  (ak (cS [112,114,105,110,116]))
  ao)
 (ah (aQ (tB (bG (cz M.P.sub [15]) (vF 0)))
  (ak (cS [100,111,110,101]))
  ao)
 (ah (aQ (tB (bG (cz M.P.sub [16]) (vF 0)))
  (ak (oA (cS [115,97,121,32]) (ai (aj 40) [] (k1 (aG M.P.tab 10 (vF 0))))))
  ao)
 (ah (aQ (tB (bG (cz M.P.sub [17]) (vF 0)))
  (ak (oA (oA (oA (qu (tB (aG M.P.tab 11 (vF 0))) (cS [115,119,97,112,32,101,118,101,114,121,32]) (cS [115,119,97,112,32])) (ai (aj 39) [] (k1 (aG M.P.tab 4 (vF 0))))) (cS [32])) (ai (aj 40) [] (k1 (aG M.P.tab 10 (vF 0))))))
  ao)
 (ah (aQ (tB (bG (cz M.P.sub [18]) (vF 0)))
  (ak (oA (cS [106,111,105,110,32]) (aK strN (k1 (aG M.P.tab 12 (vF 0))))))
  ao)
 (ah (aQ (tB (bG (cz M.P.sub [19]) (vF 0)))
  (ak (oA (oA (cS [112,105,108,101,32]) (aG M.P.tab 13 (vF 0))) (qu (aZ (a_ (aJ .Is) (aG M.P.tab 12 (vF 0)) (cF .non))) (cS []) (oA (cS [32]) (aK strN (k1 (aG M.P.tab 12 (vF 0))))))))
  ao)
 (ah (aQ (tB (bG (cz M.P.sub [20]) (vF 0)))
  (ak (oA (cS [98,114,105,110,103,32]) (aG M.P.tab 13 (vF 0))))
  ao)
 (ah (aQ (tB (bG (cz M.P.sub [21]) (vF 0)))
  (ak (oA (cS [103,111,32]) (aG M.P.tab 9 (vF 0))))
  ao)
 (ah (aQ (tB (bG (cz M.P.sub [22]) (vF 0)))
  (ak (oA (oA (oA (cS [97,100,100,32]) (aK strN (k1 (aG M.P.tab 6 (vF 0))))) (cS [32])) (aK strN (k1 (aG M.P.tab 7 (vF 0))))))
  ao)
 (ak (cS [116,101,108,108]))))))))))))))
theorem w38:cN (n+1) 38=t38 (cN n):=rfl
def t39 (aj:Nat->Fn):Fn:=aY (aR 1 1 (ak (oA (oA (cS [47]) (ai (aj 10) [] (k1 (vF 0)))) (cS [47]))))
theorem w39:cN (n+1) 39=t39 (cN n):=rfl
def t40 (aj:Nat->Fn):Fn:=aY (aR 1 1 (ak (oA (oA (cS [34]) (vF 0)) (cS [34]))))
theorem w40:cN (n+1) 40=t40 (cN n):=rfl
def t41 (aj:Nat->Fn):Fn:=aY (aR 1 1 (ak (dI (bG (ua "int") (vF 0)) (rH (bG (ua "bool") (vF 0))))))
theorem w41:cN (n+1) 41=t41 (cN n):=rfl
def t42 (aj:Nat->Fn):Fn:=aY (aR 2 3 (ah (aQ (gz (bz (tB (bG (ua "tuple") (vF 0)))) (gz (aZ (a_ (aJ .NotEq) (aK ba (k1 (vF 0))) (cI 3))) (bz (tB (bG (ua "list") (oI (vF 0) (cI 1)))))))
  (ak (cF (.bl false)))
  ao)
 (ah (aQ (gz (bz (tB (bG (ua "bool") (oI (vF 0) (cI 0))))) (bz (tB (bG (ua "bool") (oI (vF 0) (cI 2))))))
  (ak (cF (.bl false)))
  ao)
 (ah (jr (gZ (oI (vF 0) (cI 1))) (setG 2)
  (aQ (gz (bz (tB (bG (ua "tuple") (vF 2)))) (gz (aZ (a_ (aJ .NotEq) (aK ba (k1 (vF 2))) (cI 3))) (bz (tB (bG (ua "bool") (oI (vF 2) (cI 1)))))))
  (ak (cF (.bl false)))
  ao))
 (ak (oE (vF 0) (vF 1)))))))
theorem w42:cN (n+1) 42=t42 (cN n):=rfl
def t43 (aj:Nat->Fn):Fn:=aY (aR 2 2 (ah (aQ (bz (tB (bG (cz M.P.sub [2]) (vF 0))))
  (ak (cF (.bl false)))
  ao)
 (ah (aQ (aZ (oE (oI (vF 1) (cI 0)) (cS [114,111,119])))
  (ak (dI (bG (cz M.P.sub [4]) (vF 0)) (dI (ai (aj 41) [] (k1 (aG M.P.tab 3 (vF 0)))) (oE (aG M.P.tab 3 (vF 0)) (oI (vF 1) (cI 1))))))
  ao)
 (ah (aQ (aZ (oE (oI (vF 1) (cI 0)) (cS [108,97,115,116])))
  (ak (bG (cz M.P.sub [5]) (vF 0)))
  ao)
 (ah (aQ (aZ (oE (oI (vF 1) (cI 0)) (cS [108,105,107,101])))
  (ak (dI (bG (cz M.P.sub [6]) (vF 0)) (ai (aj 42) [] (k2 (aG M.P.tab 4 (vF 0)) (oI (vF 1) (cI 1))))))
  ao)
 (ah (aQ (aZ (oE (oI (vF 1) (cI 0)) (cS [115,111,111,110])))
  (ah (aQ (gz (bz (tB (bG (cz M.P.sub [7]) (vF 0)))) (gz (bz (tB (ai (aj 41) [] (k1 (aG M.P.tab 5 (vF 0)))))) (aZ (a_ (aJ .NotEq) (aG M.P.tab 5 (vF 0)) (oI (vF 1) (cI 1))))))
  (ak (cF (.bl false)))
  ao)
 (ak (ai (aj 42) [] (k2 (aG M.P.tab 4 (vF 0)) (oI (vF 1) (cI 2))))))
  ao)
 (ah (aQ (aZ (oE (oI (vF 1) (cI 0)) (cS [102,114,111,109])))
  (ak (dI (bG (cz M.P.sub [8]) (vF 0)) (dI (ai (aj 43) [] (k2 (aG M.P.tab 6 (vF 0)) (oI (vF 1) (cI 1)))) (ai (aj 43) [] (k2 (aG M.P.tab 7 (vF 0)) (oI (vF 1) (cI 2)))))))
  ao)
 (ah (aQ (aZ (oE (oI (vF 1) (cI 0)) (cS [110,111,116])))
  (ak (dI (bG (cz M.P.sub [9]) (vF 0)) (ai (aj 43) [] (k2 (aG M.P.tab 8 (vF 0)) (oI (vF 1) (cI 1))))))
  ao)
 (ah (aQ (aZ (oE (oI (vF 1) (cI 0)) (cS [101,110,100])))
  (ak (bG (cz M.P.sub [10]) (vF 0)))
  ao)
 (ak (bG (cz M.P.sub [3]) (vF 0))))))))))))
theorem NC:cN (n+1) 43=t43 (cN n):=rfl
def t44 (aj:Nat->Fn):Fn:=aY (aR 2 2 (ah (aQ (aZ (oE (oI (vF 1) (cI 0)) (cS [106,111,105,110])))
  (ak (dI (bG (cz M.P.sub [18]) (vF 0)) (dI (ai (aj 41) [] (k1 (aG M.P.tab 12 (vF 0)))) (oE (aG M.P.tab 12 (vF 0)) (oI (vF 1) (cI 1))))))
  ao)
 (ah (aQ (aZ (oE (oI (vF 1) (cI 0)) (cS [97,100,100])))
  (ah (aQ (gz (bz (tB (bG (cz M.P.sub [22]) (vF 0)))) (gz (bz (tB (ai (aj 41) [] (k1 (aG M.P.tab 6 (vF 0)))))) (bz (tB (ai (aj 41) [] (k1 (aG M.P.tab 7 (vF 0))))))))
  (ak (cF (.bl false)))
  ao)
 (ak (dI (oE (aG M.P.tab 6 (vF 0)) (oI (vF 1) (cI 1))) (oE (aG M.P.tab 7 (vF 0)) (oI (vF 1) (cI 2))))))
  ao)
 (ah (aQ (gz (bz (tB (bG (cz M.P.sub [19]) (vF 0)))) (aZ (a_ (aJ .NotEq) (aG M.P.tab 13 (vF 0)) (oI (vF 1) (cI 1)))))
  (ak (cF (.bl false)))
  ao)
 (ah (aQ (aZ (a_ (aJ .Is) (oI (vF 1) (cI 2)) (cF .non)))
  (ak (a_ (aJ .Is) (aG M.P.tab 12 (vF 0)) (cF .non)))
  ao)
 (ak (dI (ai (aj 41) [] (k1 (aG M.P.tab 12 (vF 0)))) (oE (aG M.P.tab 12 (vF 0)) (oI (vF 1) (cI 2))))))))))
theorem w44:cN (n+1) 44=t44 (cN n):=rfl
def t45 (aj:Nat->Fn):Fn:=aY (aR 2 2 (ah (aQ (bz (tB (bG (cz M.P.sub [11]) (vF 0))))
  (ak (cF (.bl false)))
  ao)
 (ah (aQ (aZ (a_ (aJ .In) (oI (vF 1) (cI 0)) (aK eU (k3 (cS [106,111,105,110]) (cS [97,100,100]) (cS [112,105,108,101])))))
  (ak (ai (aj 44) [] (k2 (vF 0) (vF 1))))
  ao)
 (ah (aQ (aZ (oE (oI (vF 1) (cI 0)) (cS [100,114,111,112])))
  (ak (bG (cz M.P.sub [13]) (vF 0)))
  ao)
 (ah (aQ (aZ (oE (oI (vF 1) (cI 0)) (cS [112,114,105,110,116])))
  (ak (bG (cz M.P.sub [14]) (vF 0)))
  ao)
 (ah (aQ (aZ (oE (oI (vF 1) (cI 0)) (cS [100,111,110,101])))
  (ak (bG (cz M.P.sub [15]) (vF 0)))
  ao)
 (ah (aQ (aZ (oE (oI (vF 1) (cI 0)) (cS [98,114,105,110,103])))
  (ak (dI (bG (cz M.P.sub [20]) (vF 0)) (oE (aG M.P.tab 13 (vF 0)) (oI (vF 1) (cI 1)))))
  ao)
 (ah (aQ (aZ (oE (oI (vF 1) (cI 0)) (cS [109,97,114,107])))
  (ak (dI (bG (cz M.P.sub [12]) (vF 0)) (oE (aG M.P.tab 9 (vF 0)) (oI (vF 1) (cI 1)))))
  ao)
 (ah (aQ (aZ (oE (oI (vF 1) (cI 0)) (cS [103,111])))
  (ak (dI (bG (cz M.P.sub [21]) (vF 0)) (oE (aG M.P.tab 9 (vF 0)) (oI (vF 1) (cI 1)))))
  ao)
 (ah (aQ (aZ (oE (oI (vF 1) (cI 0)) (cS [115,97,121])))
  (ak (dI (bG (cz M.P.sub [16]) (vF 0)) (oE (aG M.P.tab 10 (vF 0)) (oI (vF 1) (cI 1)))))
  ao)
 (ah (aQ (aZ (oE (oI (vF 1) (cI 0)) (cS [116,101,108,108])))
  (ak (bG (cz M.P.sub [23]) (vF 0)))
  ao)
 (ah (aQ (gz (bz (tB (bG (cz M.P.sub [17]) (vF 0)))) (gz (bz (tB (ai (aj 42) [] (k2 (aG M.P.tab 4 (vF 0)) (oI (vF 1) (cI 1)))))) (aZ (a_ (aJ .NotEq) (aG M.P.tab 10 (vF 0)) (oI (vF 1) (cI 2))))))
  (ak (cF (.bl false)))
  ao)
 (ak (dI (bG (ua "bool") (aG M.P.tab 11 (vF 0))) (oE (aG M.P.tab 11 (vF 0)) (oI (vF 1) (cI 3)))))))))))))))))
theorem AB:cN (n+1) 45=t45 (cN n):=rfl
def t46 (aj:Nat->Fn):Fn:=aY (aR 2 4 (ah (aQ (gz (bz (tB (bG (cz M.P.sub [0]) (vF 0)))) (gz (bz (tB (bG (ua "list") (aG M.P.tab 0 (vF 0))))) (aZ (a_ (aJ .NotEq) (aK ba (k1 (aG M.P.tab 0 (vF 0)))) (aK ba (k1 (vF 1)))))))
  (ak (cF (.bl false)))
  ao)
 (ah (jr (wZ mV (k1 (aK ba (k1 (vF 1))))) (setG 2)
  (ah (aA 3 (oI (aG M.P.tab 0 (vF 0)) (vF 2)))
 (ah (aQ (gz (bz (tB (bG (cz M.P.sub [1]) (vF 3)))) (bz (tB (ai (aj 43) [] (k2 (aG M.P.tab 1 (vF 3)) (oI (oI (vF 1) (vF 2)) (cI 1)))))))
  (ak (cF (.bl false)))
  ao)
 (aQ (bz (tB (ai (aj 45) [] (k2 (aG M.P.tab 2 (vF 3)) (oI (oI (vF 1) (vF 2)) (cI 2))))))
  (ak (cF (.bl false)))
  ao))))
 (ak (cF (.bl true))))))
theorem w46:cN (n+1) 46=t46 (cN n):=rfl
def t47 (aj:Nat->Fn):Fn:=aR 1 2 (ah (aA 1 (oM (a_ (bw .Mult) (oA (aK Am (k1 (vF 0))) (cI 1)) (a_ (bw .Pow) (cI 48271) (cI 31))) (oA (a_ (bw .Mult) (a_ (bw .Pow) (cI 10) (cI 64)) (a_ (bw .Pow) (cI 10) (cI 64))) (cI 7))))
 (ak (rK 50 (jT (k2 (aK Am (k1 (vF 0))) (oA (oM (a_ (bw .Mult) (vF 1) (vF 1)) (oA (a_ (bw .Mult) (a_ (bw .Pow) (cI 10) (cI 64)) (a_ (bw .Pow) (cI 10) (cI 63))) (cI 9))) (cI 1)))))))
theorem w47:cN (n+1) 47=t47 (cN n):=rfl
def t48 (aj:Nat->Fn):Fn:=aR 2 3 (ah (aQ (aZ (oE (kL 50 (vF 0) (cI 0)) (cI 0)))
  (lC 50 (vF 0) (cI 0) (kL 50 (vF 0) (cI 1)))
  ao)
 (ah (aA 2 (oM (kL 50 (vF 0) (cI 0)) (vF 1)))
 (ah (lC 50 (vF 0) (cI 0) (oD (kL 50 (vF 0) (cI 0)) (vF 1)))
 (ak (vF 2)))))
theorem w48:cN (n+1) 48=t48 (cN n):=rfl
def t49 (aj:Nat->Fn):Fn:=aR 3 3 (ak (jB joinM (cS []) (k1 (bP (bj (wZ mV (k1 (vF 2))) 2 [0,1] (setG 1) dg (oI (vF 3) (ai (aj 48) [] (k2 (vF 2) (aK ba (k1 (vF 3)))))))))))
theorem w49:cN (n+1) 49=t49 (cN n):=rfl
def t50 (aj:Nat->Fn):Fn:=aR 1 1 (ak (ai (aj 49) [] (k3 (vF 0) (cS KI) (oA (cI 1) (ai (aj 48) [] (k2 (vF 0) (cI 8)))))))
theorem w50:cN (n+1) 50=t50 (cN n):=rfl
def t51 (aj:Nat->Fn):Fn:=aR 2 3 (ah (aA 2 (cS aa4))
 (ak (ai (aj 49) [] (k3 (vF 0) (vF 2) (ai (aj 48) [] (k2 (vF 0) (oA (vF 1) (cI 1))))))))
theorem w51:cN (n+1) 51=t51 (cN n):=rfl
def t52 (aj:Nat->Fn):Fn:=aR 2 6 (ah (aA 2 (cS aa5))
 (ah (aA 3 (cS []))
 (ah (jr (wZ mV (k1 (vF 1))) (setG 4)
  (ah (aA 5 (bP (bj (gZ (vF 2)) 2 [3] (setG 1) (aZ (a_ (aJ .NotIn) (vF 1) (vF 2))) (vF 1))))
 (aA 3 (oA (vF 3) (oI (vF 5) (ai (aj 48) [] (k2 (vF 0) (aK ba (k1 (vF 5))))))))))
 (ak (vF 3)))))
theorem w52:cN (n+1) 52=t52 (cN n):=rfl
def t53 (aj:Nat->Fn):Fn:=aR 1 8 (ah (aA 1 (ai (aj 48) [] (k2 (vF 0) (cI 4))))
 (ah (aA 2 (oI (cS [49,42,43,63]) (vF 1)))
 (ah (aA 3 (oI (aK eU (dY (cS []) (k3 (cS [42]) (cS [43]) (cS [63])))) (vF 1)))
 (ah (aA 4 (ai (aj 48) [] (k2 (vF 0) (cI 4))))
 (ah (aQ (aZ (oE (vF 4) (cI 1)))
  (ak (aK aL (k2 (oA (cS [46]) (vF 3)) (aK aL (k3 (cS []) (cF (.bl true)) (vF 2))))))
  ao)
 (ah (aQ (aZ (oE (vF 4) (cI 2)))
  (ah (aA 7 (ai (aj 52) [] (k2 (vF 0) (oA (cI 1) (ai (aj 48) [] (k2 (vF 0) (cI 12)))))))
 (ak (aK aL (k2 (oA (oA (oA (cS [91,94]) (vF 7)) (cS [93])) (vF 3)) (aK aL (k3 (vF 7) (cF (.bl true)) (vF 2)))))))
  ao)
 (ah (aQ (aZ (oE (vF 4) (cI 3)))
  (ah (aA 7 (ai (aj 52) [] (k2 (vF 0) (oA (cI 1) (ai (aj 48) [] (k2 (vF 0) (cI 12)))))))
 (ah (aQ (aZ (oE (aK ba (k1 (vF 7))) (cI 1)))
  (aA 7 (oI (cS [36,46,91,42,43,63]) (ai (aj 48) [] (k2 (vF 0) (cI 6)))))
  ao)
 (ak (aK aL (k2 (oA (oA (oA (cS [91]) (vF 7)) (cS [93])) (vF 3)) (aK aL (k3 (vF 7) (cF (.bl false)) (vF 2))))))))
  ao)
 (ah (aA 5 (cS aa6))
 (ah (aA 6 (oI (vF 5) (ai (aj 48) [] (k2 (vF 0) (cI 85)))))
 (ak (aK aL (k2 (oA (vF 6) (vF 3)) (aK aL (k3 (vF 6) (cF (.bl false)) (vF 2)))))))))))))))
theorem w53:cN (n+1) 53=t53 (cN n):=rfl
def t54 (aj:Nat->Fn):Fn:=aR 2 7 (ah (aA 2 (oE (ai (aj 48) [] (k2 (vF 0) (cI 2))) (cI 1)))
 (ah (aA 3 (oE (ai (aj 48) [] (k2 (vF 0) (cI 2))) (cI 1)))
 (ah (aA 4 (ai (aj 48) [] (k2 (vF 0) (cI 16))))
 (ah (aA 5 (bP (bj (wZ mV (k1 (ai (aj 48) [] (k2 (vF 0) (cI 9))))) 2 [0] (setG 1) dg (ai (aj 53) [] (k1 (vF 2))))))
 (ah (aQ (aZ (a_ (aJ .Lt) (vF 4) (cI 4)))
  (aA 5 (bP (bj (gZ (oI (aK eU (dY (cS [32,116,111,32]) (k3 (cS [58,32,100,114,111,112]) (cS [32,116,111,32,114,111,119,32]) (cS [110,111,116,32])))) (vF 4))) 2 [] (setG 1) dg (aK aL (k2 (vF 1) (aK aL (k3 (vF 1) (cF (.bl false)) (cS [49]))))))))
  ao)
 (ah (aQ (dw (aZ (a_ (aJ .Gt) (vF 1) (cI 0))) (aZ (oE (bP (bj (gZ (vF 5)) 2 [] (setG 1) (aZ (a_ (aJ .In) (oI (oI (vF 1) (cI 1)) (cI 2)) (cS [49,43]))) (vF 1))) (aK eU b_))))
  (aA 5 (oA (mU (vF 5) rJ (kJ (cI 7))) (aK eU (k1 (aK aL (k2 (cS [120]) (aK aL (k3 (cS [120]) (cF (.bl false)) (cS [49])))))))))
  ao)
 (ah (aA 6 (oA (oA (oI (aK eU (k2 (cS []) (cS [94]))) (aK pJ (k1 (vF 2)))) (jB joinM (cS []) (k1 (bP (bj (gZ (vF 5)) 2 [] (setG 1) dg (oI (vF 1) (cI 0))))))) (oI (aK eU (k2 (cS []) (cS [36]))) (aK pJ (k1 (vF 3))))))
 (ak (aK aL (k2 (vF 6) (aK aL (k3 (vF 2) (bP (bj (gZ (vF 5)) 2 [] (setG 1) dg (oI (vF 1) (cI 1)))) (vF 3)))))))))))))
theorem w54:cN (n+1) 54=t54 (cN n):=rfl
def t55 (aj:Nat->Fn):Fn:=aR 1 3 (ah (aQ (aZ (oE (ai (aj 48) [] (k2 (vF 0) (cI 2))) (cI 1)))
  (ah (aA 2 (oA (cI 1) (ai (aj 48) [] (k2 (vF 0) (cI 999)))))
 (ak (aK aL (k2 (oA (cS [114,111,119,32]) (aK strN (k1 (vF 2)))) (aK aL (k2 (cS [114,111,119]) (vF 2)))))))
  ao)
 (ah (aA 1 (ai (aj 54) [] (k2 (vF 0) (cI 0))))
 (ak (aK aL (k2 (oA (oA (cS [47]) (oI (vF 1) (cI 0))) (cS [47])) (aK aL (k2 (cS [108,105,107,101]) (oI (vF 1) (cI 1)))))))))
theorem w55:cN (n+1) 55=t55 (cN n):=rfl
def t56 (aj:Nat->Fn):Fn:=aR 1 9 (ah (aA 1 (ai (aj 48) [] (k2 (vF 0) (cI 5))))
 (ah (aQ (aZ (oE (vF 1) (cI 0)))
  (ak (aK aL (k2 (cS []) (aK aL (k1 (cS [97,108,119,97,121,115]))))))
  ao)
 (ah (aA 2 (oE (ai (aj 48) [] (k2 (vF 0) (cI 2))) (cI 1)))
 (ah (vH (eG [3,4]) (aK aL (k2 (cS [108,97,115,116]) (aK aL (k1 (cS [108,97,115,116]))))))
 (ah (aQ (aZ (oE (vF 1) (cI 1)))
  (vH (eG [3,4]) (ai (aj 55) [] (k1 (vF 0))))
  ao)
 (ah (aQ (aZ (oE (vF 1) (cI 3)))
  (ah (aA 5 (oA (cI 1) (ai (aj 48) [] (k2 (vF 0) (cI 3)))))
 (ah (aA 6 (ai (aj 54) [] (k2 (vF 0) (cI 0))))
 (En 3 4 (k2 (oA (oA (oA (oA (cS [115,111,111,110,32]) (aK strN (k1 (vF 5)))) (cS [32,47])) (oI (vF 6) (cI 0))) (cS [47])) (aK aL (k3 (cS [115,111,111,110]) (vF 5) (oI (vF 6) (cI 1))))))))
  ao)
 (ah (aQ (aZ (oE (vF 1) (cI 4)))
  (ah (aA 7 (ai (aj 55) [] (k1 (vF 0))))
 (ah (aA 8 (ai (aj 55) [] (k1 (vF 0))))
 (En 3 4 (k2 (oA (oA (oA (cS [102,114,111,109,32]) (oI (vF 7) (cI 0))) (cS [32,116,111,32])) (oI (vF 8) (cI 0))) (aK aL (k3 (cS [102,114,111,109]) (oI (vF 7) (cI 1)) (oI (vF 8) (cI 1))))))))
  ao)
 (ah (aQ (tB (vF 2))
  (ak (aK aL (k2 (oA (oA (cS [110,111,116,32]) (vF 3)) (cS [58,32])) (aK aL (k2 (cS [110,111,116]) (vF 4))))))
  ao)
 (ak (aK aL (k2 (oA (vF 3) (cS [58,32])) (vF 4))))))))))))
theorem w56:cN (n+1) 56=t56 (cN n):=rfl
def t57 (aj:Nat->Fn):Fn:=aR 2 6 (ah (aA 2 (ai (aj 54) [] (k2 (vF 0) (cI 1))))
 (ah (aA 3 (cI 40))
 (ah (aA 4 (cS [115,119,97,112,32,47]))
 (ah (aQ (tB (vF 1))
  (ah (aA 3 (aK ba (k1 (bP (bj (gZ (oI (oI (vF 2) (cI 1)) (cI 1))) 2 [] (setG 1) (aZ (a_ (aJ .In) (oI (vF 1) (cI 2)) (cS [49,43]))) (vF 1))))))
 (aA 4 (cS [115,119,97,112,32,101,118,101,114,121,32,47])))
  ao)
 (ah (aA 5 (ai (aj 51) [] (k2 (vF 0) (vF 3))))
 (ak (aK aL (k2 (oA (oA (oA (oA (vF 4) (oI (vF 2) (cI 0))) (cS [47,32,34])) (vF 5)) (cS [34])) (aK aL (dY (cS [115,119,97,112]) (k3 (oI (vF 2) (cI 1)) (vF 5) (vF 1))))))))))))
theorem w57:cN (n+1) 57=t57 (cN n):=rfl
def t58 (aj:Nat->Fn):Fn:=aR 2 7 (ah (aA 2 (ai (aj 48) [] (k2 (vF 0) (cI 12))))
 (ah (aQ (aZ (a_ (aJ .Lt) (vF 2) (cI 3)))
  (ak (aK aL (k2 (oI (aK eU (k3 (cS [112,114,105,110,116]) (cS [100,114,111,112]) (cS [100,111,110,101]))) (vF 2)) (aK aL (k1 (oI (aK eU (k3 (cS [112,114,105,110,116]) (cS [100,114,111,112]) (cS [100,111,110,101]))) (vF 2)))))))
  ao)
 (ah (aQ (aZ (oE (vF 2) (cI 3)))
  (ah (aA 4 (ai (aj 51) [] (k2 (vF 0) (cI 40))))
 (ak (aK aL (k2 (oA (oA (cS [115,97,121,32,34]) (vF 4)) (cS [34])) (aK aL (k2 (cS [115,97,121]) (vF 4)))))))
  ao)
 (ah (aQ (aZ (a_ (aJ .Lt) (vF 2) (cI 6)))
  (ak (ai (aj 57) [] (k2 (vF 0) (oE (vF 2) (cI 5)))))
  ao)
 (ah (aQ (aZ (oE (vF 2) (cI 6)))
  (ah (aA 5 (oA (cI 2) (ai (aj 48) [] (k2 (vF 0) (cI 8)))))
 (ak (aK aL (k2 (oA (cS [106,111,105,110,32]) (aK strN (k1 (vF 5)))) (aK aL (k2 (cS [106,111,105,110]) (vF 5)))))))
  ao)
 (ah (aQ (aZ (oE (vF 2) (cI 7)))
  (ah (aA 6 (aK eU (k2 (oA (cI 1) (ai (aj 48) [] (k2 (vF 0) (cI 9)))) (oA (cI 1) (ai (aj 48) [] (k2 (vF 0) (cI 9)))))))
 (ak (aK aL (k2 (oA (oA (oA (cS [97,100,100,32]) (aK strN (k1 (oI (vF 6) (cI 0))))) (cS [32])) (aK strN (k1 (oI (vF 6) (cI 1))))) (aK aL (k3 (cS [97,100,100]) (oI (vF 6) (cI 0)) (oI (vF 6) (cI 1))))))))
  ao)
 (ah (aQ (dw (aZ (oE (vF 2) (cI 8))) (aZ (a_ (aJ .NotEq) (vF 1) (aK eU b_))))
  (ah (aA 3 (oI (vF 1) (ai (aj 48) [] (k2 (vF 0) (aK ba (k1 (vF 1)))))))
 (ak (aK aL (k2 (oA (cS [103,111,32]) (vF 3)) (aK aL (k2 (cS [103,111]) (vF 3)))))))
  ao)
 (ah (aA 3 (ai (aj 50) [] (k1 (vF 0))))
 (ah (aQ (aZ (oE (vF 2) (cI 9)))
  (ah (aA 5 (oA (cI 1) (ai (aj 48) [] (k2 (vF 0) (cI 9)))))
 (ak (aK aL (k2 (oA (oA (oA (cS [112,105,108,101,32]) (vF 3)) (cS [32])) (aK strN (k1 (vF 5)))) (aK aL (k3 (cS [112,105,108,101]) (vF 3) (vF 5)))))))
  ao)
 (ah (aQ (aZ (oE (vF 2) (cI 10)))
  (ak (aK aL (k2 (oA (cS [112,105,108,101,32]) (vF 3)) (aK aL (k3 (cS [112,105,108,101]) (vF 3) (cF .non))))))
  ao)
 (ak (aK aL (k2 (oA (cS [98,114,105,110,103,32]) (vF 3)) (aK aL (k2 (cS [98,114,105,110,103]) (vF 3))))))))))))))))
theorem w58:cN (n+1) 58=t58 (cN n):=rfl
def t59 (aj:Nat->Fn):Fn:=aY (aR 2 10 (ah (aA 2 (ai (aj 47) [] (k1 (vF 0))))
 (ah (aQ (aZ (oE (ai (aj 48) [] (k2 (vF 2) (cI 8))) (cI 1)))
  (ah (aA 3 (ai (aj 48) [] (k2 (vF 2) (cI 3))))
 (ah (aA 4 (ai (aj 51) [] (k2 (vF 2) (cI 40))))
 (ah (aQ (aZ (oE (vF 3) (cI 0)))
  (ak (aK aL (k3 (cS [101,110,100,58,32,116,101,108,108]) (aK aL (k1 (cS [101,110,100]))) (aK aL (k1 (cS [116,101,108,108]))))))
  ao)
 (ah (aQ (aZ (oE (vF 3) (cI 1)))
  (ak (aK aL (k3 (oA (oA (cS [101,110,100,58,32,115,97,121,32,34]) (vF 4)) (cS [34])) (aK aL (k1 (cS [101,110,100]))) (aK aL (k2 (cS [115,97,121]) (vF 4))))))
  ao)
 (ah (aA 5 (ai (aj 50) [] (k1 (ai (aj 47) [] (k1 (oD (vF 0) (cI 24)))))))
 (ak (aK aL (k3 (oA (cS [101,110,100,58,32,98,114,105,110,103,32]) (vF 5)) (aK aL (k1 (cS [101,110,100]))) (aK aL (k2 (cS [98,114,105,110,103]) (vF 5)))))))))))
  ao)
 (ah (vH (eG [6,7]) (ai (aj 56) [] (k1 (vF 2))))
 (ah (vH (eG [8,9]) (ai (aj 58) [] (k2 (vF 2) (vF 1))))
 (ak (aK aL (k3 (oA (vF 6) (vF 8)) (vF 7) (vF 9)))))))))
theorem w59:cN (n+1) 59=t59 (cN n):=rfl
def t60 (aj:Nat->Fn):Fn:=aY (aR 1 4 (ah (kK 1 (jT b_))
 (ah (jr (gZ (vF 0)) (setG 2)
  (ah (aA 3 (ai (aj 47) [] (k1 (vF 2))))
 (aQ (aZ (oE (ai (aj 48) [] (k2 (vF 3) (cI 8))) (cI 2)))
  (dZ 1 (ai (aj 50) [] (k1 (vF 3))))
  ao)))
 (ak (vF 1)))))
theorem w60:cN (n+1) 60=t60 (cN n):=rfl
def t61 (aj:Nat->Fn):Fn:=aY (aR 1 6 (ah (aA 1 (ai (aj 60) [] (k1 (vF 0))))
 (ah (kK 2 (jT b_))
 (ah (kK 3 (jT b_))
 (ah (jr (gZ (vF 0)) (setG 4)
  (ah (aA 5 (oE (ai (aj 48) [] (k2 (ai (aj 47) [] (k1 (vF 4))) (cI 8))) (cI 2)))
 (ah (aQ (dw (tB (vF 5)) (aZ (Gh .NotIn true 3 (oI (vF 1) (fD 3)))))
  (dZ 2 (aK aL (k3 (oA (cS [109,97,114,107,32]) (oI (vF 1) (fD 3))) (aK aL (k1 (cS [97,108,119,97,121,115]))) (aK aL (k2 (cS [109,97,114,107]) (oI (vF 1) (fD 3)))))))
  (dZ 2 (ai (aj 59) [] (k2 (vF 4) (vF 1)))))
 (aQ (tB (vF 5))
  (dZ 3 (oI (vF 1) (fD 3)))
  ao))))
 (ak (vF 2)))))))
theorem w61:cN (n+1) 61=t61 (cN n):=rfl
def t62 (aj:Nat->Fn):Fn:=aY (aR 1 5 (ah (kK 1 (jT b_))
 (ah (jr (ki 0 (vF 0)) (eG [2,3])
  (ah (aA 4 (oM (a_ (bw .Mult) (oA (vF 3) (cI 1)) (a_ (bw .Pow) (cI 48271) (cI 31))) (oA (a_ (bw .Mult) (a_ (bw .Pow) (cI 10) (cI 64)) (a_ (bw .Pow) (cI 10) (cI 64))) (cI 7))))
 (dZ 1 (oM (oA (a_ (bw .Mult) (vF 4) (vF 4)) (vF 2)) (oA (a_ (bw .Mult) (a_ (bw .Pow) (cI 10) (cI 64)) (a_ (bw .Pow) (cI 10) (cI 63))) (cI 9))))))
 (ak (vF 1)))))
theorem w62:cN (n+1) 62=t62 (cN n):=rfl
def t63 (aj:Nat->Fn):Fn:=aY (aR 1 8 (ah (aA 1 (mU (vF 0) (kJ (cI 1)) (kJ (cI 25))))
 (ah (aQ (dw (aZ (a_ (aJ .Gt) (aK ba (k1 (vF 0))) (cI 0))) (aZ (oE (oM (oD (oI (vF 0) (cI 0)) (cI 2)) (cI 2)) (cI 1))))
  (aA 1 (ai (aj 62) [] (k1 (vF 1))))
  ao)
 (ah (aA 2 (ai (aj 61) [] (k1 (vF 1))))
 (ah (aA 3 (jB joinM (cS []) (k1 (bP (bj (gZ (vF 2)) 2 [] (setG 1) dg (oA (oI (vF 1) (cI 0)) (cS [10])))))))
 (ah (aA 4 (vF 3))
 (ah (aQ (dw (aZ (a_ (aJ .Gt) (aK ba (k1 (vF 0))) (cI 0))) (aZ (oE (oM (oI (vF 0) (cI 0)) (cI 2)) (cI 1))))
  (aA 4 (mU (vF 3) rJ (kJ (bG kI (cI 1)))))
  ao)
 (ah (sd 5 (jZ (aj 31) (k1 (vF 4))))
 (ah (aQ (bz (tB (Ut (aj 46) [5,2])))
  (ak (cF (.bl false)))
  ao)
 (ah (aA 6 (Ut (aj 35) [5]))
 (ah (aQ (gz (bz (tB (bG (ua "str") (vF 6)))) (aZ (a_ (aJ .NotEq) (vF 6) (vF 3))))
  (ak (cF (.bl false)))
  ao)
 (ah (aA 7 (ai (aj 31) [] (k1 (vF 6))))
 (ah (xX M.P.tab 0 5)
 (ak (dI (ai (aj 46) [] (k2 (vF 7) (vF 2))) (oE (ai (aj 35) [] (k1 (vF 7))) (vF 3)))))))))))))))))
theorem w63:cN (n+1) 63=t63 (cN n):=rfl
def t79 (aj:Nat->Fn):Fn:=aR 3 3 (ah (jq M.P.tab 14 (vF 0) (vF 1))
 (jq M.P.tab 3 (vF 0) (vF 2)))
theorem w79:cN (n+1) 79=t79 (cN n):=rfl
def t81 (aj:Nat->Fn):Fn:=aR 2 2 (ah (aQ (bz (tB (jB qv (aG M.P.tab 14 (vF 0)) (k1 (vF 1)))))
  (ak (cF (.bl false)))
  ao)
 (ah (jq M.P.tab 14 (vF 0) (mU (aG M.P.tab 14 (vF 0)) (kJ (aK ba (k1 (vF 1)))) rJ))
 (ak (cF (.bl true)))))
theorem w81:cN (n+1) 81=t81 (cN n):=rfl
def t82 (aj:Nat->Fn):Fn:=aR 2 2 (aQ (bz (tB (aM (aE [(24,81)] aj) (vF 0) (k1 (vF 1)))))
  (cX (aM (aE [(24,80)] aj) (vF 0) b_))
  ao)
theorem w82:cN (n+1) 82=t82 (cN n):=rfl
def t83 (aj:Nat->Fn):Fn:=aR 2 3 (ah (aA 2 (ai (aj 1) [] (k2 (aG M.P.tab 14 (vF 0)) (vF 1))))
 (ah (jq M.P.tab 14 (vF 0) (mU (aG M.P.tab 14 (vF 0)) (kJ (aK ba (k1 (vF 2)))) rJ))
 (ak (vF 2))))
theorem w83:cN (n+1) 83=t83 (cN n):=rfl
def t84 (aj:Nat->Fn):Fn:=aR 2 4 (ah (cX (aM (aE [(24,82)] aj) (vF 0) (k1 (vF 1))))
 (ah (aA 2 (jB lK (aG M.P.tab 14 (vF 0)) (k1 (vF 1))))
 (ah (aQ (aZ (oE (vF 2) (bG kI (cI 1))))
  (cX (aM (aE [(24,80)] aj) (vF 0) b_))
  ao)
 (ah (aA 3 (mU (aG M.P.tab 14 (vF 0)) rJ (kJ (vF 2))))
 (ah (jq M.P.tab 14 (vF 0) (mU (aG M.P.tab 14 (vF 0)) (kJ (oA (vF 2) (cI 1))) rJ))
 (ak (vF 3)))))))
theorem w84:cN (n+1) 84=t84 (cN n):=rfl
end K23
namespace K23
open D
variable (n:Nat){m:List _root_.D.Ob}
def SC (rest:List Nat) (k:Int):List Ob:=[⟨24,[.val (.str rest),.val (.int k)]⟩]
abbrev St (r:List (Option C)) (rest:List Nat) (k:Int):S:=⟨sv (.own 0)::r,SC rest k⟩
section
variable {r:List (Option C)}{rest sI l w:List Nat}{k:Int}{a:FE}{aj:Nat->Fn}{fl:FL}{ts:List T}{t:T}{i:Nat}
theorem Tu:aG M.P.tab 14 (vF 0) (St r rest k)=.ok (.str rest,St r rest k):=rfl
theorem Tv (h:a (St r rest k)=.ok (.str l,St r rest k)):jq M.P.tab 14 (vF 0) a (St r rest k)=.ok (.nx,St r l k):=by
 unfold jq;rw [h];rfl
theorem sm (ha:fl (St r rest k)=.ok (ts,St r rest k)) (hc:aj i (.own 0::ts) (SC rest k)=.ok (t,SC sI k)):aM (aE [(24,i)] aj) (vF 0) fl (St r rest k)=.ok (t,St r sI k):=by
 exact aaX (ob:=⟨24,[.val (.str rest),.val (.int k)]⟩) (s1:=St r rest k) rfl rfl rfl ha hc
theorem AD (h:pre w rest=false):cN (n+1) 81 [.own 0,.str w] (SC rest k)=.ok (.bl false,SC rest k):=by
 rw [w81]
 refine aS rfl (ia (kZ (s':=St [sv (.str w)] rest k) ?_ rfl)) rfl
 show bz _ (St [sv (.str w)] rest k)=_
 simp only [ev,d8,Tu,bK,dh,qv,h,BJ]
theorem lS:cN (n+1) 81 [.own 0,.str w] (SC (w++rest) k)=.ok (.bl true,SC rest k):=by
 rw [w81]
 refine aS rfl (seq1 (s':=St [sv (.str w)] (w++rest) k) (dN (s':=St [sv (.str w)] (w++rest) k) ?_ rfl) (seq1 (Tv (l:=rest) ?_) rfl)) rfl
 ·show bz _ (St [sv (.str w)] (w++rest) k)=_
  simp only [ev,d8,Tu,bK,dh,qv,pre_app,BC]
 ·simp only [ev,d8,Tu,bK,dh,ba,iO,Dv,ib]
theorem yj:cN (n+2) 82 [.own 0,.str w] (SC (w++rest) k)=.ok (.non,SC rest k):=by
 rw [w82]
 refine aaW rfl (dN (s':=St [sv (.str w)] rest k) ?_ rfl) rfl
 show bz (D.tB (aM _ _ _)) (St [sv (.str w)] (w++rest) k)=_
 have e:aM (aE [(24,81)] (cN (n+1))) (vF 0) (k1 (vF 1)) (St [sv (.str w)] (w++rest) k)=.ok (.bl true,St [sv (.str w)] rest k):=sm rfl (lS n)
 simp only [ev,e,bK,dh,BC]
end
theorem p9 {α:Type}{l:List α}{j:Nat}(h:j<l.length):atT l (j:Int)=l[j]?:=by
 unfold atT
 rw [if_pos (by omega),if_pos (by omega)];rfl
section
variable {a b signs:List Nat}{m:List Ob}
theorem sJ (ha:∀ c∈a,c∈signs) (hb:∀ c,b.head?=some c->c ∉ signs) {j:Nat}(hj:j<=a.length) :
  dw (D.aZ (a_ (aJ .Lt) (vF 2) (aK ba (k1 (vF 0))))) (D.aZ (a_ (aJ .In) (oI (vF 0) (vF 2)) (vF 1))) ⟨[sv (.str (a++b)),sv (.str signs),sv (.int (j:Nat))],m⟩=.ok (decide (j<a.length),⟨[sv (.str (a++b)),sv (.str signs),sv (.int (j:Nat))],m⟩):=by
 unfold dw
 have lt:∀ i j:Int,aJ .Lt (.int i) (.int j)=some (.bl (decide (i<j))):=fun _ _=>rfl
 have inn:∀ (c:Nat) (l:List Nat),aJ .In (.str [c]) (.str l)=some (.bl (decide (c∈l))):=fun _ _=>rfl
 simp only [ev,d8,bK,dh,ba,iO,lt]
 by_cases h:j<(a++b).length
 ·rw [decide_eq_true (by omega),if_pos rfl]
  have e:gi (.str (a++b)) (.int (j:Nat))=some (.str [(a++b)[j]]):=by
   show (atT (a++b) (j:Int)).map _=_
   rw [p9 h,dR h];rfl
  simp only [ev,d8,bK,dh,e,inn]
  by_cases hja:j<a.length
  ·rw [List.getElem_append_left hja,decide_eq_true (ha _ (Bh hja)),decide_eq_true hja]
  ·have:j=a.length:=by omega
   subst this
   rw [decide_eq_false hja]
   have:(a++b)[a.length] ∉ signs:=by
    apply hb
    rw [List.head?_eq_getElem?,List.getElem_append_right (by omega)]
    simp only [oJ]
    rw [dR]
   rw [decide_eq_false this]
 ·rw [decide_eq_false (by omega),decide_eq_false (by rw [bJ] at h;omega)]
  rw [if_neg eK]
theorem sL (ha:∀ c∈a,c∈signs) (hb:∀ c,b.head?=some c->c ∉ signs):∀ (d j fuel:Nat),j+d=a.length->d<fuel ->
  b7 (dw (D.aZ (a_ (aJ .Lt) (vF 2) (aK ba (k1 (vF 0))))) (D.aZ (a_ (aJ .In) (oI (vF 0) (vF 2)) (vF 1)))) (Dw xJ 2 (cI 1)) fuel ⟨[sv (.str (a++b)),sv (.str signs),sv (.int (j:Nat))],m⟩=.ok (.nx,⟨[sv (.str (a++b)),sv (.str signs),sv (.int (a.length:Nat))],m⟩)
 | _,_,0,_,h=>absurd h (LU _)
 | 0,j,f+1,h,_=>by
  have:j=a.length:=h
  subst this
  unfold b7
  rw [sJ ha hb (dS _),decide_eq_false (oH _)]
  rfl
 | d+1,j,f+1,h,hf=>by
  unfold b7
  rw [sJ ha hb (by omega),decide_eq_true (by omega)]
  show b7 _ _ f ⟨[sv (.str (a++b)),sv (.str signs),sv (.int ((j:Int)+1))],m⟩=_
  have:=sL ha hb d (j+1) f (by omega) (by omega)
  rw [Int.natCast_add] at this
  exact this
theorem Tw (ha:∀ c∈a,c∈signs) (hb:∀ c,b.head?=some c->c ∉ signs) (hl:a.length<1000):cN (n+1) 1 [.str (a++b),.str signs] m=.ok (.str a,m):=by
 rw [w1]
 refine aT (m':=[]) rfl (aS rfl (seq1 (s':=⟨[sv (.str (a++b)),sv (.str signs),sv (.int 0)],[]⟩) rfl (seq1 (sL ha hb a.length 0 many (by omega) (by show a.length<1000000;omega)) (aV (t:=.str a) (s':=⟨[sv (.str (a++b)),sv (.str signs),sv (.int (a.length:Nat))],[]⟩) ?_))) rfl) rfl
 simp only [ev,d8,bK,dh,Dv,EY]
theorem yk {k:Int}(ha:∀ c∈a,c∈signs) (hb:∀ c,b.head?=some c->c ∉ signs) (hl:a.length<1000):cN (n+2) 83 [.own 0,.str signs] (SC (a++b) k)=.ok (.str a,SC b k):=by
 rw [w83]
 refine aS (s':=St [sv (.str signs),sv (.str a)] b k) rfl (seq1 (s':=St [sv (.str signs),sv (.str a)] (a++b) k) ?_ (seq1 (Tv (l:=b) ?_) rfl)) rfl
 ·show aA 2 (ai _ _ _) (St [sv (.str signs),none] (a++b) k)=_
  have e:ai (cN (n+1) 1) [] (k2 (aG M.P.tab 14 (vF 0)) (vF 1)) (St [sv (.str signs),none] (a++b) k)=.ok (.str a,St [sv (.str signs),none] (a++b) k):=aF (ts:=[.str (a++b),.str signs]) (s':=St [sv (.str signs),none] (a++b) k) rfl (Tw n ha hb hl)
  simp only [ev,d8,e,bK]
 ·simp only [ev,d8,Tu,bK,dh,ba,iO,Dv,ib]
end
theorem lT {c:Nat}{l b:List Nat}{k:Int}(h:c ∉ l):cN (n+3) 84 [.own 0,.str [c]] (SC (c::(l++c::b)) k)=.ok (.str l,SC b k):=by
 rw [w84]
 refine aS (s':=St [sv (.str [c]),sv (.int (l.length:Nat)),sv (.str l)] b k) rfl ?_ rfl
 refine seq1 (s':=St [sv (.str [c]),none,none] (l++c::b) k) ?_ (seq1 (s':=St [sv (.str [c]),sv (.int (l.length:Nat)),none] (l++c::b) k) ?_ (seq1 (s':=St [sv (.str [c]),sv (.int (l.length:Nat)),none] (l++c::b) k) (dN (s':=St [sv (.str [c]),sv (.int (l.length:Nat)),none] (l++c::b) k) ?_ rfl) (seq1 (s':=St [sv (.str [c]),sv (.int (l.length:Nat)),sv (.str l)] (l++c::b) k) ?_ (seq1 (Tv (l:=b) ?_) rfl))))
 ·have e:aM (aE [(24,82)] (cN (n+2))) (vF 0) (k1 (vF 1)) (St [sv (.str [c]),none,none] ([c]++(l++c::b)) k)=.ok (.non,St [sv (.str [c]),none,none] (l++c::b) k):=sm rfl (yj n)
  show cX _ (St [sv (.str [c]),none,none] ([c]++(l++c::b)) k)=_
  simp only [ev,e,bK]
 ·simp only [ev,d8,Tu,bK,dh,AA c l b h]
 ·have e:aJ .Eq (.int (l.length:Nat)) (.int (-1))=some (.bl (decide ((l.length:Int)=-1))):=rfl
  simp only [ev,d8,bK,dh,kI,e]
  rw [decide_eq_false (by omega)]
 ·simp only [ev,d8,Tu,bK,dh,Dv,EY]
 ·have e:bw .Add (.int (l.length:Nat)) (.int 1)=some (.int ((l++[c]).length:Nat)):=by
   rw [bJ];rfl
  have e2:bD (l++c::b) (some ((l++[c]).length:Int)) none=b:=by
   have:=ib (l++[c]) b
   rw [ky] at this
   exact this
  simp only [ev,d8,Tu,bK,dh,e,Dv,e2]
section
variable {r:List (Option C)}{rest sI l w:List Nat}{k:Int}{aj:Nat->Fn}{fl:FL}{ts:List T}{t:T}{i:Nat}{A B:FS}{R:Res (Out × S)}{s s' s1 s2:S}{a:FE}
theorem pT:D.tB (aM (aE [(24,81)] (cN (n+1))) (vF 0) (k1 (cS w))) (St r (w++rest) k)=.ok (true,St r rest k):=by
 have e:aM (aE [(24,81)] (cN (n+1))) (vF 0) (k1 (cS w)) (St r (w++rest) k)=.ok (.bl true,St r rest k):=sm rfl (lS n)
 simp only [ev,e,bK,dh]
theorem pN (h:pre w rest=false):D.tB (aM (aE [(24,81)] (cN (n+1))) (vF 0) (k1 (cS w))) (St r rest k)=.ok (false,St r rest k):=by
 have e:aM (aE [(24,81)] (cN (n+1))) (vF 0) (k1 (cS w)) (St r rest k)=.ok (.bl false,St r rest k):=sm rfl (AD n h)
 simp only [ev,e,bK,dh]
theorem mP:cX (aM (aE [(24,82)] (cN (n+2))) (vF 0) (k1 (cS w))) (St r (w++rest) k)=.ok (.nx,St r rest k):=by
 have e:aM (aE [(24,82)] (cN (n+2))) (vF 0) (k1 (cS w)) (St r (w++rest) k)=.ok (.non,St r rest k):=sm rfl (yj n)
 simp only [ev,e,bK]
theorem skip (h:pre w rest=false) (q:B (St r rest k)=R):ah (aQ (D.tB (aM (aE [(24,81)] (cN (n+1))) (vF 0) (k1 (cS w)))) A ao) B (St r rest k)=R:=seq1 (dN (pN n h) rfl) q
theorem hit (q:A (St r rest k)=.ok (.rt t,s')):ah (aQ (D.tB (aM (aE [(24,81)] (cN (n+1))) (vF 0) (k1 (cS w)))) A ao) B (St r (w++rest) k)=.ok (.rt t,s'):=ia (kZ (pT n) q)
theorem cR (ha:fl (St r rest k)=.ok (ts,St r rest k)) (hc:aj i (.own 0::ts) (SC rest k)=.ok (t,SC sI k)):ai (aj i) [] (dY (vF 0) fl) (St r rest k)=.ok (t,St r sI k):=by
 refine aF (ts:=.own 0::ts) (s':=St r rest k) ?_ (by rw [dH];exact hc)
 show Res.bind (fl (St r rest k)) _=_
 rw [ha];rfl
theorem eX {c m:Nat}(h:fl s=.ok (ts,s')) (hl:ts.length=m):c8 c m fl s=.ok (.obj c ts,s'):=by
 unfold c8;rw [h];exact if_pos hl
theorem aP (h:a s=.ok (t,s1)) (h2:fl s1=.ok (ts,s2)):dY a fl s=.ok (t::ts,s2):=by
 unfold dY;rw [h];show Res.bind (fl s1) _=_;rw [h2];rfl
theorem dB {i:Nat}(h:a s=.ok (t,s')):aA i a s=.ok (.nx,i7 s' i (.val t)):=by unfold aA;rw [h];rfl
end
theorem kN (a b:List Nat):aJ .Eq (.str a) (.str b)=some (.bl (decide (a=b))):=rfl
theorem sM (a b:Int):aJ .Gt (.int a) (.int b)=some (.bl (decide (b<a))):=rfl
theorem p_ (a b:Int):aJ .Lt (.int a) (.int b)=some (.bl (decide (a<b))):=rfl
def AE:List Nat:=[48,49,50,51,52,53,54,55,56,57]
def iV:List Nat:=KI
theorem j3 {d b:List Nat}{v lo hi k:Int}(hd:∀ c∈d,c∈AE) (h0:d≠[]) (hz:pre [48] d=false) (hl:d.length<=3) (hi':pJ [.str d]=some (.int v)) (h1:lo<=v) (h2:v<=hi) (hb:∀ c,b.head?=some c->c ∉ AE) :
  cN (n+3) 24 [.own 0,.int lo,.int hi] (SC (d++b) k)=.ok (.int v,SC b k):=by
 rw [w24]
 refine aS (s':=St [sv (.int lo),sv (.int hi),sv (.str d),sv (.int v)] b k) rfl ?_ rfl
 have e:aM (aE [(24,83)] (cN (n+2))) (vF 0) (k1 (cS AE)) (St [sv (.int lo),sv (.int hi),none,none] (d++b) k)=.ok (.str d,St [sv (.int lo),sv (.int hi),none,none] b k):=sm rfl (yk n hd hb (by omega))
 refine seq1 (dB e) (seq1 (dN (s':=St [sv (.int lo),sv (.int hi),sv (.str d),none] b k) ?_ rfl) (seq1 (s':=St [sv (.int lo),sv (.int hi),sv (.str d),sv (.int v)] b k) ?_ (seq1 (dN (s':=St [sv (.int lo),sv (.int hi),sv (.str d),sv (.int v)] b k) ?_ rfl) rfl)))
 ·show gz _ _ (St [sv (.int lo),sv (.int hi),sv (.str d),none] b k)=_
  have g1:decide (d=[])=false:=decide_eq_false h0
  have g2:decide ((3:Int)<(d.length:Nat))=false:=decide_eq_false (by omega)
  simp only [gz,ev,d8,bK,dh,kN,g1,qv,hz,ba,iO,sM,g2,BD,if_false]
 ·simp only [ev,d8,bK,dh,hi']
 ·have g1:decide (v<lo)=false:=decide_eq_false (by omega)
  have g2:decide (hi<v)=false:=decide_eq_false (by omega)
  simp only [gz,ev,d8,bK,dh,p_,sM,g1,g2,BD,if_false]
theorem KJ {d b:List Nat}{k:Int}(hd:∀ c∈d,c∈iV) (h0:d≠[]) (hl:d.length<=8) (hb:∀ c,b.head?=some c->c ∉ iV):cN (n+3) 25 [.own 0] (SC (d++b) k)=.ok (.str d,SC b k):=by
 rw [w25]
 refine aS (s':=St [sv (.str d)] b k) rfl ?_ rfl
 have e:aM (aE [(24,83)] (cN (n+2))) (vF 0) (k1 (cS iV)) (St [none] (d++b) k)=.ok (.str d,St [none] b k):=sm rfl (yk n hd hb (by omega))
 refine seq1 (dB e) (seq1 (dN (s':=St [sv (.str d)] b k) ?_ rfl) rfl)
 show gz _ _ (St [sv (.str d)] b k)=_
 have g1:decide (d=[])=false:=decide_eq_false h0
 have g2:decide ((8:Int)<(d.length:Nat))=false:=decide_eq_false (by omega)
 simp only [gz,ev,d8,bK,dh,kN,g1,ba,iO,sM,g2,BD,if_false]
theorem gn {g:FG}{e:FE}{b:List (Option C)}{m:List Ob}{f:T->T}:∀ {ts:List T},(∀ t∈ts,∃ b1 b2,g t b=some b1/\e ⟨b1,m⟩=.ok (f t,⟨b2,m⟩))->cC g dg e b ts m=.ok (ts.map f,m)
 | [],_=>rfl
 | t::ts,h=>by
  obtain ⟨b1,b2,h1,h2⟩:=h t (eE ..)
  unfold cC
  rw [h1]
  show Res.bind (e ⟨b1,m⟩) _=_
  rw [h2]
  show Res.bind (cC g dg e b ts m) _=_
  rw [gn fun t ht=>h t (eZ _ ht)]
  rfl
theorem ic {src:FL}{n:Nat}{js:List Nat}{g:FG}{c:FT}{e:FE}{s s1:S}{ts us:List T}{m':List Ob}(h:src s=.ok (ts,s1)) (z:ts.length<=1000000) (q:cC g c e (iP n js (jo js s1.r)) ts s1.m=.ok (us,m')):bj src n js g c e s=.ok (us,⟨jo js s1.r,m'⟩):=by
 unfold bj
 rw [h]
 show (if ts.length<=1000000 then _ else _)=_
 rw [if_pos z,q]
 rfl
theorem ie {fl:FL}{s s':S}{ts:List T}(h:fl s=.ok (ts,s')):bP fl s=.ok (.lst ts,s'):=by unfold bP;rw [h];rfl
theorem cj {g:List T->Option T}{fl:FL}{s s':S}{ts:List T}{t:T}(h:fl s=.ok (ts,s')) (q:g ts=some t):aK g fl s=.ok (t,s'):=by unfold aK;rw [h];show Res.bind (cK (g ts)) _=_;rw [q];rfl
theorem E5 (c:Nat) (l:List Nat):aJ .In (.str [c]) (.str l)=some (.bl (decide (c∈l))):=rfl
def yl:T->T:=fun _=>.bl true
theorem all_true:∀ (l:List T),boolsOf (l.map yl)=some (l.map fun _=>true)
 | []=>rfl
 | _::l=>by
  show (boolsOf (l.map yl)).map _=_
  rw [all_true l];rfl
theorem lU {l signs:List Nat}(h:∀ c∈l,c∈signs) (hl:l.length<=1000):cN (n+1) 0 [.str l,.str signs] m=.ok (.bl true,m):=by
 rw [w0]
 refine aT (m':=[]) rfl (aS (s':=⟨[sv (.str l),sv (.str signs)],[]⟩) rfl (aV (cj (ts:=[.lst ((l.map fun c=>T.str [c]).map yl)]) (aP (ie (ic (ts:=l.map fun c=>T.str [c]) (s1:=⟨[sv (.str l),sv (.str signs)],[]⟩) rfl (by rw [cT];omega) (gn fun t ht=>?_))) rfl) ?_)) rfl) rfl
 ·obtain ⟨c,hc,rfl⟩:=i9.mp ht
  refine ⟨[none,sv (.str [c]),sv (.str signs)],[none,sv (.str [c]),sv (.str signs)],rfl,?_⟩
  simp only [ev,d8,bK,dh,E5,decide_eq_true (h c hc),yl]
 ·simp only [JN,RK,all_true]
  simp
noncomputable def gp:List Nat:=E4
theorem E6 {l b:List Nat}{k:Int}(h:∀ c∈l,c∈gp/\c≠34) (hl:l.length<=40):cN (n+4) 26 [.own 0] (SC (34::(l++34::b)) k)=.ok (.str l,SC b k):=by
 rw [w26]
 have hq:34 ∉ l:=fun z=>(h 34 z).2 rfl
 refine aS (s':=St [sv (.str l)] b k) rfl ?_ rfl
 have e:aM (aE [(24,84)] (cN (n+3))) (vF 0) (k1 (cS [34])) (St [none] (34::(l++34::b)) k)=.ok (.str l,St [none] b k):=sm rfl (lT n hq)
 refine seq1 (dB e) (seq1 (dN (s':=St [sv (.str l)] b k) ?_ rfl) rfl)
 show gz _ _ (St [sv (.str l)] b k)=_
 have e2:ai (cN (n+3) 0) [] (k2 (vF 1) (cS gp)) (St [sv (.str l)] b k)=.ok (.bl true,St [sv (.str l)] b k):=aF (ts:=[.str l,.str gp]) (s':=St [sv (.str l)] b k) rfl (lU (n+2) (fun c hc=>(h c hc).1) (by omega))
 unfold gp at e2
 have g2:decide ((40:Int)<(l.length:Nat))=false:=decide_eq_false (by omega)
 unfold gz bz
 rw [show D.aZ (a_ (aJ .Gt) (aK ba (k1 (vF 1))) (cI 40)) (St [sv (.str l)] b k)=.ok (false,St [sv (.str l)] b k) by simp only [ev,d8,bK,dh,ba,iO,sM,g2]]
 show Res.bind (D.tB (ai _ _ _) (St [sv (.str l)] b k)) _=_
 unfold D.tB
 rw [e2]
 rfl
structure Nm (d:List Nat) (v:Int):Prop where
 hd:∀ c∈d,c∈AE
 h0:d≠[]
 hz:pre [48] d=false
 hl:d.length<=3
 hi:pJ [.str d]=some (.int v)
structure Pt (w:List Nat) (t:T):Prop where
 no:47 ∉ w
 eq:∀ n m,cN (n+7) 3 [.str w] m=.ok (t,m)
theorem eB {w b:List Nat}{t:T}{k:Int}(P:Pt w t):cN (n+8) 27 [.own 0] (SC (47::(w++47::b)) k)=.ok (t,SC b k):=by
 rw [w27]
 have e:aM (aE [(24,84)] (cN (n+7))) (vF 0) (k1 (cS [47])) (St [none] (47::(w++47::b)) k)=.ok (.str w,St [none] b k):=sm rfl (lT (n+4) P.no)
 exact aS (s':=St [sv (.str w)] b k) rfl (seq1 (dB e) (aV (aF (ts:=[.str w]) (s':=St [sv (.str w)] b k) rfl (P.eq n _)))) rfl
def Tz (b:List Nat):Prop:=∀ c,b.head?=some c->c ∉ AE
def NoL (b:List Nat):Prop:=∀ c,b.head?=some c->c ∉ iV
inductive RP where
 | row (d:List Nat) (v:Int) | like (w:List Nat) (t:T)
def RP.ok:RP->Prop
 | .row d v=>Nm d v/\1<=v/\v<=999
 | .like w t=>Pt w t
noncomputable def RP.txt:RP->List Nat->List Nat
 | .row d _,b=>114::111::119::32::(d++b)
 | .like w _,b=>47::(w++47::b)
noncomputable def RP.val:RP->T
 | .row _ v=>.obj 4 [.int v]
 | .like _ t=>.obj 6 [t]
theorem E7 {x:RP}{b:List Nat}{k:Int}(h:x.ok) (hb:Tz b):cN (n+9) 19 [.own 0] (SC (x.txt b) k)=.ok (x.val,SC b k):=by
 rw [w19]
 cases x with
 | row d v=>
  obtain ⟨N,h1,h2⟩:=h
  exact aS (s':=St [] b k) rfl (hit (w:=[114,111,119,32]) (rest:=d++b) (n+7) (aV (eX (ts:=[.int v]) (aP (cR (ts:=[.int 1,.int 999]) rfl (j3 (n+5) N.hd N.h0 N.hz N.hl N.hi h1 h2 hb)) rfl) rfl))) rfl
 | like w t=>
  exact aS (s':=St [] b k) rfl (skip (n+7) (a8 (by decide)) (aV (eX (ts:=[t]) (aP (cR (ts:=[]) rfl (eB n h)) rfl) rfl))) rfl
inductive PC where
 | last | soon (d:List Nat) (v:Int) (w:List Nat) (t:T) | ft (x y:RP) | rp (x:RP)
def PC.ok:PC->Prop
 | .last=>True
 | .soon d v w t=>Nm d v/\1<=v/\v<=3/\Pt w t
 | .ft x y=>x.ok/\y.ok
 | .rp x=>x.ok
noncomputable def PC.txt:PC->List Nat->List Nat
 | .last,b=>108::97::115::116::b
 | .soon d _ w _,b=>115::111::111::110::32::(d++32::47::(w++47::b))
 | .ft x y,b=>102::114::111::109::32::x.txt (32::116::111::32::y.txt b)
 | .rp x,b=>x.txt b
noncomputable def PC.val:PC->T
 | .last=>.obj 5 []
 | .soon _ v _ t=>.obj 7 [.int v,t]
 | .ft x y=>.obj 8 [x.val,y.val]
 | .rp x=>x.val
theorem E8 (b:List Nat):Tz (32::b):=fun c h=>by cases h;decide
theorem qa {x:RP}{b w:List Nat}{c:Nat}(h1:c≠114) (h2:c≠47):pre (c::w) (x.txt b)=false:=by
 cases x with
 | row d v=>exact a8 h1
 | like w t=>exact a8 h2
theorem sN {x:PC}{b:List Nat}{k:Int}(h:x.ok) (hb:Tz b):cN (n+10) 18 [.own 0] (SC (x.txt b) k)=.ok (x.val,SC b k):=by
 rw [w18]
 cases x with
 | last=>exact aS (s':=St [none,none] b k) rfl (hit (w:=[108,97,115,116]) (rest:=b) (n+8) (aV (eX (ts:=[]) rfl rfl))) rfl
 | soon d v w t=>
  obtain ⟨N,h1,h2,P⟩:=h
  refine aS (s':=St [sv (.int v),none] b k) rfl (skip (n+8) (a8 (by decide)) (hit (w:=[115,111,111,110,32]) (rest:=d++32::47::(w++47::b)) (n+8) ?_)) rfl
  refine seq1 (s':=St [sv (.int v),none] (32::47::(w++47::b)) k) (dB (cR (ts:=[.int 1,.int 3]) rfl (j3 (n+6) N.hd N.h0 N.hz N.hl N.hi h1 h2 (E8 _)))) (seq1 (mP (w:=[32]) (rest:=47::(w++47::b)) (n+7)) (aV (eX (ts:=[.int v,t]) (aP (t:=.int v) rfl (aP (cR (ts:=[]) rfl (eB (n+1) P)) rfl)) rfl)))
 | ft x y=>
  obtain ⟨h1,h2⟩:=h
  refine aS (s':=St [none,sv x.val] b k) rfl (skip (n+8) (a8 (by decide)) (skip (n+8) (a8 (by decide)) (hit (w:=[102,114,111,109,32]) (rest:=x.txt (32::116::111::32::y.txt b)) (n+8) ?_))) rfl
  exact seq1 (s':=St [none,sv x.val] (32::116::111::32::y.txt b) k) (dB (cR (ts:=[]) rfl (E7 n h1 (E8 _)))) (seq1 (mP (w:=[32,116,111,32]) (rest:=y.txt b) (n+7)) (aV (eX (ts:=[x.val,y.val]) (aP (t:=x.val) rfl (aP (cR (ts:=[]) rfl (E7 n h2 hb)) rfl)) rfl)))
 | rp x=>
  exact aS (s':=St [none,none] b k) rfl (skip (n+8) (qa (by decide) (by decide)) (skip (n+8) (qa (by decide) (by decide)) (skip (n+8) (qa (by decide) (by decide)) (aV (cR (ts:=[]) rfl (E7 n h hb)))))) rfl
inductive CD where
 | fin | no (x:PC) | pc (x:PC)
def CD.ok:CD->Prop
 | .fin=>True
 | .no x=>x.ok
 | .pc x=>x.ok
noncomputable def CD.txt:CD->List Nat->List Nat
 | .fin,b=>101::110::100::b
 | .no x,b=>110::111::116::32::x.txt b
 | .pc x,b=>x.txt b
noncomputable def CD.val:CD->T
 | .fin=>.obj 10 []
 | .no x=>.obj 9 [x.val]
 | .pc x=>x.val
theorem v5 {x:PC}{b w:List Nat}{c:Nat}(h:c≠114/\c≠47/\c≠108/\c≠115/\c≠102):pre (c::w) (x.txt b)=false:=by
 obtain ⟨h1,h2,h3,h4,h5⟩:=h
 cases x with
 | last=>exact a8 h3
 | soon d v w t=>exact a8 h4
 | ft x y=>exact a8 h5
 | rp x=>exact qa h1 h2
theorem KL {x:CD}{b:List Nat}{k:Int}(h:x.ok) (hb:Tz b):cN (n+11) 17 [.own 0] (SC (x.txt b) k)=.ok (x.val,SC b k):=by
 rw [w17]
 cases x with
 | fin=>exact aS (s':=St [] b k) rfl (hit (w:=[101,110,100]) (rest:=b) (n+9) (aV (eX (ts:=[]) rfl rfl))) rfl
 | no x=>exact aS (s':=St [] b k) rfl (skip (n+9) (a8 (by decide)) (hit (w:=[110,111,116,32]) (rest:=x.txt b) (n+9) (aV (eX (ts:=[x.val]) (aP (cR (ts:=[]) rfl (sN n h hb)) rfl) rfl)))) rfl
 | pc x=>exact aS (s':=St [] b k) rfl (skip (n+9) (v5 (by decide)) (skip (n+9) (v5 (by decide)) (aV (cR (ts:=[]) rfl (sN n h hb))))) rfl
structure j4 (d:List Nat):Prop where
 hd:∀ c∈d,c∈iV
 h0:d≠[]
 hl:d.length<=8
structure ND (l:List Nat):Prop where
 h:∀ c∈l,c∈gp/\c≠34
 hl:l.length<=40
inductive DD where
 | drop | print | done | tell | say (l:List Nat) | swap (e:Bool) (w:List Nat) (t:T) (l:List Nat) | join (d:List Nat) (v:Int) | pile (a:List Nat) | pileN (a d:List Nat) (v:Int) | bring (a:List Nat) | go (a:List Nat) | add (d:List Nat) (v:Int) (d2:List Nat) (v2:Int)
def DD.ok:DD->Prop
 | .say l=>ND l
 | .swap _ w t l=>Pt w t/\ND l
 | .join d v=>Nm d v/\2<=v/\v<=9
 | .pile a=>j4 a
 | .pileN a d v=>j4 a/\Nm d v/\1<=v/\v<=9
 | .bring a=>j4 a
 | .go a=>j4 a
 | .add d v d2 v2=>(Nm d v/\1<=v/\v<=9)/\Nm d2 v2/\1<=v2/\v2<=9
 | _=>True
def Ux (w l b:List Nat):List Nat:=47::(w++47::32::34::(l++34::b))
structure Uy (b:List Nat):Prop where
 f:Tz b
 l:NoL b
 s:pre [32] b=false
noncomputable def DD.txt:DD->List Nat->List Nat
 | .drop,b=>100::114::111::112::b
 | .print,b=>112::114::105::110::116::b
 | .done,b=>100::111::110::101::b
 | .tell,b=>116::101::108::108::b
 | .say l,b=>115::97::121::32::34::(l++34::b)
 | .swap true w _ l,b=>115::119::97::112::32::101::118::101::114::121::32::Ux w l b
 | .swap false w _ l,b=>115::119::97::112::32::Ux w l b
 | .join d _,b=>106::111::105::110::32::(d++b)
 | .pile a,b=>112::105::108::101::32::(a++b)
 | .pileN a d _,b=>112::105::108::101::32::(a++32::(d++b))
 | .bring a,b=>98::114::105::110::103::32::(a++b)
 | .go a,b=>103::111::32::(a++b)
 | .add d _ d2 _,b=>97::100::100::32::(d++32::(d2++b))
noncomputable def DD.val:DD->T
 | .drop=>.obj 13 []
 | .print=>.obj 14 []
 | .done=>.obj 15 []
 | .tell=>.obj 23 []
 | .say l=>.obj 16 [.str l]
 | .swap e _ t l=>.obj 17 [t,.str l,.bl e]
 | .join _ v=>.obj 18 [.int v]
 | .pile a=>.obj 19 [.str a,.non]
 | .pileN a _ v=>.obj 19 [.str a,.int v]
 | .bring a=>.obj 20 [.str a]
 | .go a=>.obj 21 [.str a]
 | .add _ v _ v2=>.obj 22 [.int v,.int v2]
theorem adS:Uy []:=⟨fun c h=>(by cases h),fun c h=>(by cases h),rfl⟩
theorem aa7 (b:List Nat):NoL (32::b):=fun c h=>by cases h;decide
section
variable {k:Int}
theorem qb {d b:List Nat}{v lo hi:Int}(N:Nm d v) (h1:lo<=v) (h2:v<=hi) (hb:Tz b):cN (n+3) 24 [.own 0,.int lo,.int hi] (SC (d++b) k)=.ok (.int v,SC b k):=j3 n N.hd N.h0 N.hz N.hl N.hi h1 h2 hb
theorem lV {d b:List Nat}(N:j4 d) (hb:NoL b):cN (n+3) 25 [.own 0] (SC (d++b) k)=.ok (.str d,SC b k):=KJ n N.hd N.h0 N.hl hb
theorem E9 {l b:List Nat}(W:ND l):cN (n+4) 26 [.own 0] (SC (34::(l++34::b)) k)=.ok (.str l,SC b k):=E6 n W.h W.hl
theorem swap_eq {e:Bool}{w l b:List Nat}{t:T}(P:Pt w t) (W:ND l):cN (n+9) 21 [.own 0,.bl e] (SC (Ux w l b) k)=.ok (.obj 17 [t,.str l,.bl e],SC b k):=by
 rw [w21]
 exact aS (s':=St [sv (.bl e),sv t] b k) rfl (seq1 (s':=St [sv (.bl e),sv t] (32::34::(l++34::b)) k) (dB (cR (ts:=[]) rfl (eB n P))) (seq1 (mP (w:=[32]) (rest:=34::(l++34::b)) (n+6)) (aV (eX (ts:=[t,.str l,.bl e]) (aP (t:=t) rfl (aP (cR (ts:=[]) rfl (E9 (n+4) W)) rfl)) rfl)))) rfl
theorem KN {a b:List Nat}(E:Uy b) (N:j4 a):cN (n+9) 22 [.own 0] (SC (a++b) k)=.ok (.obj 19 [.str a,.non],SC b k):=by
 rw [w22]
 refine aS (s':=St [sv (.str a)] b k) rfl (seq1 (s':=St [sv (.str a)] b k) (dB (cR (ts:=[]) rfl (lV (n+5) N E.l))) (ia (kZ (s':=St [sv (.str a)] b k) ?_ (aV (eX (ts:=[.str a,.non]) rfl rfl))))) rfl
 unfold bz
 rw [pN (n+7) (E.s)];rfl
theorem E_ {a d b:List Nat}{v:Int}(E:Uy b) (N:j4 a) (D1:Nm d v) (h1:1<=v) (h2:v<=9):cN (n+9) 22 [.own 0] (SC (a++32::(d++b)) k)=.ok (.obj 19 [.str a,.int v],SC b k):=by
 rw [w22]
 refine aS (s':=St [sv (.str a)] b k) rfl (seq1 (s':=St [sv (.str a)] (32::(d++b)) k) (dB (cR (ts:=[]) rfl (lV (n+5) N (aa7 _)))) (seq1 (s':=St [sv (.str a)] (d++b) k) (dN (s':=St [sv (.str a)] (d++b) k) ?_ rfl) (aV (eX (ts:=[.str a,.int v]) (aP (t:=.str a) rfl (aP (cR (ts:=[.int 1,.int 9]) rfl (qb (n+5) D1 h1 h2 E.f)) rfl)) rfl)))) rfl
 unfold bz
 have:=pT (r:=[sv (.str a)]) (w:=[32]) (rest:=d++b) (k:=k) (n+7)
 show Res.bind (D.tB _ (St [sv (.str a)] ([32]++(d++b)) k)) _=_
 rw [this];rfl
theorem add_eq {d d2 b:List Nat}{v v2:Int}(E:Uy b) (D1:Nm d v) (h1:1<=v) (h2:v<=9) (D2:Nm d2 v2) (h3:1<=v2) (h4:v2<=9):cN (n+9) 23 [.own 0] (SC (d++32::(d2++b)) k)=.ok (.obj 22 [.int v,.int v2],SC b k):=by
 rw [w23]
 refine aS (s':=St [sv (.int v)] b k) rfl (seq1 (s':=St [sv (.int v)] (32::(d2++b)) k) ?_ (seq1 (s':=St [sv (.int v)] (d2++b) k) ?_ ?_)) rfl
 ·exact dB (cR (ts:=[.int 1,.int 9]) rfl (qb (n+5) D1 h1 h2 (E8 _)))
 ·exact mP (w:=[32]) (rest:=d2++b) (n+6)
 ·refine aV (eX (ts:=[.int v,.int v2]) (aP (t:=.int v) (ts:=[.int v2]) (s1:=St [sv (.int v)] (d2++b) k) rfl (aP (s1:=St [sv (.int v)] b k) ?_ rfl)) rfl)
  exact cR (ts:=[.int 1,.int 9]) rfl (qb (n+5) D2 h3 h4 E.f)
theorem p2 {a c d:Nat}{w r:List Nat}(h:c≠d):pre (a::c::w) (a::d::r)=false:=by rw [fX];exact a8 h
theorem p6 {w r:List Nat}{c d:Nat}(h:c≠d):pre (115::119::97::112::32::c::w) (115::119::97::112::32::d::r)=false:=by
 rw [fX,fX,fX,fX,fX];exact a8 h
theorem sk {c d:Nat}{w' q':List Nat}(n:Nat) {r:List (Option C)}{A B:FS}{R:Res (Out × S)}(q:B (St r (d::q') k)=R) (h:c≠d:=by decide):ah (aQ (D.tB (aM (aE [(24,81)] (cN (n+8+1))) (vF 0) (k1 (cS (c::w'))))) A ao) B (St r (d::q') k)=R:=skip (n+8) (a8 h) q
theorem ym {x:DD}{b:List Nat}(E:Uy b) (h:x.ok):cN (n+10) 20 [.own 0] (SC (x.txt b) k)=.ok (x.val,SC b k):=by
 rw [w20]
 refine aS (s':=St [] b k) rfl ?_ rfl
 show ah _ _ (St [] (x.txt b) k)=_
 cases x with
 | drop=>exact hit (w:=[100,114,111,112]) (rest:=b) (n+8) (aV (eX (ts:=[]) rfl rfl))
 | print=>exact sk n (hit (w:=[112,114,105,110,116]) (rest:=b) (n+8) (aV (eX (ts:=[]) rfl rfl)))
 | done=>exact skip (n+8) (p2 (by decide)) (sk n (hit (w:=[100,111,110,101]) (rest:=b) (n+8) (aV (eX (ts:=[]) rfl rfl))))
 | tell=>exact sk n (sk n (sk n (hit (w:=[116,101,108,108]) (rest:=b) (n+8) (aV (eX (ts:=[]) rfl rfl)))))
 | say l=>exact sk n (sk n (sk n (sk n (hit (w:=[115,97,121,32]) (rest:=34::(l++34::b)) (n+8) (aV (eX (ts:=[.str l]) (aP (cR (ts:=[]) rfl (E9 (n+5) h)) rfl) rfl))))))
 | swap e w t l=>
  cases e with
  | true=>exact sk n (sk n (sk n (sk n (skip (n+8) (p2 (by decide)) (hit (w:=[115,119,97,112,32,101,118,101,114,121,32]) (rest:=Ux w l b) (n+8) (aV (cR (ts:=[.bl true]) rfl (swap_eq n h.1 h.2))))))))
  | false=>exact sk n (sk n (sk n (sk n (skip (n+8) (p2 (by decide)) (skip (n+8) (p6 (by decide)) (hit (w:=[115,119,97,112,32]) (rest:=Ux w l b) (n+8) (aV (cR (ts:=[.bl false]) rfl (swap_eq n h.1 h.2)))))))))
 | join d v=>exact sk n (sk n (sk n (sk n (sk n (sk n (sk n (hit (w:=[106,111,105,110,32]) (rest:=d++b) (n+8) (aV (eX (ts:=[.int v]) (aP (cR (ts:=[.int 2,.int 9]) rfl (qb (n+6) h.1 h.2.1 h.2.2 E.f)) rfl) rfl)))))))))
 | pile a=>exact sk n (skip (n+8) (p2 (by decide)) (sk n (sk n (sk n (sk n (sk n (sk n (hit (w:=[112,105,108,101,32]) (rest:=a++b) (n+8) (aV (cR (ts:=[]) rfl (KN n E h)))))))))))
 | pileN a d v=>exact sk n (skip (n+8) (p2 (by decide)) (sk n (sk n (sk n (sk n (sk n (sk n (hit (w:=[112,105,108,101,32]) (rest:=a++32::(d++b)) (n+8) (aV (cR (ts:=[]) rfl (E_ n E h.1 h.2.1 h.2.2.1 h.2.2.2)))))))))))
 | bring a=>exact sk n (sk n (sk n (sk n (sk n (sk n (sk n (sk n (sk n (hit (w:=[98,114,105,110,103,32]) (rest:=a++b) (n+8) (aV (eX (ts:=[.str a]) (aP (cR (ts:=[]) rfl (lV (n+6) h E.l)) rfl) rfl)))))))))))
 | go a=>exact sk n (sk n (sk n (sk n (sk n (sk n (sk n (sk n (sk n (sk n (hit (w:=[103,111,32]) (rest:=a++b) (n+8) (aV (eX (ts:=[.str a]) (aP (cR (ts:=[]) rfl (lV (n+6) h E.l)) rfl) rfl))))))))))))
 | add d v d2 v2=>exact sk n (sk n (sk n (sk n (sk n (sk n (sk n (sk n (sk n (sk n (sk n (seq1 (mP (w:=[97,100,100,32]) (rest:=d++32::(d2++b)) (n+7)) (aV (cR (ts:=[]) rfl (add_eq n E h.1.1 h.1.2.1 h.1.2.2 h.2.1 h.2.2.1 h.2.2.2))))))))))))))
end
def sO:List (List Nat):=[[114,111,119,32],[108,97,115,116],[47],[115,111,111,110,32],[102,114,111,109,32],[110,111,116,32],[101,110,100]]
def kO (rest:List Nat):Bool:=sO.any fun w=>pre w rest
theorem TF {c:Nat}{r:List Nat}(h:c≠114/\c≠108/\c≠47/\c≠115/\c≠102/\c≠110/\c≠101):kO (c::r)=false:=by
 obtain ⟨h1,h2,h3,h4,h5,h6,h7⟩:=h
 unfold kO sO
 simp only [i8,Bw,a8 (Ne.symm h1),a8 (Ne.symm h2),a8 (Ne.symm h3),a8 (Ne.symm h4),a8 (Ne.symm h5),a8 (Ne.symm h6),a8 (Ne.symm h7),GA]
theorem NF {d:Nat}{r:List Nat}(h:d≠111):kO (115::d::r)=false:=by
 unfold kO sO
 simp only [i8,Bw,p2 (Ne.symm h),a8 (show 114≠115 by decide),a8 (show 108≠115 by decide),a8 (show 47≠115 by decide),a8 (show 102≠115 by decide),a8 (show 110≠115 by decide),a8 (show 101≠115 by decide),GA]
theorem gq {w r:List Nat}(h:w∈sO):kO (w++r)=true:=Lp.mpr ⟨w,h,pre_app w r⟩
theorem Fb (x:DD) (b:List Nat):kO (x.txt b)=false:=by
 cases x with
 | say l=>exact NF (by decide)
 | swap e w t l=>cases e<;>exact NF (by decide)
 | _=>exact TF (by decide)
theorem Fc (x:CD) (b:List Nat):kO (x.txt b)=true:=by
 have rp:∀ (x:RP) (b:List Nat),kO (x.txt b)=true:=fun x b=>by
  cases x with
  | row d v=>exact gq (w:=[114,111,119,32]) (by decide)
  | like w t=>exact gq (w:=[47]) (by decide)
 have pc:∀ (x:PC) (b:List Nat),kO (x.txt b)=true:=fun x b=>by
  cases x with
  | last=>exact gq (w:=[108,97,115,116]) (by decide)
  | soon d v w t=>exact gq (w:=[115,111,111,110,32]) (by decide)
  | ft x y=>exact gq (w:=[102,114,111,109,32]) (by decide)
  | rp x=>exact rp x b
 cases x with
 | fin=>exact gq (w:=[101,110,100]) (by decide)
 | no x=>exact gq (w:=[110,111,116,32]) (by decide)
 | pc x=>exact pc x b
def prT (rest:List Nat):T->T
 | .str w=>.bl (pre w rest)
 | _=>.non
theorem nX (f:List Nat->Bool):∀ l:List (List Nat),boolsOf (l.map fun w=>T.bl (f w))=some (l.map f)
 | []=>rfl
 | w::l=>by
  show (boolsOf (l.map fun w=>T.bl (f w))).map _=_
  rw [nX f l];rfl
theorem any_eq {rest:List Nat}{k:Int}:D.tB (aK pI (k1 (bP (bj (gZ (cF (.tup [(.str [114,111,119,32]),(.str [108,97,115,116]),(.str [47]),(.str [115,111,111,110,32]),(.str [102,114,111,109,32]),(.str [110,111,116,32]),(.str [101,110,100])]))) 2 [0] (setG 1) dg (jB qv (aG M.P.tab 14 (vF 2)) (k1 (vF 1))))))) (St [none] rest k)=.ok (kO rest,St [none] rest k):=by
 have e:aK pI (k1 (bP (bj (gZ (cF (.tup [(.str [114,111,119,32]),(.str [108,97,115,116]),(.str [47]),(.str [115,111,111,110,32]),(.str [102,114,111,109,32]),(.str [110,111,116,32]),(.str [101,110,100])]))) 2 [0] (setG 1) dg (jB qv (aG M.P.tab 14 (vF 2)) (k1 (vF 1)))))) (St [none] rest k)=.ok (.bl (kO rest),St [none] rest k):=by
  refine cj (ts:=[.lst ((sO.map T.str).map (prT rest))]) (aP (ie (ic (ts:=sO.map T.str) (s1:=St [none] rest k) rfl (by decide) (gn fun t ht=>?_))) rfl) ?_
  ·obtain ⟨w,_,rfl⟩:=i9.mp ht
   exact ⟨[none,sv (.str w),sv (.own 0)],[none,sv (.str w),sv (.own 0)],rfl,rfl⟩
  ·have:(sO.map T.str).map (prT rest)=sO.map fun w=>T.bl (pre w rest):=by rw [kB];rfl
   rw [this]
   simp only [pI,Jw,nX]
   unfold kO
   rw [LY,Gz]
   rfl
 unfold D.tB
 rw [e]
 rfl
theorem adT {c:FT}{s s':S}(h:c s=.ok (false,s')):bz c s=.ok (true,s'):=by unfold bz;rw [h];rfl
theorem iW {c:FT}{s s':S}(h:c s=.ok (true,s')):bz c s=.ok (false,s'):=by unfold bz;rw [h];rfl
theorem AF {c d:FT}{s s1:S}{q:Res (Bool × S)}(h:c s=.ok (false,s1)) (h2:d s1=q):gz c d s=q:=by unfold gz;rw [h];exact h2
theorem adU {c:Nat}{g:Fn}{fl:FL}{s s':S}{ts:List T}{m':List Ob}(h:fl s=.ok (ts,s')) (k:g (.own s'.m.length::ts) (s'.m++[⟨c,[]⟩])=.ok (.non,m')):Ai c g fl s=.ok (.own s'.m.length,⟨s'.r,m'⟩):=by
 unfold Ai
 rw [h]
 refine Eq.trans (bK _ _) ?_
 dsimp only
 rw [k]
inductive LN where
 | mark (a:List Nat) | bare (x:DD) | full (c:CD) (x:DD)
def LN.ok:LN->Prop
 | .mark a=>j4 a
 | .bare x=>x.ok
 | .full c x=>c.ok/\x.ok
noncomputable def LN.txt:LN->List Nat->List Nat
 | .mark a,b=>109::97::114::107::32::(a++b)
 | .bare x,b=>x.txt b
 | .full c x,b=>c.txt (58::32::x.txt b)
def LN.cond:LN->T
 | .full c _=>c.val
 | _=>.obj 3 []
def LN.fY:LN->T
 | .mark a=>.obj 12 [.str a]
 | .bare x=>x.val
 | .full _ x=>x.val
noncomputable def LN.val (x:LN):T:=.obj 1 [x.cond,x.fY]
theorem adV (x:DD) (b w:List Nat):pre (109::w) (x.txt b)=false:=by
 cases x with
 | swap e w t l=>cases e<;>exact a8 (by decide)
 | _=>exact a8 (by decide)
theorem adW (x:CD) (b w:List Nat):pre (109::w) (x.txt b)=false:=by
 cases x with
 | fin=>exact a8 (by decide)
 | no x=>exact a8 (by decide)
 | pc x=>exact v5 (by decide)
theorem aa8 (b:List Nat):Tz (58::b):=fun c h=>by cases h;decide
theorem qc {x:LN}{b:List Nat}{k:Int}(E:Uy b) (h:x.ok):cN (n+12) 16 [.own 0] (SC (x.txt b) k)=.ok (x.val,SC b k):=by
 rw [w16]
 cases x with
 | mark a=>exact aS (s':=St [none] b k) rfl (hit (w:=[109,97,114,107,32]) (rest:=a++b) (n+10) (aV (eX (ts:=[.obj 3 [],.obj 12 [.str a]]) (aP (t:=.obj 3 []) rfl (aP (eX (ts:=[.str a]) (aP (cR (ts:=[]) rfl (lV (n+8) h E.l)) rfl) rfl) rfl)) rfl))) rfl
 | bare x=>
  refine aS (s':=St [none] b k) rfl (skip (n+10) (adV x b _) (ia (kZ (s':=St [none] (x.txt b) k) ?_ (aV (eX (ts:=[.obj 3 [],x.val]) (aP (t:=.obj 3 []) rfl (aP (cR (ts:=[]) rfl (ym (n+1) E h)) rfl)) rfl))))) rfl
  exact adT ((any_eq (rest:=x.txt b)).trans (by rw [Fb]))
 | full c x=>
  refine aS (s':=St [sv c.val] b k) rfl (skip (n+10) (adW c _ _) (seq1 (s':=St [none] (c.txt (58::32::x.txt b)) k) (dN (s':=St [none] (c.txt (58::32::x.txt b)) k) ?_ rfl) (seq1 (s':=St [sv c.val] (58::32::x.txt b) k) (dB (cR (ts:=[]) rfl (KL n h.1 (aa8 _)))) (seq1 (s':=St [sv c.val] (x.txt b) k) (mP (w:=[58,32]) (rest:=x.txt b) (n+9)) (aV (eX (ts:=[c.val,x.val]) (aP (t:=c.val) rfl (aP (cR (ts:=[]) rfl (ym (n+1) E h.2)) rfl)) rfl)))))) rfl
  exact iW ((any_eq (rest:=c.txt (58::32::x.txt b))).trans (by rw [Fc]))
theorem KO {row:List Nat}{k:Int}:cN (n+1) 79 [.own 0,.str row,.int k] [⟨24,[]⟩]=.ok (.non,SC row k):=by
 rw [w79];rfl
def lW (x:LN):Prop:=∀ n m,cN (n+7) 28 [x.cond,x.fY] m=.ok (.bl true,m)
theorem v8 {x:LN}{k:Int}(h:x.ok) (hs:lW x) (hw:noOwn x.val=true):cN (n+13) 15 [.str (x.txt []),.int k] m=.ok (x.val,m):=by
 rw [w15]
 refine aT (m':=SC [] k) rfl ?_ hw
 refine aS (s':=⟨[sv (.str (x.txt [])),sv (.int k),sv (.own 0),sv x.val],SC [] k⟩) rfl ?_ rfl
 refine seq1 (s':=⟨[sv (.str (x.txt [])),sv (.int k),sv (.own 0),none],SC (x.txt []) k⟩) ?_ (seq1 (s':=⟨[sv (.str (x.txt [])),sv (.int k),sv (.own 0),sv x.val],SC [] k⟩) ?_ (seq1 (s':=⟨[sv (.str (x.txt [])),sv (.int k),sv (.own 0),sv x.val],SC [] k⟩) (dN (s':=⟨[sv (.str (x.txt [])),sv (.int k),sv (.own 0),sv x.val],SC [] k⟩) ?_ rfl) rfl))
 ·refine dB (t:=.own 0) (s':=⟨[sv (.str (x.txt [])),sv (.int k),none,none],SC (x.txt []) k⟩) ?_
  exact adU (ts:=[.str (x.txt []),.int k]) (s':=⟨[sv (.str (x.txt [])),sv (.int k),none,none],[]⟩) rfl (KO (n+11))
 ·exact dB (aF (ts:=[.own 0]) (s':=⟨[sv (.str (x.txt [])),sv (.int k),sv (.own 0),none],SC (x.txt []) k⟩) rfl (qc n adS h))
 ·have e:ai (cN (n+12) 28) [] (k2 (aG M.P.tab 1 (vF 3)) (aG M.P.tab 2 (vF 3))) ⟨[sv (.str (x.txt [])),sv (.int k),sv (.own 0),sv x.val],SC [] k⟩=.ok (.bl true,⟨[sv (.str (x.txt [])),sv (.int k),sv (.own 0),sv x.val],SC [] k⟩):=aF (ts:=[x.cond,x.fY]) (s':=⟨[sv (.str (x.txt [])),sv (.int k),sv (.own 0),sv x.val],SC [] k⟩) rfl (hs (n+5) _)
  refine AF (s1:=⟨[sv (.str (x.txt [])),sv (.int k),sv (.own 0),sv x.val],SC [] k⟩) rfl (iW ?_)
  unfold D.tB
  rw [e];rfl
theorem dQ {g:FG}{b:FS}{t:T}{ts:List T}{s s1:S}{r:List (Option C)}{q:Res (Out × S)}(h:g t s.r=some r) (hb:b ⟨r,s.m⟩=.ok (.nx,s1)) (k:c_ g b ts s1=q):c_ g b (t::ts) s=q:=by
 unfold c_
 rw [h]
 refine Eq.trans (bK _ _) ?_
 rw [hb]
 exact k
theorem mY {src:FL}{g:FG}{b:FS}{s s1:S}{ts:List T}{q:Res (Out × S)}(h:src s=.ok (ts,s1)) (k:c_ g b ts s1=q):jr src g b s=q:=by unfold jr;rw [h];exact k
theorem mZ {i:Nat}{a:FE}{s s1:S}{NG ts:List T}{t:T}(h0:s.r[i]?=some (some (.ol NG))) (h:a s=.ok (t,s1)) (h2:s1.r[i]?=some (some (.ol ts))) (z:ts.length<1000000):dZ i a s=.ok (.nx,i7 s1 i (.ol (ts++[t]))):=by
 unfold dZ
 rw [h0]
 refine Eq.trans (bK NG _) ?_
 rw [h]
 refine Eq.trans (bK _ _) ?_
 dsimp only
 rw [h2]
 refine Eq.trans (bK ts _) ?_
 rw [jI z]
 rfl
structure Lk (x:LN):Prop where
 ok:x.ok
 ms:lW x
 no:noOwn x.val=true
abbrev dG (xs:List LN):List T:=xs.map fun x=>.str (x.txt [])
abbrev aW (xs:List LN):List T:=xs.map LN.val
theorem sP (n:Nat) {R:Option C}:∀ (xs:List LN) (j:Nat) (done:List T) (u v:Option C),(∀ x∈xs,Lk x)->j+xs.length<=25->done.length<=j->∃ u' v',c_ (eG [2,3]) (ah (aQ (D.aZ (a_ (aJ .Gt) (vF 2) (cI 24))) bM ao) (dZ 1 (ai (cN (n+13) 15) [] (k2 (vF 3) (vF 2))))) (fV (j:Nat) (dG xs)) ⟨[R,some (.ol done),u,v],[]⟩=.ok (.nx,⟨[R,some (.ol (done++aW xs)),u',v'],[]⟩)
 | [],j,done,u,v,_,_,_=>⟨u,v,by rw [show done++aW []=done from dH _];rfl⟩
 | x::xs,j,done,u,v,h,hj,hd=>by
  have hx:=h x (eE ..)
  rw [cQ] at hj
  obtain ⟨u',v',e⟩:=sP n xs (j+1) (done++[x.val]) (sv (.int (j:Nat))) (sv (.str (x.txt []))) (fun y hy=>h y (eZ _ hy)) (by omega) (by rw [bJ];show done.length+1<=_;omega)
  refine ⟨u',v',dQ (r:=[R,some (.ol done),sv (.int (j:Nat)),sv (.str (x.txt []))]) rfl (seq1 (s':=⟨[R,some (.ol done),sv (.int (j:Nat)),sv (.str (x.txt []))],[]⟩) (dN (s':=⟨[R,some (.ol done),sv (.int (j:Nat)),sv (.str (x.txt []))],[]⟩) ?_ rfl) (mZ (NG:=done) (ts:=done) rfl (aF (ts:=[.str (x.txt []),.int (j:Nat)]) (s':=⟨[R,some (.ol done),sv (.int (j:Nat)),sv (.str (x.txt []))],[]⟩) rfl (v8 n hx.ok hx.ms hx.no)) rfl (by omega))) ?_⟩
  ·have g:decide ((24:Int)<(j:Nat))=false:=decide_eq_false (by omega)
   simp only [ev,d8,bK,dh,sM,g]
  ·have e2:done++aW (x::xs)=done++[x.val]++aW xs:=by simp
   rw [e2]
   exact e
theorem dO:∀ (a:List LN),(∀ x∈a,Lk x)->aB (aW a)=true
 | [],_=>rfl
 | x::a,h=>by
  show (noOwn x.val&&aB (aW a))=true
  rw [(h x (eE ..)).no,dO a fun y hy=>h y (eZ _ hy)];rfl
theorem ko:∀ (a:List LN),aB (dG a)=true
 | []=>rfl
 | x::a=>by
  show (true&&aB (dG a))=true
  rw [ko a];rfl
theorem sQ {xs:List LN}(h:∀ x∈xs,Lk x) (hl:xs.length<=24):cN (n+14) 32 [.lst (dG xs)] m=.ok (.lst (aW xs),m):=by
 rw [w32]
 obtain ⟨u,v,e⟩:=sP n (R:=sv (.lst (dG xs))) xs 1 [] none none h (by omega) (gD _)
 refine aT (m':=[]) ?_ (aS (s':=⟨[sv (.lst (dG xs)),sv (.lst (aW xs)),u,v],[]⟩) rfl (seq1 (s':=⟨[sv (.lst (dG xs)),some (.ol []),none,none],[]⟩) rfl (seq1 (mY (ts:=fV 1 (dG xs)) (s1:=⟨[sv (.lst (dG xs)),some (.ol []),none,none],[]⟩) rfl e) rfl)) rfl) ?_
 ·show (aB (dG xs)&&true)=true
  rw [ko];rfl
 ·exact dO xs h
def LN.name:LN->Option (List Nat)
 | .mark a=>some a
 | _=>none
def LN.jJ:LN->Option (List Nat)
 | .bare (.go a)=>some a
 | .full _ (.go a)=>some a
 | _=>none
theorem Fd (x:LN):cz M.P.sub [12] x.fY=some (.bl x.name.isSome):=by
 cases x with
 | mark a=>rfl
 | bare d=>cases d<;>rfl
 | full c d=>cases d<;>rfl
theorem adX (x:LN):cz M.P.sub [21] x.fY=some (.bl x.jJ.isSome):=by
 cases x with
 | mark a=>rfl
 | bare d=>cases d<;>rfl
 | full c d=>cases d<;>rfl
def marks (xs:List LN):List (List Nat):=xs.filterMap LN.name
abbrev gG (l:List (List Nat)):List Ky:=l.map Ky.s
abbrev gA (l:List (List Nat)):List T:=l.map fun _=>T.bl true
theorem v9 {a:List Nat}{l:List (List Nat)}:(Ky.s a∈gG l) ↔ a∈l:=by
 constructor
 ·intro h
  obtain ⟨b,h1,h2⟩:=i9.mp h
  cases h2
  exact h1
 ·exact fun h=>i9.mpr ⟨a,h,rfl⟩
theorem ifY {c:FT}{A B:FS}{s s':S}{q:Res (Out × S)}(h:c s=.ok (true,s')) (k:A s'=q):aQ c A B s=q:=kZ h k
theorem cH {g:T->Option T}{a:FE}{s:S}{t:T}{b:Bool}(h:a s=.ok (t,s)) (k:g t=some (.bl b)):D.tB (bG g a) s=.ok (b,s):=by
 unfold D.tB bG
 rw [h]
 refine Eq.trans (congrArg (fun z=>Res.bind z _) (bK _ _)) ?_
 dsimp only
 rw [k]
 rfl
theorem lX {R:Option C}:∀ (xs:List LN) (j:Nat) (done:List (List Nat)) (u v:Option C),(done++marks xs).Nodup->done.length+xs.length<=100->∃ u' v',c_ (eG [2,3]) (aQ (D.tB (bG (cz M.P.sub [12]) (aG M.P.tab 2 (vF 3)))) (ah (aQ (D.aZ (Gh .In false 1 (aG M.P.tab 9 (aG M.P.tab 2 (vF 3))))) bM ao) (xO 1 (aG M.P.tab 9 (aG M.P.tab 2 (vF 3))) (cF (.bl true)))) ao) (fV (j:Nat) (aW xs)) ⟨[R,some (.od (gG done) (gA done)),u,v],[]⟩=.ok (.nx,⟨[R,some (.od (gG (done++marks xs)) (gA (done++marks xs))),u',v'],[]⟩)
 | [],j,done,u,v,_,_=>⟨u,v,by rw [show done++marks []=done from dH _];rfl⟩
 | x::xs,j,done,u,v,hn,hl=>by
  rw [cQ] at hl
  cases hx:x.name with
  | none=>
   have em:marks (x::xs)=marks xs:=by unfold marks;rw [Bc,hx]
   rw [em] at hn ⊢
   obtain ⟨u',v',e⟩:=lX xs (j+1) done (sv (.int (j:Nat))) (sv x.val) hn (by omega)
   refine ⟨u',v',dQ (r:=[R,some (.od (gG done) (gA done)),sv (.int (j:Nat)),sv x.val]) rfl (dN (s':=⟨[R,some (.od (gG done) (gA done)),sv (.int (j:Nat)),sv x.val],[]⟩) (cH (t:=x.fY) rfl (by rw [Fd,hx];rfl)) rfl) e⟩
  | some a=>
   have ex:x=.mark a:=by
    cases x with
    | mark b=>cases hx;rfl
    | bare d=>cases hx
    | full c d=>cases hx
   subst ex
   have em:marks (.mark a::xs)=a::marks xs:=rfl
   rw [em] at hn ⊢
   have hna:a ∉ done:=fun z=>(Bg.mp hn).2.2 a z a (eE ..) rfl
   have eq:done++a::marks xs=(done++[a])++marks xs:=by simp
   rw [eq] at hn ⊢
   obtain ⟨u',v',e⟩:=lX xs (j+1) (done++[a]) (sv (.int (j:Nat))) (sv (LN.mark a).val) hn (by rw [bJ];show done.length+1+xs.length<=100;omega)
   refine ⟨u',v',dQ (r:=[R,some (.od (gG done) (gA done)),sv (.int (j:Nat)),sv (LN.mark a).val]) rfl (ifY (s':=⟨[R,some (.od (gG done) (gA done)),sv (.int (j:Nat)),sv (LN.mark a).val],[]⟩) (cH (t:=(LN.mark a).fY) rfl (by rw [Fd,hx];rfl)) (seq1 (s':=⟨[R,some (.od (gG done) (gA done)),sv (.int (j:Nat)),sv (LN.mark a).val],[]⟩) (dN (s':=⟨[R,some (.od (gG done) (gA done)),sv (.int (j:Nat)),sv (LN.mark a).val],[]⟩) ?_ rfl) ?_)) e⟩
   ·show Res.ok (decide (Ky.s a∈gG done),_)=_
    rw [decide_eq_false (fun z=>hna (v9.mp z))]
   ·have hk:jD (gG done) (gA done) (.s a) (.bl true)=(gG (done++[a]),gA (done++[a])):=by
     unfold jD
     rw [if_neg (fun z=>hna (v9.mp z))]
     simp [gG,gA]
    show Res.bind (cK (gd ((gG done).length<1000000) ())) _=_
    rw [jI (by rw [cT];omega)]
    show Res.ok (Out.nx,i7 _ 1 (.od (jD (gG done) (gA done) (.s a) (.bl true)).1 (jD (gG done) (gA done) (.s a) (.bl true)).2))=_
    rw [hk]
    rfl
theorem sR {xs:List LN}(hv:∀ x∈xs,Lk x) (h:(marks xs).Nodup) (hl:xs.length<=24):cN (n+1) 33 [.lst (aW xs)] m=.ok (.dX (gG (marks xs)) (gA (marks xs)),m):=by
 rw [w33]
 obtain ⟨u,v,e⟩:=lX (R:=sv (.lst (aW xs))) xs 1 [] none none h (by show 0+_<=_;omega)
 refine aT (m':=[]) ?_ (aS (s':=⟨[sv (.lst (aW xs)),sv (.dX (gG (marks xs)) (gA (marks xs))),u,v],[]⟩) rfl (seq1 (s':=⟨[sv (.lst (aW xs)),some (.od [] []),none,none],[]⟩) rfl (seq1 (mY (ts:=fV 1 (aW xs)) (s1:=⟨[sv (.lst (aW xs)),some (.od [] []),none,none],[]⟩) rfl e) rfl)) rfl) ?_
 ·show (aB (aW xs)&&true)=true
  rw [dO xs hv];rfl
 ·have:∀ l:List (List Nat),aB (gA l)=true:=fun l=>by
   induction l with
   | nil=>rfl
   | cons a l ih=>show (true&&aB (gA l))=true;rw [ih];rfl
  exact this _
theorem AG {x:LN}{a:List Nat}(h:x.jJ=some a):x.fY=.obj 21 [.str a]:=by
 cases x with
 | mark b=>cases h
 | bare d=>cases d<;>first | (cases h;done) | (cases h;rfl)
 | full c d=>cases d<;>first | (cases h;done) | (cases h;rfl)
theorem nY {R:Option C}{ms:List (List Nat)}:∀ (xs:List LN) (j:Nat) (u v:Option C),(∀ x∈xs,∀ a,x.jJ=some a->a∈ms)->∃ u' v',c_ (eG [2,3]) (aQ (dw (D.tB (bG (cz M.P.sub [21]) (aG M.P.tab 2 (vF 3)))) (D.aZ (a_ (aJ .NotIn) (aG M.P.tab 9 (aG M.P.tab 2 (vF 3))) (vF 1)))) bM ao) (fV (j:Nat) (aW xs)) ⟨[R,sv (.dX (gG ms) (gA ms)),u,v],[]⟩=.ok (.nx,⟨[R,sv (.dX (gG ms) (gA ms)),u',v'],[]⟩)
 | [],j,u,v,_=>⟨u,v,rfl⟩
 | x::xs,j,u,v,h=>by
  obtain ⟨u',v',e⟩:=nY (R:=R) xs (j+1) (sv (.int (j:Nat))) (sv x.val) fun y hy=>h y (eZ _ hy)
  refine ⟨u',v',dQ (r:=[R,sv (.dX (gG ms) (gA ms)),sv (.int (j:Nat)),sv x.val]) rfl (dN (s':=⟨[R,sv (.dX (gG ms) (gA ms)),sv (.int (j:Nat)),sv x.val],[]⟩) ?_ rfl) e⟩
  unfold dw
  rw [cH (s:=⟨[R,sv (.dX (gG ms) (gA ms)),sv (.int (j:Nat)),sv x.val],[]⟩) (t:=x.fY) (b:=x.jJ.isSome) rfl (adX x)]
  refine Eq.trans (bK _ _) ?_
  cases hg:x.jJ with
  | none=>rfl
  | some a=>
   have ha:=h x (eE ..) a hg
   have hd:=AG hg
   show Res.bind (a_ (aJ .NotIn) (aG M.P.tab 9 (aG M.P.tab 2 (vF 3))) (vF 1) ⟨[R,sv (.dX (gG ms) (gA ms)),sv (.int (j:Nat)),sv (.obj 1 [x.cond,x.fY])],[]⟩) _=_
   rw [hd]
   show Res.ok (!decide (Ky.s a∈gG ms),_)=_
   rw [decide_eq_true (v9.mpr ha)]
   show Res.ok (false,(⟨[R,sv (.dX (gG ms) (gA ms)),sv (.int (j:Nat)),sv (.obj 1 [x.cond,.obj 21 [.str a]])],[]⟩:S))=Res.ok (false,⟨[R,sv (.dX (gG ms) (gA ms)),sv (.int (j:Nat)),sv (.obj 1 [x.cond,x.fY])],[]⟩)
   rw [hd]
theorem refuse_eq {xs:List LN}{ms:List (List Nat)}(hv:∀ x∈xs,Lk x) (h:∀ x∈xs,∀ a,x.jJ=some a->a∈ms):cN (n+1) 34 [.lst (aW xs),.dX (gG ms) (gA ms)] m=.ok (.non,m):=by
 rw [w34]
 obtain ⟨u,v,e⟩:=nY (R:=sv (.lst (aW xs))) xs 1 none none h
 refine aT (m':=[]) ?_ (aaW (s':=⟨[sv (.lst (aW xs)),sv (.dX (gG ms) (gA ms)),u,v],[]⟩) rfl (mY (ts:=fV 1 (aW xs)) (s1:=⟨[sv (.lst (aW xs)),sv (.dX (gG ms) (gA ms)),none,none],[]⟩) rfl e) rfl) rfl
 have:∀ l:List (List Nat),aB (gA l)=true:=fun l=>by
  induction l with
  | nil=>rfl
  | cons a l ih=>show (true&&aB (gA l))=true;rw [ih];rfl
 show (aB (aW xs)&&(aB (gA ms)&&true))=true
 rw [dO xs hv,this];rfl
theorem gu {c:Nat}:∀ {p q:List Nat},c ∉ p->bg c (p++c::q)=p::bg c q
 | [],q,_=>by show bg c (c::q)=_;rw [bg,if_pos rfl]
 | d::p,q,h=>by
  have hd:d≠c:=fun e=>h (by rw [e];exact eE ..)
  show bg c (d::(p++c::q))=_
  rw [bg,if_neg hd,gu (fun z=>h (eZ _ z))]
theorem lY {c:Nat}:∀ {ls:List (List Nat)},ls≠[]->(∀ l∈ls,c ∉ l)->bg c (bh [c] ls)=ls
 | [],h,_=>absurd rfl h
 | [a],_,h=>iS (h a (eE ..))
 | a::b::r,_,h=>by
  show bg c (a++[c]++bh [c] (b::r))=_
  rw [ky]
  show bg c (a++c::bh [c] (b::r))=_
  rw [gu (h a (eE ..)),lY (by simp) fun l hl=>h l (eZ _ hl)]
theorem kq {c:Nat}:∀ {ls:List (List Nat)},ls≠[]->(∀ l∈ls,c ∉ l)->bg c (bh [c] ls++[c])=ls++[[]]
 | [],h,_=>absurd rfl h
 | [a],_,h=>by
  show bg c (a++c::[])=_
  rw [gu (h a (eE ..))];rfl
 | a::b::r,_,h=>by
  show bg c (a++[c]++bh [c] (b::r)++[c])=_
  rw [ky,ky]
  show bg c (a++c::(bh [c] (b::r)++[c]))=_
  rw [gu (h a (eE ..)),kq (by simp) fun l hl=>h l (eZ _ hl)]
  rfl
theorem yn {α:Type}(xs:List α) (x:α):atT (xs++[x]) (-1)=some x:=by
 unfold atT
 rw [if_neg (by decide),if_pos (by rw [bJ,yG];omega)]
 have:(-1+((xs++[x]).length:Int)).toNat=xs.length:=by rw [bJ,yG];omega
 rw [this]
 simp
theorem lZ {α:Type}(xs:List α) (x:α):bD (xs++[x]) none (some (-1))=xs:=by
 unfold bD fm
 dsimp only
 rw [if_pos (by decide)]
 have:(-1+((xs++[x]).length:Int)).toNat=xs.length:=by rw [bJ,yG];omega
 rw [this]
 simp
theorem Ff:kI (.int 1)=some (.int (-1)):=rfl
theorem ig:∀ (l:List (List Nat)),aB (l.map T.str)=true
 | []=>rfl
 | x::a=>by
  show (true&&aB (a.map T.str))=true
  rw [ig a];rfl
theorem TH (a b:T):aL [a,b]=some (.tup [a,b]):=jI (by show 2<=1000;decide)
theorem Fg (a b c:T):aL [a,b,c]=some (.tup [a,b,c]):=jI (by show 3<=1000;decide)
theorem KP {ls:List (List Nat)}{last:List Nat}(h:∀ l∈ls++[last],10 ∉ l) (h0:last≠[]) (hz:(bh [10] (ls++[last])).length<=100000):cN (n+1) 30 [.str (bh [10] (ls++[last]))] m=.ok (.tup [.lst ((ls++[last]).map T.str),.bl false],m):=by
 rw [w30]
 refine aT (m':=[]) rfl (aS (s':=⟨[sv (.str (bh [10] (ls++[last]))),sv (.lst ((ls++[last]).map T.str))],[]⟩) rfl (seq1 (s':=⟨[sv (.str (bh [10] (ls++[last]))),sv (.lst ((ls++[last]).map T.str))],[]⟩) ?_ (seq1 (s':=⟨[sv (.str (bh [10] (ls++[last]))),sv (.lst ((ls++[last]).map T.str))],[]⟩) (dN (s':=⟨[sv (.str (bh [10] (ls++[last]))),sv (.lst ((ls++[last]).map T.str))],[]⟩) ?_ rfl) (aV (cj (ts:=[.lst ((ls++[last]).map T.str),.bl false]) rfl (TH _ _))))) rfl) ?_
 ·have e:splitM (bh [10] (ls++[last])) [.str [10]]=some (.lst ((ls++[last]).map T.str)):=by
   show gd _ _=_
   rw [jI hz,lY (by simp) h]
  show aA 1 (jB splitM (vF 0) (k1 (cS [10]))) ⟨[sv (.str (bh [10] (ls++[last]))),none],[]⟩=_
  simp only [ev,d8,bK,dh,e]
 ·have e:gi (.lst ((ls++[last]).map T.str)) (.int (-1))=some (.str last):=by
   show atT _ (-1)=_
   rw [oG];exact yn _ _
  simp only [ev,d8,bK,dh,Ff,e,kN]
  rw [decide_eq_false h0]
 ·show (aB ((ls++[last]).map T.str)&&(true&&true))=true
  rw [ig];rfl
theorem KQ {ls:List (List Nat)}(h:∀ l∈ls,10 ∉ l) (h0:ls≠[]) (hz:(bh [10] ls++[10]).length<=100000):cN (n+1) 30 [.str (bh [10] ls++[10])] m=.ok (.tup [.lst (ls.map T.str),.bl true],m):=by
 rw [w30]
 refine aT (m':=[]) rfl (aS (s':=⟨[sv (.str (bh [10] ls++[10])),sv (.lst ((ls++[[]]).map T.str))],[]⟩) rfl (seq1 (s':=⟨[sv (.str (bh [10] ls++[10])),sv (.lst ((ls++[[]]).map T.str))],[]⟩) ?_ (ia (kZ (s':=⟨[sv (.str (bh [10] ls++[10])),sv (.lst ((ls++[[]]).map T.str))],[]⟩) ?_ (aV (cj (ts:=[.lst (ls.map T.str),.bl true]) ?_ (TH _ _)))))) rfl) ?_
 ·have e:splitM (bh [10] ls++[10]) [.str [10]]=some (.lst ((ls++[[]]).map T.str)):=by
   show gd _ _=_
   rw [jI hz,kq h0 h]
  show aA 1 (jB splitM (vF 0) (k1 (cS [10]))) ⟨[sv (.str (bh [10] ls++[10])),none],[]⟩=_
  simp only [ev,d8,bK,dh,e]
 ·have e:gi (.lst ((ls++[[]]).map T.str)) (.int (-1))=some (.str []):=by
   show atT _ (-1)=_
   rw [oG];exact yn _ _
  simp only [ev,d8,bK,dh,Ff,e,kN,decide_true]
 ·have e:bD ((ls++[[]]).map T.str) none (some (-1))=ls.map T.str:=by
   rw [oG];exact lZ _ _
  simp only [ev,d8,bK,dh,Ff,Dv,e]
 ·show (aB (ls.map T.str)&&(true&&true))=true
  rw [ig];rfl
theorem aD {g:T->T->Option T}{a b:FE}{s s1 s2:S}{t u v:T}(h:a s=.ok (t,s1)) (h2:b s1=.ok (u,s2)) (k:g t u=some v):a_ g a b s=.ok (v,s2):=by
 unfold a_
 rw [h]
 refine Eq.trans (bK _ _) ?_
 dsimp only
 rw [h2]
 refine Eq.trans (bK _ _) ?_
 dsimp only
 rw [k]
 rfl
theorem yo {xs:List LN}{text:List Nat}{b:Bool}(hv:∀ x∈xs,Lk x) (hl:xs.length<=24) (hn:(marks xs).Nodup) (hg:∀ x∈xs,∀ a,x.jJ=some a->a∈marks xs) (hc:∀ m,cN (n+14) 30 [.str text] m=.ok (.tup [.lst (dG xs),.bl b],m)):cN (n+15) 31 [.str text] m=.ok (.obj 0 [.lst (aW xs)],m):=by
 rw [w31]
 refine aT (m':=[]) rfl (aS (s':=⟨[sv (.str text),sv (.lst (aW xs)),sv (.dX (gG (marks xs)) (gA (marks xs)))],[]⟩) rfl (seq1 (s':=⟨[sv (.str text),sv (.lst (aW xs)),none],[]⟩) ?_ (seq1 (s':=⟨[sv (.str text),sv (.lst (aW xs)),sv (.dX (gG (marks xs)) (gA (marks xs)))],[]⟩) ?_ (seq1 (s':=⟨[sv (.str text),sv (.lst (aW xs)),sv (.dX (gG (marks xs)) (gA (marks xs)))],[]⟩) ?_ rfl))) rfl) ?_
 ·refine Eq.trans (dB (t:=.lst (aW xs)) (s':=⟨[sv (.str text),none,none],[]⟩) (aF (ts:=[.lst (dG xs)]) (s':=⟨[sv (.str text),none,none],[]⟩) (aP (t:=.lst (dG xs)) (s1:=⟨[sv (.str text),none,none],[]⟩) ?_ rfl) (sQ n hv hl))) rfl
  have e:ai (cN (n+14) 30) [] (k1 (vF 0)) ⟨[sv (.str text),none,none],[]⟩=.ok (.tup [.lst (dG xs),.bl b],⟨[sv (.str text),none,none],[]⟩):=aF (ts:=[.str text]) (s':=⟨[sv (.str text),none,none],[]⟩) rfl (hc _)
  exact aD e rfl rfl
 ·exact dB (aF (ts:=[.lst (aW xs)]) (s':=⟨[sv (.str text),sv (.lst (aW xs)),none],[]⟩) rfl (sR (n+13) hv hn hl))
 ·have e:ai (cN (n+14) 34) [] (k2 (vF 1) (vF 2)) ⟨[sv (.str text),sv (.lst (aW xs)),sv (.dX (gG (marks xs)) (gA (marks xs)))],[]⟩=.ok (.non,⟨[sv (.str text),sv (.lst (aW xs)),sv (.dX (gG (marks xs)) (gA (marks xs)))],[]⟩):=aF (ts:=[.lst (aW xs),.dX (gG (marks xs)) (gA (marks xs))]) (s':=⟨[sv (.str text),sv (.lst (aW xs)),sv (.dX (gG (marks xs)) (gA (marks xs)))],[]⟩) rfl (refuse_eq (n+13) hv hg)
  unfold cX
  rw [e]
  rfl
 ·show (aB (aW xs)&&true)=true
  rw [dO xs hv];rfl
def npl:List Nat:=[94,36,46,91,93,42,43,63,47]
def AH (c:Nat):Bool:=decide (c∈gp)&&!decide (c∈npl)
theorem aa9 (c:Nat) (l:List Nat):aJ .NotIn (.str [c]) (.str l)=some (.bl (!decide (c∈l))):=rfl
theorem sU {a b:FE}{s s1:S}{x y:Bool}(h:a s=.ok (.bl x,s1)) (h2:x=true->b s1=.ok (.bl y,s1)):dI a b s=.ok (.bl (x&&y),s1):=by
 unfold dI
 rw [h]
 refine Eq.trans (bK _ _) ?_
 cases x with
 | true=>exact h2 rfl
 | false=>rfl
theorem v_ {c:Nat}:cN (n+1) 2 [.str [c]] m=.ok (.bl (AH c),m):=by
 rw [w2]
 refine aT (m':=[]) rfl (aS (s':=⟨[sv (.str [c])],[]⟩) rfl (aV (sU (x:=decide (c∈gp)) (y:=!decide (c∈npl)) ?_ fun _=>?_)) rfl) rfl
 ·exact aD rfl rfl (E5 c gp)
 ·exact aD rfl rfl (aa9 c npl)
theorem qe (a b:Int):aJ .Eq (.int a) (.int b)=some (.bl (decide (a=b))):=rfl
theorem adY (a b:Int):aJ .NotEq (.int a) (.int b)=some (.bl (!decide (a=b))):=rfl
def sV (sg:List Nat) (ot:Bool):Prop:=ot=true\/∀ c,sg=[c]->AH c=false
theorem Fi {sg:List Nat}{ot:Bool}(h:sV sg ot):cN (n+2) 9 [.str sg,.bl ot] m=.ok (.bl false,m):=by
 rw [w9]
 refine aT (m':=[]) rfl (aS (s':=⟨[sv (.str sg),sv (.bl ot)],[]⟩) (t:=.bl false) rfl (aV ?_) rfl) rfl
 have e:=sU (a:=rH (vF 1)) (b:=dI (oE (aK ba (k1 (vF 0))) (cI 1)) (ai (cN (n+1) 2) [] (k1 (vF 0)))) (s:=⟨[sv (.str sg),sv (.bl ot)],[]⟩) (s1:=⟨[sv (.str sg),sv (.bl ot)],[]⟩) (x:=!ot) (y:=false) rfl fun ho=>?_
 ·rw [wC] at e
  exact e
 ·have e2:=sU (a:=oE (aK ba (k1 (vF 0))) (cI 1)) (b:=ai (cN (n+1) 2) [] (k1 (vF 0))) (s:=⟨[sv (.str sg),sv (.bl ot)],[]⟩) (s1:=⟨[sv (.str sg),sv (.bl ot)],[]⟩) (x:=decide ((sg.length:Int)=1)) (y:=false) rfl fun hx=>?_
  ·rw [wC] at e2
   exact e2
  ·have hl:sg.length=1:=by have:=of_decide_eq_true hx;omega
   obtain ⟨c,rfl⟩:=List.length_eq_one_iff.mp hl
   have hp:AH c=false:=by
    rcases h with h | h
    ·rw [h] at ho;cases ho
    ·exact h c rfl
   have:=aF (ds:=[]) (ts:=[.str [c]]) (s':=⟨[sv (.str [c]),sv (.bl ot)],[]⟩) (fl:=k1 (vF 0)) (s:=⟨[sv (.str [c]),sv (.bl ot)],[]⟩) rfl (v_ n (c:=c) (m:=[]))
   rw [hp] at this
   exact this
theorem sW:∀ (l bX:List Nat),(∀ c∈l,c ∉ bX)->l.Nodup->(Pf.gy bX l).length=bX.length+l.length
 | [],bX,_,_=>rfl
 | c::l,bX,h,hn=>by
  rw [Pf.gy,if_neg (h c (eE ..)),sW l (c::bX) (fun d hd z=>?_) (ku.mp hn).2]
  ·rw [cQ,cQ];omega
  ·rcases cA.mp z with rfl | z
   ·exact (ku.mp hn).1 hd
   ·exact h d (eZ _ hd) z
structure Sg (sg:List Nat):Prop where
 ne:sg≠[]
 lJ:sg.length<=12
 nd:sg.Nodup
 mem:∀ c∈sg,c∈gp/\c≠93/\c≠94/\c≠47/\c<128
def TJ:T->T:=fun _=>.bl false
theorem sX:∀ (l:List T),boolsOf (l.map TJ)=some (l.map fun _=>false)
 | []=>rfl
 | _::l=>by
  show (boolsOf (l.map TJ)).map _=_
  rw [sX l];rfl
abbrev s8 (ins:List Nat) (mn:Nat) (ot:Bool) (sg:List Nat):S:=⟨[sv (.str ins),sv (.str [mn]),sv (.bl ot),sv (.str sg)],[]⟩
theorem sY {sg ins:List Nat}{ot:Bool}{mn:Nat}(g:Sg sg) (hs:sV sg ot) (hi:ins=if ot then 94::sg else sg):cN (n+3) 8 [.str ins,.str [mn]] m=.ok (.tup [.str sg,.bl ot,.str [mn]],m):=by
 have hp:pre [94] ins=ot:=by
  subst hi
  cases ot with
  | true=>exact pre_app [94] sg
  | false=>
   cases sg with
   | nil=>exact absurd rfl g.ne
   | cons c l=>exact a8 (Ne.symm (g.mem c (eE ..)).2.2.1)
 have hc:ot=true->bD ins (some 1) none=sg:=fun ho=>by
  subst hi
  rw [ho]
  exact ib [94] sg
 rw [w8]
 refine aT (m':=[]) rfl (aS (s':=s8 ins mn ot sg) rfl (seq1 (s':=⟨[sv (.str ins),sv (.str [mn]),sv (.bl ot),none],[]⟩) ?_ (seq1 (s':=s8 ins mn ot sg) ?_ (seq1 (s':=s8 ins mn ot sg) (dN (s':=s8 ins mn ot sg) ?_ rfl) (seq1 (s':=s8 ins mn ot sg) (dN (s':=s8 ins mn ot sg) ?_ rfl) (seq1 (s':=s8 ins mn ot sg) (dN (s':=s8 ins mn ot sg) ?_ rfl) (seq1 (s':=s8 ins mn ot sg) (dN (s':=s8 ins mn ot sg) ?_ rfl) (aV (cj (ts:=[.str sg,.bl ot,.str [mn]]) rfl (Fg _ _ _))))))))) rfl) rfl
 ·show aA 2 (jB qv (vF 0) (k1 (cS [94]))) ⟨[sv (.str ins),sv (.str [mn]),none,none],[]⟩=_
  simp only [ev,d8,bK,dh,qv,hp]
 ·cases ot with
  | true=>
   show Res.ok (Out.nx,i7 _ 3 (.val (.str (bD ins (some 1) none))))=_
   rw [hc rfl];rfl
  | false=>
   rw [if_neg eK] at hi
   subst hi
   rfl
 ·have g1:decide (sg=[])=false:=decide_eq_false g.ne
  have g2:decide ((12:Int)<(sg.length:Nat))=false:=decide_eq_false (by have:=g.lJ;omega)
  simp only [gz,ev,d8,bK,dh,kN,g1,ba,iO,sM,g2,BD,if_false]
 ·have e:aK pI (k1 (bP (bj (gZ (vF 3)) 2 [] (setG 1) dg (a_ (aJ .In) (vF 1) (cS [93,94,47]))))) (s8 ins mn ot sg)=.ok (.bl false,s8 ins mn ot sg):=by
   refine cj (ts:=[.lst ((sg.map fun c=>T.str [c]).map TJ)]) (aP (ie (ic (ts:=sg.map fun c=>T.str [c]) (s1:=s8 ins mn ot sg) rfl (by rw [cT];have:=g.lJ;omega) (gn fun t ht=>?_))) rfl) ?_
   ·obtain ⟨c,Ue,rfl⟩:=i9.mp ht
    obtain ⟨_,h1,h2,h3,_⟩:=g.mem c Ue
    refine ⟨[none,sv (.str [c])],[none,sv (.str [c])],rfl,?_⟩
    have:decide (c∈[93,94,47])=false:=decide_eq_false (by simp [h1,h2,h3])
    exact aD rfl rfl ((E5 c [93,94,47]).trans (by rw [this];rfl))
   ·simp only [pI,Jw,sX]
    rw [LY,Gz]
    congr 2
    simp
  unfold D.tB
  rw [e];rfl
 ·have e1:pS (.str sg)=some (.int (sg.length:Nat)):=by
   show gd _ _=_
   rw [jI ⟨e_.mpr fun c Ue=>decide_eq_true (g.mem c Ue).2.2.2.2,by have:=g.lJ;omega⟩]
   show some (T.int ((Pf.gy [] sg).length:Nat))=_
   rw [sW sg [] (fun _ _ z=>by cases z) g.nd]
   simp
  simp only [ev,d8,bK,dh,e1,ba,iO,adY,decide_true,BC]
 ·have e:ai (cN (n+2) 9) [] (k2 (vF 3) (vF 2)) (s8 ins mn ot sg)=.ok (.bl false,s8 ins mn ot sg):=aF (ts:=[.str sg,.bl ot]) (s':=s8 ins mn ot sg) rfl (Fi n hs)
  unfold D.tB
  rw [e];rfl
inductive IT where
 | any | neg (sg:List Nat) | set (sg:List Nat) | pl (c:Nat)
structure Itm where
 k:IT
 mn:Nat
def IT.core:IT->List Nat
 | .any=>[46]
 | .neg sg=>91::(94::sg++[93])
 | .set sg=>91::(sg++[93])
 | .pl c=>[c]
def IT.sg:IT->List Nat
 | .any=>[]
 | .neg sg=>sg
 | .set sg=>sg
 | .pl c=>[c]
def IT.ot:IT->Bool
 | .any=>true
 | .neg _=>true
 | _=>false
def IT.ok:IT->Prop
 | .any=>True
 | .neg sg=>Sg sg
 | .set sg=>Sg sg/\sV sg false
 | .pl c=>AH c=true
def gK (mn:Nat):List Nat:=if mn=49 then [] else [mn]
noncomputable def Itm.txt (i:Itm):List Nat:=i.k.core++gK i.mn
noncomputable def Itm.val (i:Itm):T:=.tup [.str i.k.sg,.bl i.k.ot,.str [i.mn]]
structure Itm.ok (i:Itm):Prop where
 k:i.k.ok
 m:i.mn=49\/i.mn=42\/i.mn=43\/i.mn=63
theorem TL (a b:Nat) (l:List Nat):bD (a::(l++[b])) (some 1) (some (-1))=l:=by
 have h1:fm (a::(l++[b])).length 0 (some 1)=1:=by
  unfold fm
  dsimp only
  rw [if_neg (by decide)]
  simp
 have h2:fm (a::(l++[b])).length (a::(l++[b])).length (some (-1))=l.length+1:=by
  unfold fm
  dsimp only
  rw [if_pos (by decide)]
  simp;omega
 unfold bD
 rw [h1,h2]
 simp
theorem j5 {c:Nat}(h:AH c=true):c∈gp/\c ∉ npl:=by
 unfold AH at h
 rw [c6] at h
 refine ⟨of_decide_eq_true h.1,fun z=>?_⟩
 rw [decide_eq_true z] at h
 cases h.2
abbrev s7 (c:List Nat) (mn:Nat):S:=⟨[sv (.str c),sv (.str [mn])],[]⟩
theorem sZ {sg ins:List Nat}{ot:Bool}{mn:Nat}(g:Sg sg) (hs:sV sg ot) (hi:ins=if ot then 94::sg else sg):cN (n+4) 7 [.str (91::(ins++[93])),.str [mn]] m=.ok (.tup [.str sg,.bl ot,.str [mn]],m):=by
 rw [w7]
 refine aT (m':=[]) rfl (aS (s':=s7 (91::(ins++[93])) mn) rfl (seq1 (s':=s7 (91::(ins++[93])) mn) (dN (s':=s7 (91::(ins++[93])) mn) ?_ rfl) (ia (kZ (s':=s7 (91::(ins++[93])) mn) ?_ (aV (aF (ts:=[.str ins,.str [mn]]) (s':=s7 (91::(ins++[93])) mn) ?_ (sY n g hs hi)))))) rfl) rfl
 ·have e:decide (91::(ins++[93])=[46])=false:=decide_eq_false (fun z=>by injection z with z _;cases z)
  show D.aZ _ (s7 (91::(ins++[93])) mn)=_
  simp only [ev,d8,bK,dh,kN,e]
 ·have e:pre [91] (91::(ins++[93]))=true:=pre_app [91] (ins++[93])
  simp only [ev,d8,bK,dh,qv,e]
 ·simp only [ev,d8,bK,dh,Ff,Dv,TL]
theorem wa {i:Itm}(h:i.ok):cN (n+4) 7 [.str i.k.core,.str [i.mn]] m=.ok (i.val,m):=by
 obtain ⟨k,mn⟩:=i
 obtain ⟨hk,hm⟩:=h
 cases k with
 | any=>
  rw [w7]
  exact aT (m':=[]) rfl (aS (s':=s7 [46] mn) rfl (ia (kZ (s':=s7 [46] mn) rfl (aV (cj (ts:=[.str [],.bl true,.str [mn]]) rfl (Fg _ _ _))))) rfl) rfl
 | neg sg=>exact sZ n hk (.inl rfl) rfl
 | set sg=>exact sZ n hk.1 hk.2 rfl
 | pl c=>
  obtain ⟨h1,h2⟩:=j5 hk
  rw [w7]
  refine aT (m':=[]) rfl (aS (s':=s7 [c] mn) rfl (seq1 (s':=s7 [c] mn) (dN (s':=s7 [c] mn) ?_ rfl) (seq1 (s':=s7 [c] mn) (dN (s':=s7 [c] mn) ?_ rfl) (seq1 (s':=s7 [c] mn) (dN (s':=s7 [c] mn) ?_ rfl) (aV (cj (ts:=[.str [c],.bl false,.str [mn]]) rfl (Fg _ _ _)))))) rfl) rfl
  ·have e:decide ([c]=[46])=false:=decide_eq_false (fun z=>h2 (by injection z with z _;rw [z];decide))
   show D.aZ _ (s7 [c] mn)=_
   simp only [ev,d8,bK,dh,kN,e]
  ·have e:pre [91] [c]=false:=a8 (fun z=>h2 (by rw [<- z];decide))
   simp only [ev,d8,bK,dh,qv,e]
  ·have e:=aF (ds:=[]) (ts:=[.str [c]]) (s':=s7 [c] mn) (fl:=k1 (vF 0)) (s:=s7 [c] mn) rfl (v_ (n+2) (c:=c) (m:=[]))
   rw [hk] at e
   refine iW ?_
   unfold D.tB
   rw [e];rfl
abbrev s5 (b:List Nat) (p:Nat):S:=⟨[sv (.str b),sv (.int (p:Nat)),none],[]⟩
theorem s_ {D R:List Nat}{c:Nat}:gi (.str (D++c::R)) (.int (D.length:Nat))=some (.str [c]):=by
 show (atT (D++c::R) (D.length:Int)).map _=_
 rw [p9 (by simp)]
 simp
theorem aa_ (a b:List Nat):aJ .NotEq (.str a) (.str b)=some (.bl (!decide (a=b))):=rfl
theorem aba (p:Nat):bw .Add (.int (p:Nat)) (.int 1)=some (.int ((p+1:Nat):Int)):=rfl
theorem l9 {D R:List Nat}{c:Nat}(h:c≠91):cN (n+1) 5 [.str (D++c::R),.int (D.length:Nat)] m=.ok (.int ((D.length+1:Nat):Int),m):=by
 rw [w5]
 refine aT (m':=[]) rfl (aS (s':=s5 (D++c::R) D.length) rfl (ia (kZ (s':=s5 (D++c::R) D.length) ?_ (aV (aD rfl rfl (aba D.length))))) rfl) rfl
 have e:decide ([c]=[91])=false:=decide_eq_false (fun z=>h (by injection z))
 show _root_.D.aZ _ (s5 (D++c::R) D.length)=_
 simp only [ev,d8,bK,dh,s_,aa_,e,BJ]
theorem l_ {D R ins:List Nat}(h:93 ∉ ins):cN (n+1) 5 [.str (D++91::(ins++93::R)),.int (D.length:Nat)] m=.ok (.int ((D.length+(ins.length+2):Nat):Int),m):=by
 rw [w5]
 have hf:=EW 93 D (91::ins) R (by intro z;rcases cA.mp z with z | z;(cases z);exact h z)
 have hf:lK (D++91::(ins++93::R)) [.str [93],.int (D.length:Nat)]=some (.int ((D.length+(ins.length+1):Nat):Int)):=hf
 refine aT (m':=[]) rfl (aS (s':=⟨[sv (.str (D++91::(ins++93::R))),sv (.int (D.length:Nat)),sv (.int ((D.length+(ins.length+1):Nat):Int))],[]⟩) rfl (seq1 (s':=s5 (D++91::(ins++93::R)) D.length) (dN (s':=s5 (D++91::(ins++93::R)) D.length) ?_ rfl) (seq1 (s':=⟨[sv (.str (D++91::(ins++93::R))),sv (.int (D.length:Nat)),sv (.int ((D.length+(ins.length+1):Nat):Int))],[]⟩) ?_ (seq1 (s':=⟨[sv (.str (D++91::(ins++93::R))),sv (.int (D.length:Nat)),sv (.int ((D.length+(ins.length+1):Nat):Int))],[]⟩) (dN (s':=⟨[sv (.str (D++91::(ins++93::R))),sv (.int (D.length:Nat)),sv (.int ((D.length+(ins.length+1):Nat):Int))],[]⟩) ?_ rfl) (aV (aD rfl rfl (aba (D.length+(ins.length+1)))))))) rfl) rfl
 ·show _root_.D.aZ _ (s5 (D++91::(ins++93::R)) D.length)=_
  simp only [ev,d8,bK,dh,s_,aa_,decide_true,BC]
 ·simp only [ev,d8,bK,dh,hf]
 ·have e:decide (((D.length+(ins.length+1):Nat):Int)=-1)=false:=decide_eq_false (by omega)
  simp only [ev,d8,bK,dh,Ff,qe,e]
theorem AI {i:Itm}{D R:List Nat}(h:i.ok):cN (n+1) 5 [.str (D++(i.k.core++R)),.int (D.length:Nat)] m=.ok (.int ((D.length+i.k.core.length:Nat):Int),m):=by
 obtain ⟨k,mn⟩:=i
 obtain ⟨hk,hm⟩:=h
 cases k with
 | any=>exact l9 n (by decide)
 | pl c=>exact l9 n (fun z=>(j5 hk).2 (by rw [z];decide))
 | neg sg=>
  have:=l_ n (D:=D) (R:=R) (ins:=94::sg) (m:=m) (fun z=>by
   rcases cA.mp z with z | z
   ·cases z
   ·exact ((show Sg sg from hk).mem 93 z).2.1 rfl)
  simp only [IT.core,Bu,ky,Gv,cQ,bJ,dm] at this ⊢
  exact this
 | set sg=>
  have:=l_ n (D:=D) (R:=R) (ins:=sg) (m:=m) (fun z=>(hk.1.mem 93 z).2.1 rfl)
  simp only [IT.core,Bu,ky,Gv,cQ,bJ,dm] at this ⊢
  exact this
theorem TM {c:FT}{b:FS}{f:Nat}{s s1 s2:S}{q:Res (Out × S)}(h:c s=.ok (true,s1)) (hb:b s1=.ok (.nx,s2)) (k:b7 c b f s2=q):b7 c b (f+1) s=q:=by
 rw [b7,h]
 refine Eq.trans (bK _ _) ?_
 dsimp only
 rw [if_pos rfl,hb]
 exact k
theorem abb {c:FT}{b:FS}{f:Nat}{s s1:S}(h:c s=.ok (false,s1)):b7 c b (f+1) s=.ok (.nx,s1):=by
 rw [b7,h]
 rfl
def a9:List Itm->List Nat
 | []=>[]
 | i::r=>i.k.core++(gK i.mn++a9 r)
abbrev s6 (b:List Nat) (p:Nat):S:=⟨[sv (.str b),sv (.int (p:Nat))],[]⟩
theorem KR {P R:List Nat}(h:∀ c,R.head?=some c->c ∉ [42,43,63]):cN (n+1) 6 [.str (P++R),.int (P.length:Nat)] m=.ok (.str [49],m):=by
 rw [w6]
 refine aT (m':=[]) rfl (aS (s':=s6 (P++R) P.length) rfl (seq1 (s':=s6 (P++R) P.length) (dN (s':=s6 (P++R) P.length) ?_ rfl) rfl) rfl) rfl
 show dw _ _ (s6 (P++R) P.length)=_
 unfold dw
 cases R with
 | nil=>
  have e:decide (((P.length:Nat):Int)<((P++[]).length:Nat))=false:=decide_eq_false (by simp)
  simp only [ev,d8,bK,dh,ba,iO,p_,e,BD,if_false]
 | cons c R=>
  have e:decide (((P.length:Nat):Int)<((P++c::R).length:Nat))=true:=decide_eq_true (by simp;omega)
  have e2:decide (c∈[42,43,63])=false:=decide_eq_false (h c rfl)
  simp only [ev,d8,bK,dh,ba,iO,p_,e,if_true,s_,E5,e2]
theorem mf {P R:List Nat}{c:Nat}(h:c∈[42,43,63]):cN (n+1) 6 [.str (P++c::R),.int (P.length:Nat)] m=.ok (.str [c],m):=by
 rw [w6]
 refine aT (m':=[]) rfl (aS (s':=s6 (P++c::R) P.length) rfl (ia (kZ (s':=s6 (P++c::R) P.length) ?_ (aV (aD rfl rfl s_)))) rfl) rfl
 show dw _ _ (s6 (P++c::R) P.length)=_
 unfold dw
 have e:decide (((P.length:Nat):Int)<((P++c::R).length:Nat))=true:=decide_eq_true (by simp;omega)
 have e2:decide (c∈[42,43,63])=true:=decide_eq_true h
 simp only [ev,d8,bK,dh,ba,iO,p_,e,if_true,s_,E5,e2]
theorem nZ {i:Itm}(h:i.ok):∃ c l,i.k.core=c::l/\c ∉ [42,43,63]/\c≠94/\c≠36:=by
 obtain ⟨k,mn⟩:=i
 obtain ⟨hk,hm⟩:=h
 cases k with
 | any=>exact ⟨46,[],rfl,by decide,by decide,by decide⟩
 | neg sg=>exact ⟨91,_,rfl,by decide,by decide,by decide⟩
 | set sg=>exact ⟨91,_,rfl,by decide,by decide,by decide⟩
 | pl c=>
  have:=(j5 hk).2
  refine ⟨c,[],rfl,fun z=>this ?_,fun z=>this ?_,fun z=>this ?_⟩
  ·unfold npl;simp at z ⊢;omega
  ·rw [z];decide
  ·rw [z];decide
theorem n5 {its:List Itm}(h:∀ i∈its,i.ok):∀ c,(a9 its).head?=some c->c ∉ [42,43,63]/\c≠94:=by
 cases its with
 | nil=>intro c z;cases z
 | cons i r=>
  obtain ⟨d,l,e,h1,h2,_⟩:=nZ (h i (eE ..))
  intro c z
  rw [a9,e] at z
  cases z
  exact ⟨h1,h2⟩
theorem KS {i:Itm}{r:List Itm}{P:List Nat}(h:i.ok) (hr:∀ j∈r,j.ok):cN (n+1) 6 [.str (P++(i.k.core++(gK i.mn++a9 r))),.int ((P.length+i.k.core.length:Nat):Int)] m=.ok (.str [i.mn],m):=by
 rw [<- ky,<- bJ]
 unfold gK
 rcases h.m with e | e | e | e<;>rw [e]
 ·exact KR n fun c z=>(n5 hr c z).1
 ·exact mf n (by decide)
 ·exact mf n (by decide)
 ·exact mf n (by decide)
abbrev s4 (b:List Nat) (bX:List T) (p:Nat) (u v:Option C):S:=⟨[sv (.str b),some (.ol bX),sv (.int (p:Nat)),u,v],[]⟩
theorem tm (n:Nat):∀ (its:List Itm) (P:List Nat) (bX:List T) (f:Nat) (u v:Option C),(∀ i∈its,i.ok)->its.length<f->bX.length+its.length<=1000 ->
  ∃ p u' v',b7 (_root_.D.aZ (a_ (aJ .Lt) (vF 2) (aK ba (k1 (vF 0))))) (ah (aA 3 (ai (cN (n+4) 5) [] (k2 (vF 0) (vF 2)))) (ah (aA 4 (ai (cN (n+4) 6) [] (k2 (vF 0) (vF 3)))) (ah (dZ 1 (ai (cN (n+4) 7) [] (k2 (mU (vF 0) (kJ (vF 2)) (kJ (vF 3))) (vF 4)))) (aA 2 (qu (_root_.D.aZ (oE (vF 4) (cS [49]))) (vF 3) (oA (vF 3) (cI 1))))))) f (s4 (P++a9 its) bX P.length u v)=.ok (.nx,s4 (P++a9 its) (bX++its.map Itm.val) p u' v')
 | its,P,bX,0,u,v,_,hf,_=>absurd hf (LU _)
 | [],P,bX,f+1,u,v,_,_,_=>by
  refine ⟨P.length,u,v,?_⟩
  rw [Bo,dH bX]
  refine abb ?_
  have e:decide (((P.length:Nat):Int)<((P++a9 []).length:Nat))=false:=decide_eq_false (by simp [a9])
  simp only [ev,d8,bK,dh,ba,iO,p_,e]
 | i::r,P,bX,f+1,u,v,h,hf,hl=>by
  have hi:=h i (eE ..)
  have hr:∀ j∈r,j.ok:=fun j hj=>h j (eZ _ hj)
  rw [cQ] at hf hl
  obtain ⟨c,l,ec,_⟩:=nZ hi
  have eP:P++a9 (i::r)=(P++i.k.core++gK i.mn)++a9 r:=by rw [a9];simp
  obtain ⟨p,u',v',e⟩:=tm n r (P++i.k.core++gK i.mn) (bX++[i.val]) f (sv (.int ((P.length+i.k.core.length:Nat):Int))) (sv (.str [i.mn])) hr (by omega) (by rw [bJ,yG];omega)
  have ea:bX++(i::r).map Itm.val=bX++[i.val]++r.map Itm.val:=by simp
  refine ⟨p,u',v',TM (s1:=s4 (P++a9 (i::r)) bX P.length u v) (s2:=s4 (P++a9 (i::r)) (bX++[i.val]) (P++i.k.core++gK i.mn).length (sv (.int ((P.length+i.k.core.length:Nat):Int))) (sv (.str [i.mn]))) ?_ (seq1 (s':=s4 (P++a9 (i::r)) bX P.length (sv (.int ((P.length+i.k.core.length:Nat):Int))) v) ?_ (seq1 (s':=s4 (P++a9 (i::r)) bX P.length (sv (.int ((P.length+i.k.core.length:Nat):Int))) (sv (.str [i.mn]))) ?_ (seq1 (s':=s4 (P++a9 (i::r)) (bX++[i.val]) P.length (sv (.int ((P.length+i.k.core.length:Nat):Int))) (sv (.str [i.mn]))) ?_ ?_))) ?_⟩
  ·have e:decide (((P.length:Nat):Int)<((P++a9 (i::r)).length:Nat))=true:=decide_eq_true (by rw [a9,ec];simp;omega)
   simp only [ev,d8,bK,dh,ba,iO,p_,e]
  ·exact dB (aF (ts:=[.str (P++a9 (i::r)),.int (P.length:Nat)]) (s':=s4 (P++a9 (i::r)) bX P.length u v) rfl (AI (n+3) hi))
  ·exact dB (aF (ts:=[.str (P++a9 (i::r)),.int ((P.length+i.k.core.length:Nat):Int)]) (s':=s4 (P++a9 (i::r)) bX P.length (sv (.int ((P.length+i.k.core.length:Nat):Int))) v) rfl (KS (n+3) hi hr))
  ·refine mZ (NG:=bX) (ts:=bX) rfl (aF (ts:=[.str i.k.core,.str [i.mn]]) (s':=s4 (P++a9 (i::r)) bX P.length (sv (.int ((P.length+i.k.core.length:Nat):Int))) (sv (.str [i.mn]))) ?_ (wa n hi)) rfl (by omega)
   have ek:bD (P++a9 (i::r)) (some ((P.length:Nat):Int)) (some ((P.length+i.k.core.length:Nat):Int))=i.k.core:=by rw [a9];exact KD P i.k.core _
   simp only [ev,d8,bK,dh,Dv,ek]
  ·have cW:(P++i.k.core++gK i.mn).length=if i.mn=49 then P.length+i.k.core.length else P.length+i.k.core.length+1:=by
    unfold gK
    split
    ·simp
    ·rw [bJ,bJ];rfl
   have e49:decide ([i.mn]=[49])=decide (i.mn=49):=by apply decide_eq_decide.mpr;simp
   unfold qu
   simp only [ev,d8,bK,dh,kN,e49]
   rw [cW]
   by_cases z:i.mn=49
   ·rw [if_pos z,decide_eq_true z,if_pos rfl];rfl
   ·rw [if_neg z,decide_eq_false z,if_neg eK];rfl
  ·rw [ea,eP]
   exact e
theorem tu {its:List Itm}(h:∀ i∈its,i.ok) (hl:its.length<=8):cN (n+5) 4 [.str (a9 its)] m=.ok (.lst (its.map Itm.val),m):=by
 rw [w4]
 obtain ⟨p,u,v,e⟩:=tm n its [] [] many none none h (by show its.length<1000000;omega) (by show 0+_<=_;omega)
 refine aT (m':=[]) rfl (aS (s':=⟨[sv (.str (a9 its)),sv (.lst (its.map Itm.val)),sv (.int (p:Nat)),u,v],[]⟩) rfl (seq1 (s':=⟨[sv (.str (a9 its)),some (.ol []),none,none,none],[]⟩) rfl (seq1 (s':=s4 (a9 its) [] 0 none none) rfl (seq1 e rfl))) rfl) ?_
 have:∀ l:List Itm,aB (l.map Itm.val)=true:=fun l=>by
  induction l with
  | nil=>rfl
  | cons a l ih=>show ((true&&(true&&(true&&true)))&&aB (l.map Itm.val))=true;rw [ih];rfl
 exact this its
def fT (b:Bool):List Nat:=if b then [94] else []
def bT (b:Bool):List Nat:=if b then [36] else []
def bH (f:Bool) (its:List Itm) (b:Bool):List Nat:=fT f++(a9 its++bT b)
def a6 (f:Bool) (its:List Itm) (b:Bool):T:=.tup [.bl f,.lst (its.map Itm.val),.bl b]
theorem tw (a:List Nat) (c:Nat):RJ [36] (a++[c])=decide (c=36):=by
 unfold RJ
 have h1:decide ([36].length<=(a++[c]).length)=true:=decide_eq_true (by simp)
 have h2:(a++[c]).drop ((a++[c]).length - [36].length)=[c]:=by
  rw [show (a++[c]).length - [36].length=a.length by simp,By]
 rw [h1,h2,BI,GC]
 simp
theorem Fj {i:Itm}(h:i.ok):∃ a c,i.k.core++gK i.mn=a++[c]/\c≠36:=by
 have hc:∃ a c,i.k.core=a++[c]/\c≠36:=by
  obtain ⟨k,mn⟩:=i
  obtain ⟨hk,hm⟩:=h
  cases k with
  | any=>exact ⟨[],46,rfl,by decide⟩
  | neg sg=>exact ⟨91::94::sg,93,rfl,by decide⟩
  | set sg=>exact ⟨91::sg,93,rfl,by decide⟩
  | pl c=>exact ⟨[],c,rfl,fun z=>(j5 hk).2 (by rw [z];decide)⟩
 obtain ⟨a,c,e,iE⟩:=hc
 unfold gK
 split
 ·exact ⟨a,c,by rw [dH,e],iE⟩
 ·rename_i z
  refine ⟨i.k.core,i.mn,rfl,?_⟩
  rcases h.m with q | q | q | q<;>rw [q]<;>decide
theorem n6:∀ {its:List Itm},(∀ i∈its,i.ok)->a9 its=[]\/∃ a c,a9 its=a++[c]/\c≠36
 | [],_=>.inl rfl
 | i::r,h=>by
  right
  rcases n6 (its:=r) fun j hj=>h j (eZ _ hj) with e | ⟨a,c,e,hc⟩
  ·obtain ⟨a,c,e1,hc⟩:=Fj (h i (eE ..))
   exact ⟨a,c,by rw [a9,e,dH,e1],hc⟩
  ·exact ⟨i.k.core++(gK i.mn++a),c,by rw [a9,e];simp,hc⟩
theorem Fl {its:List Itm}(h:∀ i∈its,i.ok):RJ [36] (a9 its)=false:=by
 rcases n6 h with e | ⟨a,c,e,hc⟩
 ·rw [e];rfl
 ·rw [e,tw,decide_eq_false hc]
theorem Fo {its:List Itm}(h:∀ i∈its,i.ok) (b:Bool):pre [94] (a9 its++bT b)=false:=by
 cases e:a9 its with
 | nil=>cases b<;>rfl
 | cons c l=>exact a8 (Ne.symm (n5 h c (by rw [e];rfl)).2)
theorem KU {i:Itm}(h:i.ok):∀ c∈i.k.core++gK i.mn,c∈gp/\c≠47:=by
 intro c hc
 rcases f_.mp hc with z | z
 ·obtain ⟨k,mn⟩:=i
  obtain ⟨hk,hm⟩:=h
  have set:∀ sg,Sg sg->c∈sg->c∈gp/\c≠47:=fun sg g q=>⟨(g.mem c q).1,(g.mem c q).2.2.2.1⟩
  cases k with
  | any=>cases eo.mp z;decide
  | neg sg=>
   rcases cA.mp z with z | z
   ·rw [z];decide
   ·rcases f_.mp z with z | z
    ·rcases cA.mp z with z | z
     ·rw [z];decide
     ·exact set sg hk z
    ·rw [eo.mp z];decide
  | set sg=>
   rcases cA.mp z with z | z
   ·rw [z];decide
   ·rcases f_.mp z with z | z
    ·exact set sg hk.1 z
    ·rw [eo.mp z];decide
  | pl d=>
   rw [eo.mp z]
   exact ⟨(j5 hk).1,fun q=>(j5 hk).2 (by rw [q];decide)⟩
 ·unfold gK at z
  split at z
  ·cases z
  ·rw [eo.mp z]
   rcases h.m with q | q | q | q<;>rw [q]<;>decide
theorem tF:∀ {its:List Itm},(∀ i∈its,i.ok)->∀ c∈a9 its,c∈gp/\c≠47
 | [],_,c,h=>by cases h
 | i::r,h,c,hc=>by
  rw [a9,<- ky] at hc
  rcases f_.mp hc with z | z
  ·exact KU (h i (eE ..)) c z
  ·exact tF (fun j hj=>h j (eZ _ hj)) c z
theorem mh {f b:Bool}{its:List Itm}(h:∀ i∈its,i.ok):∀ c∈bH f its b,c∈gp/\c≠47:=by
 intro c hc
 unfold bH at hc
 rcases f_.mp hc with z | z
 ·cases f with
  | true=>rw [eo.mp z];decide
  | false=>cases z
 ·rcases f_.mp z with z | z
  ·exact tF h c z
  ·cases b with
   | true=>rw [eo.mp z];decide
   | false=>cases z
theorem Fp {i:Itm}(h:i.ok):i.k.core.length<=15:=by
 obtain ⟨k,mn⟩:=i
 obtain ⟨hk,hm⟩:=h
 cases k with
 | any=>show 1<=15;decide
 | neg sg=>have:=(show Sg sg from hk).lJ;simp [IT.core];omega
 | set sg=>have:=hk.1.lJ;simp [IT.core];omega
 | pl c=>show 1<=15;decide
theorem mi:∀ {its:List Itm},(∀ i∈its,i.ok)->(a9 its).length<=16*its.length
 | [],_=>dS _
 | i::r,h=>by
  have h1:=Fp (h i (eE ..))
  have h2:=mi (its:=r) fun j hj=>h j (eZ _ hj)
  have h3:(gK i.mn).length<=1:=by unfold gK;split<;>simp
  rw [a9,bJ,bJ,cQ]
  omega
theorem mj {f b:Bool}{its:List Itm}(h:∀ i∈its,i.ok) (hl:its.length<=8):(bH f its b).length<=130:=by
 have h1:=mi h
 have h2:(fT f).length<=1:=by cases f<;>decide
 have h3:(bT b).length<=1:=by cases b<;>decide
 unfold bH
 rw [bJ,bJ]
 omega
abbrev s3 (x:List Nat) (a b c d:Option C):S:=⟨[sv (.str x),a,b,c,d],[]⟩
theorem wb {f b:Bool}{its:List Itm}(h:∀ i∈its,i.ok) (hl:its.length<=8):cN (n+7) 3 [.str (bH f its b)] m=.ok (a6 f its b,m):=by
 rw [w3]
 have e1:ai (cN (n+6) 0) [] (k2 (vF 0) (cS gp)) (s3 (bH f its b) none none none none)=.ok (.bl true,s3 (bH f its b) none none none none):=aF (ts:=[.str (bH f its b),.str gp]) (s':=s3 (bH f its b) none none none none) rfl (lU (n+5) (fun c hc=>(mh h c hc).1) (by have:=mj (f:=f) (b:=b) h hl;omega))
 refine aT (m':=[]) rfl (aS (s':=s3 (bH f its b) (sv (.bl f)) (sv (.str (a9 its++bT b))) (sv (.bl b)) (sv (.lst (its.map Itm.val)))) rfl (seq1 (s':=s3 (bH f its b) none none none none) (dN (s':=s3 (bH f its b) none none none none) rfl rfl) (seq1 (s':=s3 (bH f its b) none none none none) (dN (s':=s3 (bH f its b) none none none none) ?_ rfl) (seq1 (s':=s3 (bH f its b) (sv (.bl f)) none none none) ?_ (seq1 (s':=s3 (bH f its b) (sv (.bl f)) (sv (.str (a9 its++bT b))) none none) ?_ (seq1 (s':=s3 (bH f its b) (sv (.bl f)) (sv (.str (a9 its++bT b))) (sv (.bl b)) none) ?_ (seq1 (s':=s3 (bH f its b) (sv (.bl f)) (sv (.str (a9 its++bT b))) (sv (.bl b)) (sv (.lst (its.map Itm.val)))) ?_ (seq1 (s':=s3 (bH f its b) (sv (.bl f)) (sv (.str (a9 its++bT b))) (sv (.bl b)) (sv (.lst (its.map Itm.val)))) (dN (s':=s3 (bH f its b) (sv (.bl f)) (sv (.str (a9 its++bT b))) (sv (.bl b)) (sv (.lst (its.map Itm.val)))) ?_ rfl) (aV (cj (ts:=[.bl f,.lst (its.map Itm.val),.bl b]) rfl (Fg _ _ _))))))))))  rfl) ?_
 ·refine iW ?_
  unfold D.tB
  exact Eq.trans (congrArg (fun z=>Res.bind z _) e1) rfl
 ·have e:pre [94] (bH f its b)=f:=by
   cases f with
   | true=>exact pre_app [94] (a9 its++bT b)
   | false=>exact Fo h b
  simp only [ev,d8,bK,dh,qv,e]
 ·cases f with
  | true=>
   show Res.ok (Out.nx,i7 _ 2 (.val (.str (bD (bH true its b) (some 1) none))))=_
   rw [show bD (bH true its b) (some 1) none=a9 its++bT b from ib [94] (a9 its++bT b)];rfl
  | false=>rfl
 ·have e:RJ [36] (a9 its++bT b)=b:=by
   cases b with
   | true=>rw [show a9 its++bT true=a9 its++[36] from rfl,tw];rfl
   | false=>rw [show a9 its++bT false=a9 its from dH _];exact Fl h
  simp only [ev,d8,bK,dh,ewM,e]
 ·refine Eq.trans (dB (t:=.lst (its.map Itm.val)) (s':=s3 (bH f its b) (sv (.bl f)) (sv (.str (a9 its++bT b))) (sv (.bl b)) none) (aF (ts:=[.str (a9 its)]) (s':=s3 (bH f its b) (sv (.bl f)) (sv (.str (a9 its++bT b))) (sv (.bl b)) none) (aP (t:=.str (a9 its)) (s1:=s3 (bH f its b) (sv (.bl f)) (sv (.str (a9 its++bT b))) (sv (.bl b)) none) ?_ rfl) (tu (n+1) h hl))) rfl
  cases b with
  | true=>
   show Res.ok (T.str (bD (a9 its++[36]) none (some (-1))),_)=_
   rw [lZ]
  | false=>
   show Res.ok (T.str (a9 its++[]),_)=_
   rw [dH]
 ·have e:decide ((8:Int)<((its.map Itm.val).length:Nat))=false:=decide_eq_false (by rw [cT];omega)
  simp only [ev,d8,bK,dh,ba,iO,sM,e]
 ·have:∀ l:List Itm,aB (l.map Itm.val)=true:=fun l=>by
   induction l with
   | nil=>rfl
   | cons a l ih=>show ((true&&(true&&(true&&true)))&&aB (l.map Itm.val))=true;rw [ih];rfl
  show (true&&(aB (its.map Itm.val)&&(true&&true)))=true
  rw [this];rfl
theorem abc {f b:Bool}{its:List Itm}(h:∀ i∈its,i.ok) (hl:its.length<=8):Pt (bH f its b) (a6 f its b):=⟨fun z=>(mh h 47 z).2 rfl,fun n m=>wb n h hl⟩
theorem eY {α:Type}{g:FG}{c:FT}{e:FE}{b:List (Option C)}{m:List Ob}(v:α->T) (p:α->Bool):∀ {l:List α},(∀ x∈l,∃ b1 b2 b3,g (v x) b=some b1/\c ⟨b1,m⟩=.ok (p x,⟨b2,m⟩)/\e ⟨b2,m⟩=.ok (v x,⟨b3,m⟩))->cC g c e b (l.map v) m=.ok ((l.filter p).map v,m)
 | [],_=>rfl
 | x::l,h=>by
  obtain ⟨b1,b2,b3,h1,h2,h3⟩:=h x (eE ..)
  rw [fR,cC,h1]
  refine Eq.trans (bK _ _) ?_
  rw [h2]
  refine Eq.trans (bK _ _) ?_
  dsimp only
  have ih:=eY v p (l:=l) fun y hy=>h y (eZ _ hy)
  cases hp:p x with
  | true=>
   rw [if_pos rfl,h3]
   refine Eq.trans (bK _ _) ?_
   dsimp only
   rw [ih,List.filter_cons_of_pos hp]
   rfl
  | false=>rw [if_neg eK,ih,List.filter_cons_of_neg (by rw [hp];exact eK)]
def Fq (i:Itm):Bool:=eqT (.str [42]) (.str [i.mn]) || (eqT (.str [63]) (.str [i.mn]) || false)
theorem KW {i:Itm}:cN (n+1) 14 [i.val] m=.ok (.bl (Fq i),m):=by
 rw [w14]
 exact aT (m':=[]) rfl (aS (s':=⟨[sv i.val],[]⟩) rfl (aV (aD (t:=.str [i.mn]) (u:=.tup [.str [42],.str [63]]) rfl rfl rfl)) rfl) rfl
def least (its:List Itm):Nat:=(its.filter fun i=>!Fq i).length
theorem wc (l:List Itm):aB (l.map Itm.val)=true:=by
 induction l with
 | nil=>rfl
 | cons a l ih=>show ((true&&(true&&(true&&true)))&&aB (l.map Itm.val))=true;rw [ih];rfl
theorem eO (f b:Bool) (its:List Itm):noOwn (a6 f its b)=true:=by
 show (true&&(aB (its.map Itm.val)&&(true&&true)))=true
 rw [wc];rfl
theorem tG {f b:Bool}{its:List Itm}(hl:its.length<=8):cN (n+2) 13 [a6 f its b] m=.ok (.int (least its:Nat),m):=by
 rw [w13]
 refine aT (m':=[]) ?_ (aS (s':=⟨[sv (a6 f its b)],[]⟩) rfl (aV (cj (ts:=[.lst ((its.filter fun i=>!Fq i).map Itm.val)]) (aP (ie (ic (ts:=its.map Itm.val) (s1:=⟨[sv (a6 f its b)],[]⟩) rfl (by rw [cT];omega) (eY Itm.val (fun i=>!Fq i) fun i hi=>?_))) rfl) ?_)) rfl) rfl
 ·show (noOwn (a6 f its b)&&true)=true
  rw [eO];rfl
 ·refine ⟨[none,sv i.val],[none,sv i.val],[none,sv i.val],rfl,?_,rfl⟩
  have e:ai (cN (n+1) 14) [] (k1 (vF 1)) ⟨[none,sv i.val],[]⟩=.ok (.bl (Fq i),⟨[none,sv i.val],[]⟩):=aF (ts:=[i.val]) (s':=⟨[none,sv i.val],[]⟩) rfl (KW n)
  unfold bz D.tB
  rw [e];rfl
 ·show some (T.int (((its.filter fun i=>!Fq i).map Itm.val).length:Nat))=_
  rw [cT];rfl
theorem empty_eq {f b:Bool}{its:List Itm}(hl:its.length<=8) (h0:0<least its):cN (n+3) 12 [a6 f its b] m=.ok (.bl false,m):=by
 rw [w12]
 refine aT (m':=[]) ?_ (aS (s':=⟨[sv (a6 f its b)],[]⟩) rfl (aV (aD (t:=.int (least its:Nat)) (u:=.int 0) (s1:=⟨[sv (a6 f its b)],[]⟩) (aF (ts:=[a6 f its b]) (s':=⟨[sv (a6 f its b)],[]⟩) rfl (tG n hl)) rfl ?_)) rfl) rfl
 ·show (noOwn (a6 f its b)&&true)=true
  rw [eO];rfl
 ·rw [qe,decide_eq_false (by omega)]
abbrev n8 (f b:Bool) (its:List Itm) (l:List Nat) (e:Bool):T:=.obj 17 [a6 f its b,.str l,.bl e]
theorem tH {f b e:Bool}{its:List Itm}{l:List Nat}(hl:its.length<=8) (h0:0<least its) (he:e=false\/l.length<=least its):cN (n+4) 29 [n8 f b its l e] m=.ok (.bl true,m):=by
 rw [w29]
 refine aT (m':=[]) ?_ (aS (s':=⟨[sv (n8 f b its l e)],[]⟩) rfl (seq1 (s':=⟨[sv (n8 f b its l e)],[]⟩) (dN (s':=⟨[sv (n8 f b its l e)],[]⟩) ?_ rfl) (aV ?_)) rfl) rfl
 ·show ((noOwn (a6 f its b)&&(true&&(true&&true)))&&true)=true
  rw [eO];rfl
 ·have e1:ai (cN (n+3) 12) [] (k1 (aG M.P.tab 4 (vF 0))) ⟨[sv (n8 f b its l e)],[]⟩=.ok (.bl false,⟨[sv (n8 f b its l e)],[]⟩):=aF (ts:=[a6 f its b]) (s':=⟨[sv (n8 f b its l e)],[]⟩) rfl (empty_eq n hl h0)
  unfold D.tB
  exact Eq.trans (congrArg (fun z=>Res.bind z _) e1) rfl
 ·cases e with
  | false=>rfl
  | true=>
   have hle:l.length<=least its:=he.resolve_left (by decide)
   have e1:ai (cN (n+3) 13) [] (k1 (aG M.P.tab 4 (vF 0))) ⟨[sv (n8 f b its l true)],[]⟩=.ok (.int (least its:Nat),⟨[sv (n8 f b its l true)],[]⟩):=aF (ts:=[a6 f its b]) (s':=⟨[sv (n8 f b its l true)],[]⟩) rfl (tG (n+1) hl)
   have e2:aJ .LtE (.int (l.length:Nat)) (.int (least its:Nat))=some (.bl true):=by
    show some (T.bl (decide (((l.length:Nat):Int)<=(least its:Nat))))=_
    rw [decide_eq_true (by omega)]
   show a_ (aJ .LtE) (aK ba (k1 (aG M.P.tab 10 (vF 0)))) (ai (cN (n+3) 13) [] (k1 (aG M.P.tab 4 (vF 0)))) ⟨[sv (n8 f b its l true)],[]⟩=_
   exact aD (t:=.int (l.length:Nat)) (s1:=⟨[sv (n8 f b its l true)],[]⟩) rfl e1 e2
def DD.mq:DD->Prop
 | .tell=>False
 | .swap e _ t l=>∃ f its b,t=a6 f its b/\its.length<=8/\0<least its/\(e=false\/l.length<=least its)
 | _=>True
def DD.atEnd:DD->Prop
 | .tell=>True
 | .say _=>True
 | .bring _=>True
 | _=>False
def LN.mq:LN->Prop
 | .mark _=>True
 | .bare x=>x.mq
 | .full .fin x=>x.atEnd
 | .full _ x=>x.mq
abbrev s2 (a b:T):S:=⟨[sv a,sv b],[]⟩
theorem Fu {cv dv:T}(h1:cz M.P.sub [10] cv=some (.bl false)) (h2:cz M.P.sub [17] dv=some (.bl false)) (h3:cz M.P.sub [23] dv=some (.bl false)) (hc:noOwn cv=true) (hd:noOwn dv=true):cN (n+7) 28 [cv,dv] m=.ok (.bl true,m):=by
 rw [w28]
 refine aT (m':=[]) ?_ (aS (s':=s2 cv dv) rfl (seq1 (s':=s2 cv dv) (dN (s':=s2 cv dv) (cH (t:=cv) rfl h1) rfl) (seq1 (s':=s2 cv dv) (dN (s':=s2 cv dv) (cH (t:=dv) rfl h2) rfl) (aV ?_))) rfl) rfl
 ·show (noOwn cv&&(noOwn dv&&true))=true
  rw [hc,hd];rfl
 ·have e:bG (cz M.P.sub [23]) (vF 1) (s2 cv dv)=.ok (.bl false,s2 cv dv):=by
   simp only [ev,d8,bK,dh,h3]
  unfold rH
  exact Eq.trans (congrArg (fun z=>Res.bind z _) e) rfl
theorem KY {cv:T}{f b e:Bool}{its:List Itm}{l:List Nat}(h1:cz M.P.sub [10] cv=some (.bl false)) (hl:its.length<=8) (h0:0<least its) (he:e=false\/l.length<=least its) (hc:noOwn cv=true):cN (n+7) 28 [cv,n8 f b its l e] m=.ok (.bl true,m):=by
 rw [w28]
 refine aT (m':=[]) ?_ (aS (s':=s2 cv (n8 f b its l e)) rfl (seq1 (s':=s2 cv (n8 f b its l e)) (dN (s':=s2 cv (n8 f b its l e)) (cH (t:=cv) rfl h1) rfl) (ia (kZ (s':=s2 cv (n8 f b its l e)) (cH (t:=n8 f b its l e) rfl rfl) (aV (aF (ts:=[n8 f b its l e]) (s':=s2 cv (n8 f b its l e)) rfl (tH (n+2) hl h0 he)))))) rfl) rfl
 show (noOwn cv&&((noOwn (a6 f its b)&&(true&&(true&&true)))&&true))=true
 rw [hc,eO];rfl
theorem wd {cv dv:T}(h1:cz M.P.sub [10] cv=some (.bl true)) (h2:cz M.P.sub [16,20,23] dv=some (.bl true)) (hc:noOwn cv=true) (hd:noOwn dv=true):cN (n+7) 28 [cv,dv] m=.ok (.bl true,m):=by
 rw [w28]
 refine aT (m':=[]) ?_ (aS (s':=s2 cv dv) rfl (ia (kZ (s':=s2 cv dv) (cH (t:=cv) rfl h1) (aV ?_))) rfl) rfl
 ·show (noOwn cv&&(noOwn dv&&true))=true
  rw [hc,hd];rfl
 ·simp only [ev,d8,bK,dh,h2]
theorem Fv (x:RP):cz M.P.sub [10] x.val=some (.bl false):=by cases x<;>rfl
theorem Fw (x:PC):cz M.P.sub [10] x.val=some (.bl false):=by
 cases x with
 | rp x=>exact Fv x
 | _=>rfl
theorem qg {cv:T}{x:DD}(h1:cz M.P.sub [10] cv=some (.bl false)) (hf:x.mq) (hc:noOwn cv=true) (hd:noOwn x.val=true) (n:Nat) (m:List Ob):cN (n+7) 28 [cv,x.val] m=.ok (.bl true,m):=by
 cases x with
 | tell=>cases hf
 | swap e w t l=>
  obtain ⟨f,its,b,rfl,h2,h3,h4⟩:=hf
  exact KY n h1 h2 h3 h4 hc
 | _=>exact Fu n h1 rfl rfl hc hd
theorem qh {x:LN}(h:x.mq) (hc:noOwn x.cond=true) (hd:noOwn x.fY=true):lW x:=fun n m=>by
 cases x with
 | mark a=>exact Fu n rfl rfl rfl hc hd
 | bare x=>exact qg rfl h hc hd n m
 | full c x=>
  cases c with
  | fin=>
   cases x with
   | tell=>exact wd n rfl rfl hc hd
   | say l=>exact wd n rfl rfl hc hd
   | bring a=>exact wd n rfl rfl hc hd
   | _=>cases h
  | no y=>exact qg rfl h hc hd n m
  | pc y=>exact qg (Fw y) h hc hd n m
theorem NH {x:LN}(h:x.ok) (hf:x.mq) (hc:noOwn x.cond=true) (hd:noOwn x.fY=true):Lk x:=⟨h,qh hf hc hd,by
 show (noOwn x.cond&&(noOwn x.fY&&true))=true
 rw [hc,hd];rfl⟩
theorem Fx {c:Nat}(h:AH c=true):cN (n+2) 9 [.str [c],.bl false] m=.ok (.bl true,m):=by
 rw [w9]
 refine aT (m':=[]) rfl (aS (s':=s2 (.str [c]) (.bl false)) rfl (aV (sU (x:=true) (y:=true) (s1:=s2 (.str [c]) (.bl false)) rfl fun _=>sU (x:=true) (y:=true) (s1:=s2 (.str [c]) (.bl false)) rfl fun _=>?_)) rfl) rfl
 have:=aF (ds:=[]) (ts:=[.str [c]]) (s':=s2 (.str [c]) (.bl false)) (fl:=k1 (vF 0)) (s:=s2 (.str [c]) (.bl false)) rfl (v_ n (c:=c) (m:=[]))
 rw [h] at this
 exact this
theorem Fy {i:Itm}(h:i.ok):cN (n+3) 11 [.str i.k.sg,.bl i.k.ot] m=.ok (.str i.k.core,m):=by
 obtain ⟨k,mn⟩:=i
 obtain ⟨hk,hm⟩:=h
 rw [w11]
 have ne:∀ sg:List Nat,sg≠[]->∀ ot,_root_.D.aZ (oE (vF 0) (cS [])) (s2 (.str sg) (.bl ot))=.ok (false,s2 (.str sg) (.bl ot)):=fun sg iE ot=>by
  have e:decide (sg=[])=false:=decide_eq_false iE
  simp only [ev,d8,bK,dh,kN,e]
 have iw:∀ (sg:List Nat) (b:Bool),cN (n+2) 9 [.str sg,.bl false] []=.ok (.bl b,[])->_root_.D.tB (ai (cN (n+2) 9) [] (k2 (vF 0) (vF 1))) (s2 (.str sg) (.bl false))=.ok (b,s2 (.str sg) (.bl false)):=fun sg b q=>by
  have e:=aF (ds:=[]) (ts:=[.str sg,.bl false]) (s':=s2 (.str sg) (.bl false)) (fl:=k2 (vF 0) (vF 1)) (s:=s2 (.str sg) (.bl false)) rfl q
  unfold _root_.D.tB
  exact Eq.trans (congrArg (fun z=>Res.bind z _) e) rfl
 have wr:∀ (u v sg:List Nat) (ot:Bool),sg.length<=12->bG (nR u v) (vF 0) (s2 (.str sg) (.bl ot))=.ok (.str (u++sg++v),s2 (.str sg) (.bl ot)):=fun u v sg ot hl=>by
  have e:nR u v (.str sg)=some (.str (u++sg++v)):=jI (by omega)
  simp only [ev,d8,bK,dh,e]
 cases k with
 | any=>exact aT (m':=[]) rfl (aS (s':=s2 (.str []) (.bl true)) rfl (ia (kZ (s':=s2 (.str []) (.bl true)) rfl rfl)) rfl) rfl
 | neg sg=>
  have g:Sg sg:=hk
  exact aT (m':=[]) rfl (aS (s':=s2 (.str sg) (.bl true)) rfl (seq1 (dN (ne sg g.ne true) rfl) (ia (kZ (s':=s2 (.str sg) (.bl true)) rfl (aV (wr [91,94] [93] sg true g.lJ))))) rfl) rfl
 | set sg=>
  obtain ⟨g,hs⟩:=hk
  exact aT (m':=[]) rfl (aS (s':=s2 (.str sg) (.bl false)) rfl (seq1 (dN (ne sg g.ne false) rfl) (seq1 (s':=s2 (.str sg) (.bl false)) (dN (s':=s2 (.str sg) (.bl false)) rfl rfl) (seq1 (dN (iw sg false (Fi n hs)) rfl) (aV (wr [91] [93] sg false g.lJ))))) rfl) rfl
 | pl c=>
  exact aT (m':=[]) rfl (aS (s':=s2 (.str [c]) (.bl false)) rfl (seq1 (dN (ne [c] (by simp) false) rfl) (seq1 (s':=s2 (.str [c]) (.bl false)) (dN (s':=s2 (.str [c]) (.bl false)) rfl rfl) (ia (kZ (iw [c] true (Fx n hk)) rfl)))) rfl) rfl
def mw:List Itm->List (List Nat)
 | []=>[]
 | i::r=>i.k.core::gK i.mn::mw r
theorem tK:∀ its:List Itm,(mw its).flatten=a9 its
 | []=>rfl
 | i::r=>by
  show i.k.core++(gK i.mn++(mw r).flatten)=_
  rw [tK r];rfl
theorem yp:∀ its:List Itm,(mw its).length=2*its.length
 | []=>rfl
 | i::r=>by
  show (mw r).length+1+1=2*(r.length+1)
  rw [yp r];omega
abbrev CA (o:T) (bX:List (List Nat)) (u v w:Option C):S:=⟨[sv o,some (.ol (bX.map T.str)),u,v,w],[]⟩
theorem my (n:Nat) {o:T}:∀ (its:List Itm) (bX:List (List Nat)) (u v w:Option C),(∀ i∈its,i.ok)->bX.length+2*its.length<=1000->∃ u' v' w',c_ (eG [2,3,4]) (ah (dZ 1 (ai (cN (n+3) 11) [] (k2 (vF 2) (vF 3)))) (dZ 1 (qu (_root_.D.aZ (oE (vF 4) (cS [49]))) (cS []) (vF 4)))) (its.map Itm.val) (CA o bX u v w)=.ok (.nx,CA o (bX++mw its) u' v' w')
 | [],bX,u,v,w,_,_=>⟨u,v,w,by rw [show bX++mw []=bX from dH _];rfl⟩
 | i::r,bX,u,v,w,h,hl=>by
  have hi:=h i (eE ..)
  rw [cQ] at hl
  obtain ⟨u',v',w',e⟩:=my n r (bX++[i.k.core,gK i.mn]) (sv (.str i.k.sg)) (sv (.bl i.k.ot)) (sv (.str [i.mn])) (fun j hj=>h j (eZ _ hj)) (by rw [bJ];show bX.length+2+_<=_;omega)
  have e1:bX++mw (i::r)=bX++[i.k.core,gK i.mn]++mw r:=by simp [mw]
  rw [e1]
  refine ⟨u',v',w',dQ (r:=[sv o,some (.ol (bX.map T.str)),sv (.str i.k.sg),sv (.bl i.k.ot),sv (.str [i.mn])]) rfl (s1:=CA o (bX++[i.k.core,gK i.mn]) (sv (.str i.k.sg)) (sv (.bl i.k.ot)) (sv (.str [i.mn]))) (seq1 (mZ (NG:=bX.map T.str) (ts:=bX.map T.str) (t:=.str i.k.core) rfl (aF (ts:=[.str i.k.sg,.bl i.k.ot]) (s':=CA o bX (sv (.str i.k.sg)) (sv (.bl i.k.ot)) (sv (.str [i.mn]))) rfl (Fy n hi)) rfl (by rw [cT];omega)) ?_) e⟩
  refine Eq.trans (mZ (NG:=bX.map T.str++[.str i.k.core]) (ts:=bX.map T.str++[.str i.k.core]) (t:=.str (gK i.mn)) (s1:=⟨[sv o,some (.ol (bX.map T.str++[.str i.k.core])),sv (.str i.k.sg),sv (.bl i.k.ot),sv (.str [i.mn])],[]⟩) rfl ?_ rfl (by rw [bJ,cT];show _+1<_;omega)) ?_
  ·have e49:decide ([i.mn]=[49])=decide (i.mn=49):=by apply decide_eq_decide.mpr;simp
   show qu _ _ _ ⟨[sv o,some (.ol (bX.map T.str++[.str i.k.core])),sv (.str i.k.sg),sv (.bl i.k.ot),sv (.str [i.mn])],[]⟩=_
   unfold qu gK
   simp only [ev,d8,bK,dh,kN,e49]
   by_cases z:i.mn=49
   ·rw [decide_eq_true z,if_pos rfl,if_pos z]
   ·rw [decide_eq_false z,if_neg eK,if_neg z]
  ·show Res.ok (Out.nx,(⟨[sv o,some (.ol (bX.map T.str++[.str i.k.core]++[.str (gK i.mn)])),_,_,_],[]⟩:S))=_
   rw [show bX.map T.str++[.str i.k.core]++[.str (gK i.mn)]=(bX++[i.k.core,gK i.mn]).map T.str by simp]
theorem strs_map:∀ l:List (List Nat),strsOf (l.map T.str)=some l
 | []=>rfl
 | a::l=>by
  show (strsOf (l.map T.str)).map (a::·)=_
  rw [strs_map l];rfl
theorem join_nil:∀ l:List (List Nat),bh [] l=l.flatten
 | []=>rfl
 | [a]=>by simp [bh]
 | a::b::r=>by
  show a++[]++bh [] (b::r)=_
  rw [join_nil (b::r)];simp
theorem join_eq {l:List (List Nat)}(h:l.flatten.length<=100000):joinM [] [.lst (l.map T.str)]=some (.str l.flatten):=by
 show wY (.str []) (.lst (l.map T.str))=_
 unfold wY
 dsimp only
 rw [strs_map]
 show gd _ _=_
 rw [List.length_flatten] at h
 have h:(l.map (·.length)).sum<=100000:=h
 rw [jI (by rw [dm,Nat.mul_zero];omega),join_nil]
theorem we {f b:Bool}{its:List Itm}(h:∀ i∈its,i.ok) (hl:its.length<=8):cN (n+4) 10 [a6 f its b] m=.ok (.str (bH f its b),m):=by
 rw [w10]
 obtain ⟨u,v,w,e⟩:=my n (o:=a6 f its b) its [fT f] none none none h (by show 1+_<=_;omega)
 have ef:([fT f]++mw its++[bT b]).flatten=bH f its b:=by
  rw [LB,LB,tK]
  simp [bH]
 refine aT (m':=[]) ?_ (aS (s':=⟨[sv (a6 f its b),sv (.lst (([fT f]++mw its++[bT b]).map T.str)),u,v,w],[]⟩) rfl (seq1 (s':=CA (a6 f its b) [fT f] none none none) ?_ (seq1 (mY (ts:=its.map Itm.val) (s1:=CA (a6 f its b) [fT f] none none none) rfl e) (seq1 (s':=CA (a6 f its b) ([fT f]++mw its++[bT b]) u v w) ?_ (aV ?_)))) rfl) rfl
 ·show (noOwn (a6 f its b)&&true)=true
  rw [eO];rfl
 ·cases f<;>rfl
 ·refine Eq.trans (mZ (NG:=([fT f]++mw its).map T.str) (ts:=([fT f]++mw its).map T.str) (t:=.str (bT b)) (s1:=CA (a6 f its b) ([fT f]++mw its) u v w) rfl (by cases b<;>rfl) rfl (by rw [cT,bJ,yp];show 1+_<_;omega)) ?_
  show Res.ok (Out.nx,(⟨[sv (a6 f its b),some (.ol (([fT f]++mw its).map T.str++[.str (bT b)])),u,v,w],[]⟩:S))=_
  rw [show ([fT f]++mw its).map T.str++[.str (bT b)]=([fT f]++mw its++[bT b]).map T.str by simp]
 ·have ej:=join_eq (l:=[fT f]++mw its++[bT b]) (by rw [ef];have:=mj (f:=f) (b:=b) h hl;omega)
  rw [ef] at ej
  have e1:vF 1 (CA (a6 f its b) ([fT f]++mw its++[bT b]) u v w)=.ok (.lst (([fT f]++mw its++[bT b]).map T.str),⟨[sv (a6 f its b),sv (.lst (([fT f]++mw its++[bT b]).map T.str)),u,v,w],[]⟩):=rfl
  simp only [ev,bK,dh,e1,ej]
abbrev S1 (v:T):S:=⟨[sv v],[]⟩
theorem bA {a b:List Nat}(h:a.length+b.length<=1000000):bw .Add (.str a) (.str b)=some (.str (a++b)):=jI h
section
variable {d:List Nat}{v t:T}{A B:FS}{R:Res (Out × S)}{s':S}
theorem bV (h:cz M.P.sub d v=some (.bl false)) (q:B (S1 v)=R):ah (aQ (_root_.D.tB (bG (cz M.P.sub d) (vF 0))) A ao) B (S1 v)=R:=seq1 (dN (cH (t:=v) rfl h) rfl) q
theorem qw (h:cz M.P.sub d v=some (.bl true)) (q:A (S1 v)=.ok (.rt t,s')):ah (aQ (_root_.D.tB (bG (cz M.P.sub d) (vF 0))) A ao) B (S1 v)=.ok (.rt t,s'):=ia (kZ (cH (t:=v) rfl h) q)
end
def m_ (w:List Nat) (t:T):Prop:=∃ f its b,(∀ i∈its,i.ok)/\its.length<=8/\w=bH f its b/\t=a6 f its b
theorem m_.pt {w:List Nat}{t:T}(h:m_ w t):Pt w t:=by
 obtain ⟨f,its,b,h1,h2,rfl,rfl⟩:=h
 exact abc h1 h2
theorem m_.no {w:List Nat}{t:T}(h:m_ w t):noOwn t=true:=by
 obtain ⟨f,its,b,h1,h2,rfl,rfl⟩:=h
 exact eO _ _ _
theorem m_.len {w:List Nat}{t:T}(h:m_ w t):w.length<=130:=by
 obtain ⟨f,its,b,h1,h2,rfl,rfl⟩:=h
 exact mj h1 h2
structure wg (d:List Nat) (v:Int):Prop where
 nm:Nm d v
 st:strN [.int v]=some (.str d)
abbrev tL (w:List Nat):List Nat:=47::(w++[47])
theorem mz {w:List Nat}{t:T}(h:m_ w t):cN (n+5) 39 [t] m=.ok (.str (tL w),m):=by
 have hl:=h.len
 have hn:=h.no
 obtain ⟨f,its,b,h1,h2,rfl,rfl⟩:=h
 rw [w39]
 refine aT (m':=[]) ?_ (aS (s':=S1 (a6 f its b)) rfl (aV (aD (t:=.str ([47]++bH f its b)) (u:=.str [47]) (s1:=S1 (a6 f its b)) (aD (t:=.str [47]) (u:=.str (bH f its b)) (s1:=S1 (a6 f its b)) rfl (aF (ts:=[a6 f its b]) (s':=S1 (a6 f its b)) rfl (we n h1 h2)) (bA (by show 1+_<=_;omega))) rfl (bA (by rw [bJ];show 1+_+1<=_;omega)))) rfl) rfl
 show (noOwn (a6 f its b)&&true)=true
 rw [hn];rfl
theorem n9 {l:List Nat}(h:l.length<=40):cN (n+1) 40 [.str l] m=.ok (.str (34::(l++[34])),m):=by
 rw [w40]
 exact aT (m':=[]) rfl (aS (s':=S1 (.str l)) rfl (aV (aD (t:=.str ([34]++l)) (u:=.str [34]) (s1:=S1 (.str l)) (aD (t:=.str [34]) (u:=.str l) (s1:=S1 (.str l)) rfl rfl (bA (by show 1+_<=_;omega))) rfl (bA (by rw [bJ];show 1+_+1<=_;omega)))) rfl) rfl
def RP.dj:RP->Prop
 | .row d v=>wg d v
 | .like w t=>m_ w t
noncomputable def RP.sh:RP->List Nat
 | .row d _=>[114,111,119,32]++d
 | .like w _=>tL w
theorem tM {x:RP}(h:x.dj):noOwn x.val=true:=by
 cases x with
 | row d v=>rfl
 | like w t=>
  show (noOwn t&&true)=true
  rw [(show m_ w t from h).no];rfl
theorem iX {x:RP}(h:x.dj):x.sh.length<=140:=by
 cases x with
 | row d v=>
  have:=(show wg d v from h).nm.hl
  show ([114,111,119,32]++d).length<=140
  rw [bJ];show 4+_<=_;omega
 | like w t=>
  have:=(show m_ w t from h).len
  show (47::(w++[47])).length<=140
  rw [cQ,bJ];show _+1+1<=_;omega
theorem no1 {t:T}(h:noOwn t=true):aB [t]=true:=by
 show (noOwn t&&true)=true
 rw [h];rfl
theorem qi {x:RP}(h:x.dj):cN (n+6) 37 [x.val] m=.ok (.str x.sh,m):=by
 rw [Uw]
 refine aT (m':=[]) (no1 (tM h)) ?_ rfl
 refine aS (s':=S1 x.val) rfl ?_ rfl
 cases x with
 | row d v=>
  have hn:wg d v:=h
  have hl:=hn.nm.hl
  refine qw rfl (aV (aD (t:=.str [114,111,119,32]) (u:=.str d) (s1:=S1 (.obj 4 [.int v])) rfl (cj (ts:=[.int v]) rfl hn.st) (bA (by show 4+_<=_;omega))))
 | like w t=>exact bV rfl (bV rfl (qw rfl (aV (aF (ts:=[t]) (s':=S1 (.obj 6 [t])) rfl (mz n h)))))
def PC.dj:PC->Prop
 | .last=>True
 | .soon d v w t=>wg d v/\m_ w t
 | .ft x y=>x.dj/\y.dj
 | .rp x=>x.dj
noncomputable def PC.sh:PC->List Nat
 | .last=>[108,97,115,116]
 | .soon d _ w _=>[115,111,111,110,32]++d++[32]++tL w
 | .ft x y=>[102,114,111,109,32]++x.sh++[32,116,111,32]++y.sh
 | .rp x=>x.sh
theorem tN {x:PC}(h:x.dj):noOwn x.val=true:=by
 cases x with
 | last=>rfl
 | soon d v w t=>
  show (true&&(noOwn t&&true))=true
  rw [h.2.no];rfl
 | ft x y=>
  show (noOwn x.val&&(noOwn y.val&&true))=true
  rw [tM h.1,tM h.2];rfl
 | rp x=>exact tM h
theorem yq {x:PC}(h:x.dj):cN (n+7) 37 [x.val] m=.ok (.str x.sh,m):=by
 cases x with
 | rp x=>exact qi (n+1) h
 | last=>
  rw [Uw]
  exact aT (m':=[]) rfl (aS (s':=S1 (.obj 5 [])) rfl (bV rfl (qw rfl rfl)) rfl) rfl
 | soon d v w t=>
  obtain ⟨hn,hp⟩:=h
  have h1:=hn.nm.hl
  have h2:=hp.len
  rw [Uw]
  refine aT (m':=[]) (no1 (tN (x:=.soon d v w t) ⟨hn,hp⟩)) (aS (s':=S1 (.obj 7 [.int v,t])) rfl (bV rfl (bV rfl (bV rfl (qw rfl (aV (aD (t:=.str ([115,111,111,110,32]++d++[32])) (u:=.str (tL w)) (s1:=S1 (.obj 7 [.int v,t])) (aD (t:=.str ([115,111,111,110,32]++d)) (u:=.str [32]) (s1:=S1 (.obj 7 [.int v,t])) (aD (t:=.str [115,111,111,110,32]) (u:=.str d) (s1:=S1 (.obj 7 [.int v,t])) rfl (cj (ts:=[.int v]) rfl hn.st) (bA (by show 5+_<=_;omega))) rfl (bA (by rw [bJ];show 5+_+1<=_;omega))) (aF (ts:=[t]) (s':=S1 (.obj 7 [.int v,t])) rfl (mz (n+1) hp)) (bA (by simp only [bJ,cQ,dm];omega)))))))) rfl) rfl
 | ft x y=>
  have h1:=iX h.1
  have h2:=iX h.2
  rw [Uw]
  refine aT (m':=[]) (no1 (tN (x:=.ft x y) h)) (aS (s':=S1 (.obj 8 [x.val,y.val])) rfl (bV rfl (bV rfl (bV rfl (bV rfl (qw rfl (aV (aD (t:=.str ([102,114,111,109,32]++x.sh++[32,116,111,32])) (u:=.str y.sh) (s1:=S1 (.obj 8 [x.val,y.val])) (aD (t:=.str ([102,114,111,109,32]++x.sh)) (u:=.str [32,116,111,32]) (s1:=S1 (.obj 8 [x.val,y.val])) (aD (t:=.str [102,114,111,109,32]) (u:=.str x.sh) (s1:=S1 (.obj 8 [x.val,y.val])) rfl (aF (ts:=[x.val]) (s':=S1 (.obj 8 [x.val,y.val])) rfl (qi n h.1)) (bA (by show 5+_<=_;omega))) rfl (bA (by rw [bJ];show 5+_+4<=_;omega))) (aF (ts:=[y.val]) (s':=S1 (.obj 8 [x.val,y.val])) rfl (qi n h.2)) (bA (by simp only [bJ,cQ,dm];omega))))))))) rfl) rfl
theorem adZ {c:FT}{a b:FE}{s s1:S}{q:Res (T × S)}(h:c s=.ok (false,s1)) (k:b s1=q):qu c a b s=q:=by unfold qu;rw [h];exact k
def CD.dj:CD->Prop
 | .fin=>True
 | .no x=>x.dj
 | .pc x=>x.dj
noncomputable def CD.sh:CD->List Nat
 | .fin=>[101,110,100]
 | .no x=>[110,111,116,32]++x.sh
 | .pc x=>x.sh
theorem mC {x:PC}(h:x.dj):x.sh.length<=300:=by
 cases x with
 | last=>show 4<=300;decide
 | soon d v w t=>
  have h1:=h.1.nm.hl
  have h2:=h.2.len
  simp only [PC.sh,bJ,cQ,dm];omega
 | ft x y=>
  have h1:=iX h.1
  have h2:=iX h.2
  simp only [PC.sh,bJ,cQ,dm];omega
 | rp x=>have:=iX (show x.dj from h);show x.sh.length<=300;omega
theorem Fz {x:CD}(h:x.dj):noOwn x.val=true:=by
 cases x with
 | fin=>rfl
 | no x=>
  show (noOwn x.val&&true)=true
  rw [tN h];rfl
 | pc x=>exact tN h
theorem wj {x:CD}(h:x.dj):x.sh.length<=310:=by
 cases x with
 | fin=>show 3<=310;decide
 | no x=>have:=mC (show x.dj from h);simp only [CD.sh,bJ,cQ,dm];omega
 | pc x=>have:=mC (show x.dj from h);show x.sh.length<=310;omega
theorem KZ {x:CD}(h:x.dj):cN (n+8) 37 [x.val] m=.ok (.str x.sh,m):=by
 cases x with
 | pc x=>exact yq (n+1) h
 | fin=>
  rw [Uw]
  exact aT (m':=[]) rfl (aS (s':=S1 (.obj 10 [])) rfl (bV rfl (bV rfl (bV rfl (bV rfl (bV rfl (bV rfl rfl)))))) rfl) rfl
 | no x=>
  have h1:=mC (show x.dj from h)
  rw [Uw]
  exact aT (m':=[]) (no1 (Fz (x:=.no x) h)) (aS (s':=S1 (.obj 9 [x.val])) rfl (bV rfl (bV rfl (bV rfl (bV rfl (bV rfl (qw rfl (aV (aD (t:=.str [110,111,116,32]) (u:=.str x.sh) (s1:=S1 (.obj 9 [x.val])) rfl (aF (ts:=[x.val]) (s':=S1 (.obj 9 [x.val])) rfl (yq n h)) (bA (by show 4+_<=_;omega))))))))))  rfl) rfl
def DD.dj:DD->Prop
 | .swap _ w t _=>m_ w t
 | .join d v=>wg d v
 | .pileN _ d v=>wg d v
 | .add d v d2 v2=>wg d v/\wg d2 v2
 | _=>True
def FA (e:Bool):List Nat:=if e then [115,119,97,112,32,101,118,101,114,121,32] else [115,119,97,112,32]
noncomputable def DD.sh:DD->List Nat
 | .drop=>[100,114,111,112]
 | .print=>[112,114,105,110,116]
 | .done=>[100,111,110,101]
 | .tell=>[116,101,108,108]
 | .say l=>[115,97,121,32]++(34::(l++[34]))
 | .swap e w _ l=>FA e++tL w++[32]++(34::(l++[34]))
 | .join d _=>[106,111,105,110,32]++d
 | .pile a=>[112,105,108,101,32]++a++[]
 | .pileN a d _=>[112,105,108,101,32]++a++([32]++d)
 | .bring a=>[98,114,105,110,103,32]++a
 | .go a=>[103,111,32]++a
 | .add d _ d2 _=>[97,100,100,32]++d++[32]++d2
theorem yr {x:DD}(h:x.dj):noOwn x.val=true:=by
 cases x with
 | swap e w t l=>
  show (noOwn t&&(true&&(true&&true)))=true
  rw [(show m_ w t from h).no];rfl
 | _=>rfl
theorem yt {x:DD}(ho:x.ok) (h:x.dj):cN (n+6) 38 [x.val] m=.ok (.str x.sh,m):=by
 rw [w38]
 refine aT (m':=[]) (no1 (yr h)) (aS (s':=S1 x.val) rfl ?_ rfl) rfl
 show ah _ _ (S1 x.val)=_
 refine bV (by cases x<;>rfl) ?_
 cases x with
 | drop=>exact qw rfl rfl
 | print=>exact bV rfl (qw rfl rfl)
 | done=>exact bV rfl (bV rfl (qw rfl rfl))
 | tell=>exact bV rfl (bV rfl (bV rfl (bV rfl (bV rfl (bV rfl (bV rfl (bV rfl (bV rfl (bV rfl rfl)))))))))
 | say l=>
  have hl:=(show ND l from ho).hl
  exact bV rfl (bV rfl (bV rfl (qw rfl (aV (aD (t:=.str [115,97,121,32]) (u:=.str (34::(l++[34]))) (s1:=S1 (.obj 16 [.str l])) rfl (aF (ts:=[.str l]) (s':=S1 (.obj 16 [.str l])) rfl (n9 (n+4) hl)) (bA (by simp only [bJ,cQ,dm];omega)))))))
 | swap e w t l=>
  have hl:=ho.2.hl
  have hp:m_ w t:=h
  have h2:=hp.len
  have h3:(FA e).length<=11:=by cases e<;>decide
  refine bV rfl (bV rfl (bV rfl (bV rfl (qw rfl (aV (aD (t:=.str (FA e++tL w++[32])) (u:=.str (34::(l++[34]))) (s1:=S1 (.obj 17 [t,.str l,.bl e])) (aD (t:=.str (FA e++tL w)) (u:=.str [32]) (s1:=S1 (.obj 17 [t,.str l,.bl e])) (aD (t:=.str (FA e)) (u:=.str (tL w)) (s1:=S1 (.obj 17 [t,.str l,.bl e])) (by cases e<;>rfl) (aF (ts:=[t]) (s':=S1 (.obj 17 [t,.str l,.bl e])) rfl (mz n hp)) (bA (by simp only [bJ,cQ,dm];omega))) rfl (bA (by simp only [bJ,cQ,dm];omega))) (aF (ts:=[.str l]) (s':=S1 (.obj 17 [t,.str l,.bl e])) rfl (n9 (n+4) hl)) (bA (by simp only [bJ,cQ,dm];omega))))))))
 | join d v=>
  have hn:wg d v:=h
  have hl:=hn.nm.hl
  exact bV rfl (bV rfl (bV rfl (bV rfl (bV rfl (qw rfl (aV (aD (t:=.str [106,111,105,110,32]) (u:=.str d) (s1:=S1 (.obj 18 [.int v])) rfl (cj (ts:=[.int v]) rfl hn.st) (bA (by show 5+_<=_;omega)))))))))
 | pile a=>
  have hl:=(show j4 a from ho).hl
  exact bV rfl (bV rfl (bV rfl (bV rfl (bV rfl (bV rfl (qw rfl (aV (aD (t:=.str ([112,105,108,101,32]++a)) (u:=.str []) (s1:=S1 (.obj 19 [.str a,.non])) (aD (t:=.str [112,105,108,101,32]) (u:=.str a) (s1:=S1 (.obj 19 [.str a,.non])) rfl rfl (bA (by show 5+_<=_;omega))) rfl (bA (by rw [bJ];show 5+_+0<=_;omega))))))))))
 | pileN a d v=>
  have hl:=ho.1.hl
  have hn:wg d v:=h
  have hd:=hn.nm.hl
  exact bV rfl (bV rfl (bV rfl (bV rfl (bV rfl (bV rfl (qw rfl (aV (aD (t:=.str ([112,105,108,101,32]++a)) (u:=.str ([32]++d)) (s1:=S1 (.obj 19 [.str a,.int v])) (aD (t:=.str [112,105,108,101,32]) (u:=.str a) (s1:=S1 (.obj 19 [.str a,.int v])) rfl rfl (bA (by show 5+_<=_;omega))) (adZ (s1:=S1 (.obj 19 [.str a,.int v])) rfl (aD (t:=.str [32]) (u:=.str d) (s1:=S1 (.obj 19 [.str a,.int v])) rfl (cj (ts:=[.int v]) rfl hn.st) (bA (by show 1+_<=_;omega)))) (bA (by simp only [bJ,cQ,dm];omega))))))))))
 | bring a=>
  have hl:=(show j4 a from ho).hl
  exact bV rfl (bV rfl (bV rfl (bV rfl (bV rfl (bV rfl (bV rfl (qw rfl (aV (aD (t:=.str [98,114,105,110,103,32]) (u:=.str a) (s1:=S1 (.obj 20 [.str a])) rfl rfl (bA (by show 6+_<=_;omega)))))))))))
 | go a=>
  have hl:=(show j4 a from ho).hl
  exact bV rfl (bV rfl (bV rfl (bV rfl (bV rfl (bV rfl (bV rfl (bV rfl (qw rfl (aV (aD (t:=.str [103,111,32]) (u:=.str a) (s1:=S1 (.obj 21 [.str a])) rfl rfl (bA (by show 3+_<=_;omega))))))))))))
 | add d v d2 v2=>
  have h1:=h.1.nm.hl
  have h2:=h.2.nm.hl
  exact bV rfl (bV rfl (bV rfl (bV rfl (bV rfl (bV rfl (bV rfl (bV rfl (bV rfl (qw rfl (aV (aD (t:=.str ([97,100,100,32]++d++[32])) (u:=.str d2) (s1:=S1 (.obj 22 [.int v,.int v2])) (aD (t:=.str ([97,100,100,32]++d)) (u:=.str [32]) (s1:=S1 (.obj 22 [.int v,.int v2])) (aD (t:=.str [97,100,100,32]) (u:=.str d) (s1:=S1 (.obj 22 [.int v,.int v2])) rfl (cj (ts:=[.int v]) rfl h.1.st) (bA (by show 4+_<=_;omega))) rfl (bA (by rw [bJ];show 4+_+1<=_;omega))) (cj (ts:=[.int v2]) rfl h.2.st) (bA (by simp only [bJ,cQ,dm];omega)))))))))))))
theorem AJ {a:List Nat}(h:j4 a):cN (n+1) 38 [.obj 12 [.str a]] m=.ok (.str ([109,97,114,107,32]++a),m):=by
 have hl:=h.hl
 rw [w38]
 exact aT (m':=[]) rfl (aS (s':=S1 (.obj 12 [.str a])) rfl (qw rfl (aV (aD (t:=.str [109,97,114,107,32]) (u:=.str a) (s1:=S1 (.obj 12 [.str a])) rfl rfl (bA (by show 5+_<=_;omega))))) rfl) rfl
def LN.dj:LN->Prop
 | .mark _=>True
 | .bare x=>x.dj
 | .full c x=>c.dj/\x.dj
noncomputable def LN.sh:LN->List Nat
 | .mark a=>[109,97,114,107,32]++a
 | .bare x=>x.sh
 | .full c x=>c.sh++[58,32]++x.sh
theorem abd (x:RP) (b:List Nat):x.txt b=x.sh++b:=by cases x<;>simp [RP.txt,RP.sh]
theorem abe (x:PC) (b:List Nat):x.txt b=x.sh++b:=by cases x<;>simp [PC.txt,PC.sh,abd]
theorem abf (x:CD) (b:List Nat):x.txt b=x.sh++b:=by cases x<;>simp [CD.txt,CD.sh,abe]
theorem abg (x:DD) (b:List Nat):x.txt b=x.sh++b:=by
 cases x with
 | swap e w t l=>cases e<;>simp [DD.txt,DD.sh,Ux,FA]
 | _=>simp [DD.txt,DD.sh]
theorem abh (x:LN) (b:List Nat):x.txt b=x.sh++b:=by cases x<;>simp [LN.txt,LN.sh,abf,abg]
theorem mD {x:DD}(ho:x.ok) (h:x.dj):x.sh.length<=300:=by
 cases x with
 | say l=>have:=(show ND l from ho).hl;simp only [DD.sh,bJ,cQ,dm];omega
 | swap e w t l=>
  have h1:=ho.2.hl
  have h2:=(show m_ w t from h).len
  have h3:(FA e).length<=11:=by cases e<;>decide
  simp only [DD.sh,bJ,cQ,dm];omega
 | join d v=>have:=(show wg d v from h).nm.hl;simp only [DD.sh,bJ,cQ,dm];omega
 | pile a=>have:=(show j4 a from ho).hl;simp only [DD.sh,bJ,cQ,dm];omega
 | pileN a d v=>have h1:=ho.1.hl;have:=(show wg d v from h).nm.hl;simp only [DD.sh,bJ,cQ,dm];omega
 | bring a=>have:=(show j4 a from ho).hl;simp only [DD.sh,bJ,cQ,dm];omega
 | go a=>have:=(show j4 a from ho).hl;simp only [DD.sh,bJ,cQ,dm];omega
 | add d v d2 v2=>have h1:=h.1.nm.hl;have h2:=h.2.nm.hl;simp only [DD.sh,bJ,cQ,dm];omega
 | _=>simp only [DD.sh,cQ,dm];omega
theorem n_ {x:LN}(h:x.dj):noOwn x.cond=true/\noOwn x.fY=true:=by
 cases x with
 | mark a=>exact ⟨rfl,rfl⟩
 | bare x=>exact ⟨rfl,yr h⟩
 | full c x=>exact ⟨Fz h.1,yr h.2⟩
theorem K0 (c:CD):cz M.P.sub [3] c.val=some (.bl false):=by
 cases c with
 | fin=>rfl
 | no x=>rfl
 | pc x=>
  cases x with
  | rp x=>cases x<;>rfl
  | _=>rfl
theorem qj {x:LN}(ho:x.ok) (h:x.dj):cN (n+9) 36 [x.val] m=.ok (.str x.sh,m):=by
 rw [w36]
 obtain ⟨h1,h2⟩:=n_ h
 refine aT (m':=[]) ?_ (aS (s':=S1 x.val) rfl ?_ rfl) rfl
 ·show ((noOwn x.cond&&(noOwn x.fY&&true))&&true)=true
  rw [h1,h2];rfl
 ·cases x with
  | mark a=>exact ia (kZ (s':=S1 (LN.mark a).val) (cH (t:=(LN.mark a).cond) rfl rfl) (aV (aF (ts:=[.obj 12 [.str a]]) (s':=S1 (LN.mark a).val) rfl (AJ (n+7) ho))))
  | bare x=>exact ia (kZ (s':=S1 (LN.bare x).val) (cH (t:=(LN.bare x).cond) rfl rfl) (aV (aF (ts:=[x.val]) (s':=S1 (LN.bare x).val) rfl (yt (n+2) ho h))))
  | full c x=>
   have l1:=wj h.1
   have l2:=mD ho.2 h.2
   exact seq1 (s':=S1 (LN.full c x).val) (dN (s':=S1 (LN.full c x).val) (cH (t:=c.val) rfl (K0 c)) rfl) (aV (aD (t:=.str (c.sh++[58,32])) (u:=.str x.sh) (s1:=S1 (LN.full c x).val) (aD (t:=.str c.sh) (u:=.str [58,32]) (s1:=S1 (LN.full c x).val) (aF (ts:=[c.val]) (s':=S1 (LN.full c x).val) rfl (KZ n h.1)) rfl (bA (by show _+2<=_;omega))) (aF (ts:=[x.val]) (s':=S1 (LN.full c x).val) rfl (yt (n+2) ho.2 h.2)) (bA (by rw [bJ];show _+2+_<=_;omega))))
theorem qk {x:LN}(ho:x.ok) (h:x.dj):x.sh.length<=700:=by
 cases x with
 | mark a=>have:=(show j4 a from ho).hl;simp only [LN.sh,bJ,cQ,dm];omega
 | bare x=>have:=mD (show x.ok from ho) h;show x.sh.length<=700;omega
 | full c x=>have l1:=wj h.1;have l2:=mD ho.2 h.2;simp only [LN.sh,bJ,cQ,dm];omega
theorem fZ {α:Type}{g:FG}{e:FE}{b:List (Option C)}{m:List Ob}(v f:α->T):∀ {l:List α},(∀ x∈l,∃ b1 b2,g (v x) b=some b1/\e ⟨b1,m⟩=.ok (f x,⟨b2,m⟩))->cC g dg e b (l.map v) m=.ok (l.map f,m)
 | [],_=>rfl
 | x::l,h=>by
  obtain ⟨b1,b2,h1,h2⟩:=h x (eE ..)
  rw [fR,cC,h1]
  refine Eq.trans (bK _ _) ?_
  show Res.bind (e ⟨b1,m⟩) _=_
  rw [h2]
  show Res.bind (cC g dg e b (l.map v) m) _=_
  rw [fZ v f fun y hy=>h y (eZ _ hy)]
  rfl
def qy (xs:List LN):List (List Nat):=xs.map fun x=>x.sh++[10]
theorem qm:∀ {xs:List LN},(∀ x∈xs,x.ok/\x.dj)->(qy xs).flatten.length<=701*xs.length
 | [],_=>dS _
 | x::xs,h=>by
  have h1:=h x (eE ..)
  have h2:=qk h1.1 h1.2
  have h3:=qm (xs:=xs) fun y hy=>h y (eZ _ hy)
  show ((x.sh++[10])++(qy xs).flatten).length<=_
  rw [bJ,bJ,yG,cQ]
  omega
theorem FF {xs:List LN}(h:∀ x∈xs,x.ok/\x.dj) (hl:xs.length<=24):cN (n+10) 35 [.obj 0 [.lst (aW xs)]] m=.ok (.str (qy xs).flatten,m):=by
 rw [w35]
 have Av:∀ xs:List LN,(∀ x∈xs,x.ok/\x.dj)->aB (aW xs)=true:=fun xs=>by
  induction xs with
  | nil=>exact fun _=>rfl
  | cons x xs ih=>
   intro h
   obtain ⟨h1,h2⟩:=n_ (h x (eE ..)).2
   show ((noOwn x.cond&&(noOwn x.fY&&true))&&aB (aW xs))=true
   rw [h1,h2,ih fun y hy=>h y (eZ _ hy)];rfl
 have ej:=join_eq (l:=qy xs) (by have:=qm h;omega)
 have e:bP (bj (gZ (aG M.P.tab 0 (vF 0))) 2 [] (setG 1) dg (oA (ai (cN (n+9) 36) [] (k1 (vF 1))) (cS [10]))) (S1 (.obj 0 [.lst (aW xs)]))=.ok (.lst ((qy xs).map T.str),S1 (.obj 0 [.lst (aW xs)])):=by
  have em:(qy xs).map T.str=xs.map fun x=>T.str (x.sh++[10]):=by unfold qy;rw [kB];rfl
  rw [em]
  refine ie (ic (ts:=aW xs) (s1:=S1 (.obj 0 [.lst (aW xs)])) rfl (by rw [cT];omega) (fZ LN.val (fun x=>T.str (x.sh++[10])) fun x hx=>?_))
  have B7:=h x hx
  have:=qk B7.1 B7.2
  exact ⟨[none,sv x.val],[none,sv x.val],rfl,aD (t:=.str x.sh) (u:=.str [10]) (s1:=⟨[none,sv x.val],[]⟩) (aF (ts:=[x.val]) (s':=⟨[none,sv x.val],[]⟩) rfl (qj n B7.1 B7.2)) rfl (bA (by show _+1<=_;omega))⟩
 refine aT (m':=[]) ?_ (aS (s':=S1 (.obj 0 [.lst (aW xs)])) rfl (aV ?_) rfl) rfl
 ·show ((aB (aW xs)&&true)&&true)=true
  rw [Av xs h];rfl
 ·show jB joinM (cS []) (k1 (bP _)) (S1 (.obj 0 [.lst (aW xs)]))=_
  simp only [ev,bK,dh,e,ej]
theorem AK {i j:Int}(h:0<j):bw .Mod (.int i) (.int j)=some (.int (i % j)):=jI h
theorem FH {i j:Int}(h:0<j/\j<1073741824):bw .FloorDiv (.int i) (.int j)=some (.int (i/j)):=jI h
noncomputable def qo:List Nat:=aa6
noncomputable def dP:List Nat:=aa5
theorem abi:qo.all AH=true:=by decide +kernel
theorem abj:dP.all (fun c=>decide (c∈gp/\c≠93/\c≠94/\c≠47/\c<128))=true:=by decide +kernel
theorem ad0:dP.Nodup:=by decide +kernel
theorem mE:∀ l:List Nat,(l.map fun c=>[c]).flatten=l
 | []=>rfl
 | c::l=>by rw [fR,ud,mE l];rfl
theorem abk (a b c d:T):eU [a,b,c,d]=some (.lst [a,b,c,d]):=jI (by show 4<=1000;decide)
def nmB (v:Int):Bool:=(gF v).all (fun c=>decide (c∈AE))&&!(gF v).isEmpty&&!pre [48] (gF v)&&decide ((gF v).length<=3)&&decide (PySem.intText? ⟨(gF v).toArray⟩=some v)&&decide (v.natAbs.log2<1920)
theorem TN:(gM 999).all (fun i=>nmB ((i:Int)+1))=true:=by decide +kernel
theorem j6 {v:Int}(h1:1<=v) (h2:v<=999):wg (gF v) v:=by
 have h:=e_.mp TN (v-1).toNat (Bb.mpr (by omega))
 rw [show (((v-1).toNat:Int)+1)=v by omega] at h
 unfold nmB at h
 simp only [c6,decide_eq_true_eq] at h
 obtain ⟨⟨⟨⟨⟨a,b⟩,c⟩,d⟩,e⟩,f⟩:=h
 refine ⟨⟨fun x hx=>of_decide_eq_true (e_.mp a x hx),fun z=>?_,by simpa using c,d,?_⟩,jI ⟨f,by omega⟩⟩
 ·rw [z] at b;cases b
 ·show (PySem.intText? ⟨(gF v).toArray⟩).bind _=_
  rw [e]
  exact jI (by omega)
abbrev ik (its:List Itm):List T:=its.map fun i=>.tup [.str i.txt,i.val]
theorem j7:∀ its:List Itm,(its.map Itm.txt).flatten=a9 its
 | []=>rfl
 | i::r=>by
  show (i.k.core++gK i.mn)++(r.map Itm.txt).flatten=_
  rw [j7 r,ky];rfl
theorem AL (i j:Int):bw .Add (.int i) (.int j)=some (.int (i+j)):=rfl
noncomputable def iY:List Nat:=aa4
theorem abl:iY.all (fun c=>decide (c∈gp/\c≠34))=true:=by decide +kernel
structure TE (a:FE) (s:S) (x:List Nat) (k:Nat):Prop where
 e:a s=.ok (.str x,s)
 l:x.length<=k
theorem TE.add {a b:FE}{s:S}{x y:List Nat}{i j:Nat}(h:TE a s x i) (g:TE b s y j) (q:i+j<=1000000:=by decide):TE (oA a b) s (x++y) (i+j):=
 ⟨aD h.e g.e (bA (by have:=h.l;have:=g.l;omega)),by rw [bJ];have:=h.l;have:=g.l;omega⟩
theorem TE.c {s:S}(l:List Nat):TE (cS l) s l l.length:=⟨rfl,dS _⟩
theorem TE.nn {a:FE}{s:S}{d:List Nat}{v:Int}(h:a s=.ok (.int v,s)) (N:wg d v):TE (aK strN (k1 a)) s d 3:=⟨cj (ts:=[.int v]) (aP h rfl) N.st,N.nm.hl⟩
theorem ng {a:FE}{s:S}{t:T}(h1:a s=.ok (t,s)):aK aL (k1 a) s=.ok (.tup [t],s):=cj (aP h1 rfl) (jI (by show 1<=1000;decide))
theorem cJ {a b:FE}{s:S}{t u:T}(h1:a s=.ok (t,s)) (h2:b s=.ok (u,s)):aK aL (k2 a b) s=.ok (.tup [t,u],s):=cj (aP h1 (aP h2 rfl)) (TH _ _)
theorem gH {a b c:FE}{s:S}{t u v:T}(h1:a s=.ok (t,s)) (h2:b s=.ok (u,s)) (h3:c s=.ok (v,s)):aK aL (k3 a b c) s=.ok (.tup [t,u,v],s):=cj (aP h1 (aP h2 (aP h3 rfl))) (Fg _ _ _)
theorem abm {a b c d:FE}{s:S}{t u v w:T}(h1:a s=.ok (t,s)) (h2:b s=.ok (u,s)) (h3:c s=.ok (v,s)) (h4:d s=.ok (w,s)):aK aL (dY a (k3 b c d)) s=.ok (.tup [t,u,v,w],s):=cj (aP h1 (aP h2 (aP h3 (aP h4 rfl)))) (jI (by show 4<=1000;decide))
theorem ad1 (a:T):eU [a]=some (.lst [a]):=jI (by show 1<=1000;decide)
theorem TQ (a b:T):eU [a,b]=some (.lst [a,b]):=jI (by show 2<=1000;decide)
theorem AM (a b c:T):eU [a,b,c]=some (.lst [a,b,c]):=jI (by show 3<=1000;decide)
theorem j8 {a:FE}{s s1:S}{b:Bool}(h:a s=.ok (.bl b,s1)):_root_.D.aZ a s=.ok (b,s1):=by
 unfold _root_.D.aZ
 rw [h];rfl
theorem K1 {s:S}{i j:Int}{a:FE}(h:a s=.ok (.int i,s)):_root_.D.aZ (oE a (cI j)) s=.ok (decide (i=j),s):=j8 (aD h (u:=.int j) rfl (qe _ _))
noncomputable def RP.iC:RP->T
 | .row _ v=>.tup [.str [114,111,119],.int v]
 | .like _ t=>.tup [.str [108,105,107,101],t]
noncomputable def PC.iC:PC->T
 | .last=>.tup [.str [108,97,115,116]]
 | .soon _ v _ t=>.tup [.str [115,111,111,110],.int v,t]
 | .ft x y=>.tup [.str [102,114,111,109],x.iC,y.iC]
 | .rp x=>x.iC
noncomputable def CD.iC:CD->T
 | .fin=>.tup [.str [101,110,100]]
 | .no x=>.tup [.str [110,111,116],x.iC]
 | .pc x=>x.iC
theorem qp {x:RP}(h:x.dj):noOwn x.iC=true:=by
 cases x with
 | row d v=>rfl
 | like w t=>
  show (true&&(noOwn t&&true))=true
  rw [(show m_ w t from h).no];rfl
theorem wm {x:PC}(h:x.dj):noOwn x.iC=true:=by
 cases x with
 | last=>rfl
 | soon d v w t=>
  show (true&&(true&&(noOwn t&&true)))=true
  rw [h.2.no];rfl
 | ft x y=>
  show (true&&(noOwn x.iC&&(noOwn y.iC&&true)))=true
  rw [qp h.1,qp h.2];rfl
 | rp x=>exact qp h
theorem FI {f b:Bool}{its:List Itm}(h:∀ i∈its,i.ok) (hl:its.length<=8):m_ (bH f its b) (a6 f its b):=⟨f,its,b,h,hl,rfl,rfl⟩
theorem TE.as {a:FE}{s:S}{x y:List Nat}{k:Nat}(h:TE a s x k) (e:x=y):a s=.ok (.str y,s):=e ▸ h.e
noncomputable def DD.iC:DD->T
 | .drop=>.tup [.str [100,114,111,112]]
 | .print=>.tup [.str [112,114,105,110,116]]
 | .done=>.tup [.str [100,111,110,101]]
 | .tell=>.tup [.str [116,101,108,108]]
 | .say l=>.tup [.str [115,97,121],.str l]
 | .swap e _ t l=>.tup [.str [115,119,97,112],t,.str l,.bl e]
 | .join _ v=>.tup [.str [106,111,105,110],.int v]
 | .pile a=>.tup [.str [112,105,108,101],.str a,.non]
 | .pileN a _ v=>.tup [.str [112,105,108,101],.str a,.int v]
 | .bring a=>.tup [.str [98,114,105,110,103],.str a]
 | .go a=>.tup [.str [103,111],.str a]
 | .add _ v _ v2=>.tup [.str [97,100,100],.int v,.int v2]
theorem wo {x:DD}(h:x.dj):noOwn x.iC=true:=by
 cases x with
 | swap e w t l=>
  show (true&&(noOwn t&&(true&&(true&&true))))=true
  rw [(show m_ w t from h).no];rfl
 | _=>rfl
def DD.ad2:DD->Prop
 | .go _=>False
 | _=>True
theorem abn {i:Itm}(h:i.ok):decide (i.mn∈[49,43])=!Fq i:=by
 obtain ⟨k,mn⟩:=i
 rcases h.m with q | q | q | q<;>(dsimp only at q;subst q;rfl)
theorem TR {a:FE}{s s1:S}{b:Bool}(h:a s=.ok (.bl b,s1)):_root_.D.tB a s=.ok (b,s1):=by
 unfold _root_.D.tB
 rw [h];rfl
theorem iD {a b:FE}{s s1:S}{R:Res (T × S)}(h:a s=.ok (.bl true,s1)) (k:b s1=R):dI a b s=R:=by
 unfold dI
 rw [h];exact k
theorem FJ (a:List Nat):aJ .Eq (.str a) (.str a)=some (.bl true):=by rw [kN,decide_eq_true rfl]
theorem FN (a:Int):aJ .Eq (.int a) (.int a)=some (.bl true):=by rw [qe,decide_eq_true rfl]
theorem K2 (a:List Nat):aJ .NotEq (.str a) (.str a)=some (.bl false):=by
 show some (T.bl (!decide (a=a)))=_
 rw [decide_eq_true rfl];rfl
theorem abo (a:Int):aJ .NotEq (.int a) (.int a)=some (.bl false):=by
 show some (T.bl (!decide (a=a)))=_
 rw [decide_eq_true rfl];rfl
theorem neF {a b:FE}{s s1 s2:S}{t u:T}(h:a s=.ok (t,s1)) (h2:b s1=.ok (u,s2)) (k:aJ .NotEq t u=some (.bl false)):_root_.D.aZ (a_ (aJ .NotEq) a b) s=.ok (false,s2):=j8 (aD h h2 k)
theorem at0 {α:Type}(x:α) (r:List α):atT (x::r) 0=some x:=by
 unfold atT
 rw [if_pos (Int.le_refl _),if_pos (by rw [cQ];omega)];rfl
section
variable {A B:FS}{v:T}{a w:List Nat}{r:List T}{G:T × List Ob->Prop}
theorem tD:_root_.D.aZ (oE (oI (vF 1) (cI 0)) (cS w)) (s2 v (.tup (.str a::r)))=.ok (decide (a=w),s2 v (.tup (.str a::r))):=j8 (aD (t:=.str a) (u:=.str w) (s1:=s2 v (.tup (.str a::r))) (s2:=s2 v (.tup (.str a::r))) (aD (t:=.tup (.str a::r)) (u:=.int 0) (s1:=s2 v (.tup (.str a::r))) rfl rfl (at0 _ _)) rfl (kN _ _))
theorem cO (h:decide (a=w)=false) (q:WB B (s2 v (.tup (.str a::r))) G):WB (ah (aQ (_root_.D.aZ (oE (oI (vF 1) (cI 0)) (cS w))) A ao) B) (s2 v (.tup (.str a::r))) G:=cM (tD.trans (by rw [h])) q
theorem tQ (h:decide (a=w)=true) (q:WB A (s2 v (.tup (.str a::r))) G):WB (ah (aQ (_root_.D.aZ (oE (oI (vF 1) (cI 0)) (cS w))) A ao) B) (s2 v (.tup (.str a::r))) G:=k7 (tD.trans (by rw [h])) q
end
theorem ad3 (b:Bool):aJ .Eq (.bl b) (.bl b)=some (.bl true):=by cases b<;>rfl
theorem kP {f:FS}{v t:T}(h:aB [v,t]=true) (k:WB f (s2 v t) fun p=>p.1=.bl true):aY (aR 2 2 f) [v,t] m=.ok (.bl true,m):=by
 obtain ⟨p,e,t',e2,e3⟩:=k
 obtain ⟨o,s'⟩:=p
 cases e2
 cases e3
 exact aT (m':=s'.m) h (aS rfl e rfl) rfl
theorem f6 {v:Int}:cN (n+1) 41 [.int v] m=.ok (.bl true,m):=by
 rw [w41];rfl
theorem yu {V:T}:∀ (its:List Itm) (u:Option C),∃ u',c_ (setG 2) (aQ (gz (bz (_root_.D.tB (bG (ua "tuple") (vF 2)))) (gz (_root_.D.aZ (a_ (aJ .NotEq) (aK ba (k1 (vF 2))) (cI 3))) (bz (_root_.D.tB (bG (ua "bool") (oI (vF 2) (cI 1)))))))
  (ak (cF (.bl false)))
  ao) (its.map Itm.val) ⟨[sv V,sv V,u],[]⟩=.ok (.nx,⟨[sv V,sv V,u'],[]⟩)
 | [],u=>⟨u,rfl⟩
 | i::r,u=>by
  obtain ⟨u',e⟩:=yu (V:=V) r (sv i.val)
  exact ⟨u',dQ (r:=[sv V,sv V,sv i.val]) rfl (s1:=⟨[sv V,sv V,sv i.val],[]⟩) rfl e⟩
theorem oi:∀ its:List Itm,all2 (shape 3) (its.map Itm.val) (its.map Itm.val)=true
 | []=>rfl
 | i::r=>by
  show ((true&&(true&&(true&&true)))&&all2 (shape 3) (r.map Itm.val) (r.map Itm.val))=true
  rw [oi r];rfl
theorem ad4 (f b:Bool) (its:List Itm):aJ .Eq (a6 f its b) (a6 f its b)=some (.bl true):=by
 show gd (shape 5 (a6 f its b) (a6 f its b)=true) (T.bl (eqT (a6 f its b) (a6 f its b)))=_
 rw [rG]
 refine jI ?_
 show (true&&(all2 (shape 3) (its.map Itm.val) (its.map Itm.val)&&(true&&true)))=true
 rw [oi];rfl
theorem no2 {t u:T}(h:noOwn t=true) (h2:noOwn u=true):aB [t,u]=true:=by
 show (noOwn t&&(noOwn u&&true))=true
 rw [h,h2];rfl
theorem qq {w:List Nat}{t:T}(h:m_ w t):cN (n+1) 42 [t,t] m=.ok (.bl true,m):=by
 have hn:=h.no
 obtain ⟨f,its,b,h1,h2,rfl,rfl⟩:=h
 rw [w42]
 obtain ⟨u,e⟩:=yu (V:=a6 f its b) its none
 exact aT (m':=[]) (no2 hn hn) (aS (s':=⟨[sv (a6 f its b),sv (a6 f its b),u],[]⟩) rfl (seq1 (s':=⟨[sv (a6 f its b),sv (a6 f its b),none],[]⟩) (dN (s':=⟨[sv (a6 f its b),sv (a6 f its b),none],[]⟩) rfl rfl) (seq1 (s':=⟨[sv (a6 f its b),sv (a6 f its b),none],[]⟩) (dN (s':=⟨[sv (a6 f its b),sv (a6 f its b),none],[]⟩) rfl rfl) (seq1 (mY (ts:=its.map Itm.val) (s1:=⟨[sv (a6 f its b),sv (a6 f its b),none],[]⟩) rfl e) (aV (aD (t:=a6 f its b) (u:=a6 f its b) rfl rfl (ad4 f b its)))))) rfl) rfl
theorem FP {x:RP}(h:x.dj):cN (n+2) 43 [x.val,x.iC] m=.ok (.bl true,m):=by
 have hn:=no2 (tM h) (qp h)
 cases x with
 | row d v=>
  rw [NC]
  exact kP hn (cM rfl (tQ rfl (d9 (iD rfl (iD (aF rfl (f6 n)) (aD rfl rfl (FN _)))) rfl)))
 | like w t=>
  rw [NC]
  exact kP hn (cM rfl (cO rfl (cO rfl (tQ rfl (d9 (iD rfl (aF rfl (qq n h))) rfl)))))
theorem NI {x:PC}(h:x.dj):cN (n+3) 43 [x.val,x.iC] m=.ok (.bl true,m):=by
 have hn:=no2 (tN h) (wm h)
 cases x with
 | rp x=>exact FP (n+1) h
 | last=>
  rw [NC]
  exact kP hn (cM rfl (cO rfl (tQ rfl (d9 rfl rfl))))
 | soon d v w t=>
  rw [NC]
  exact kP hn (cM rfl (cO rfl (cO rfl (cO rfl (tQ rfl (cM (AF rfl (AF (iW (TR (aF rfl (f6 (n+1))))) (neF rfl rfl (abo _)))) (d9 (aF rfl (qq (n+1) h.2)) rfl)))))))
 | ft x y=>
  rw [NC]
  exact kP hn (cM rfl (cO rfl (cO rfl (cO rfl (cO rfl (tQ rfl (d9 (iD rfl (iD (aF rfl (FP n h.1)) (aF rfl (FP n h.2)))) rfl)))))))
theorem FQ {x:CD}(h:x.dj):noOwn x.iC=true:=by
 cases x with
 | fin=>rfl
 | no x=>
  show (true&&(noOwn x.iC&&true))=true
  rw [wm h];rfl
 | pc x=>exact wm h
theorem abp {x:CD}(h:x.dj):cN (n+4) 43 [x.val,x.iC] m=.ok (.bl true,m):=by
 have hn:=no2 (Fz h) (FQ h)
 cases x with
 | pc x=>exact NI (n+1) h
 | fin=>
  rw [NC]
  exact kP hn (cM rfl (cO rfl (cO rfl (cO rfl (cO rfl (cO rfl (cO rfl (tQ rfl (d9 rfl rfl)))))))))
 | no x=>
  rw [NC]
  exact kP hn (cM rfl (cO rfl (cO rfl (cO rfl (cO rfl (cO rfl (tQ rfl (d9 (iD rfl (aF rfl (NI n h))) rfl))))))))
theorem NJ :cN (n+4) 43 [(.obj 3 []),(.tup [.str [97,108,119,97,121,115]])] m=.ok (.bl true,m):=by
 rw [NC]
 exact kP rfl (cM rfl (cO rfl (cO rfl (cO rfl (cO rfl (cO rfl (cO rfl (cO rfl (d9 rfl rfl)))))))))
def DD.num:DD->Prop
 | .join _ _=>True
 | .add _ _ _ _=>True
 | .pile _=>True
 | .pileN _ _ _=>True
 | _=>False
theorem qr {x:DD}(h:x.num):cN (n+2) 44 [x.val,x.iC] m=.ok (.bl true,m):=by
 cases x with
 | join d v=>
  rw [w44]
  exact kP rfl (tQ rfl (d9 (iD rfl (iD (aF rfl (f6 n)) (aD rfl rfl (FN _)))) rfl))
 | add d v d2 v2=>
  rw [w44]
  exact kP rfl (cO rfl (tQ rfl (cM (AF rfl (AF (iW (TR (aF rfl (f6 n)))) (iW (TR (aF rfl (f6 n)))))) (d9 (iD (aD rfl rfl (FN _)) (aD rfl rfl (FN _))) rfl))))
 | pile a=>
  rw [w44]
  exact kP rfl (cO rfl (cO rfl (cM (AF rfl (neF rfl rfl (K2 _))) (k7 rfl (d9 rfl rfl)))))
 | pileN a d v=>
  rw [w44]
  exact kP rfl (cO rfl (cO rfl (cM (AF rfl (neF rfl rfl (K2 _))) (cM rfl (d9 (iD (aF rfl (f6 n)) (aD rfl rfl (FN _))) rfl)))))
 | _=>cases h
theorem NK {x:DD}(h:x.dj):cN (n+3) 45 [x.val,x.iC] m=.ok (.bl true,m):=by
 have hn:=no2 (yr h) (wo h)
 cases x with
 | join d v=>
  rw [AB]
  exact kP hn (cM rfl (k7 rfl (d9 (aF rfl (qr n (x:=.join d v) trivial)) rfl)))
 | add d v d2 v2=>
  rw [AB]
  exact kP hn (cM rfl (k7 rfl (d9 (aF rfl (qr n (x:=.add d v d2 v2) trivial)) rfl)))
 | pile a=>
  rw [AB]
  exact kP hn (cM rfl (k7 rfl (d9 (aF rfl (qr n (x:=.pile a) trivial)) rfl)))
 | pileN a d v=>
  rw [AB]
  exact kP hn (cM rfl (k7 rfl (d9 (aF rfl (qr n (x:=.pileN a d v) trivial)) rfl)))
 | drop=>
  rw [AB]
  exact kP hn (cM rfl (cM rfl (tQ rfl (d9 rfl rfl))))
 | print=>
  rw [AB]
  exact kP hn (cM rfl (cM rfl (cO rfl (tQ rfl (d9 rfl rfl)))))
 | done=>
  rw [AB]
  exact kP hn (cM rfl (cM rfl (cO rfl (cO rfl (tQ rfl (d9 rfl rfl))))))
 | bring a=>
  rw [AB]
  exact kP hn (cM rfl (cM rfl (cO rfl (cO rfl (cO rfl (tQ rfl (d9 (iD rfl (aD rfl rfl (FJ _))) rfl)))))))
 | go a=>
  rw [AB]
  exact kP hn (cM rfl (cM rfl (cO rfl (cO rfl (cO rfl (cO rfl (cO rfl (tQ rfl (d9 (iD rfl (aD rfl rfl (FJ _))) rfl)))))))))
 | say l=>
  rw [AB]
  exact kP hn (cM rfl (cM rfl (cO rfl (cO rfl (cO rfl (cO rfl (cO rfl (cO rfl (tQ rfl (d9 (iD rfl (aD rfl rfl (FJ _))) rfl))))))))))
 | tell=>
  rw [AB]
  exact kP hn (cM rfl (cM rfl (cO rfl (cO rfl (cO rfl (cO rfl (cO rfl (cO rfl (cO rfl (tQ rfl (d9 rfl rfl)))))))))))
 | swap e w t l=>
  rw [AB]
  exact kP hn (cM rfl (cM rfl (cO rfl (cO rfl (cO rfl (cO rfl (cO rfl (cO rfl (cO rfl (cO rfl (cM (AF rfl (AF (iW (TR (aF rfl (qq (n+1) h)))) (neF rfl rfl (K2 _)))) (d9 (iD rfl (aD rfl rfl (ad3 _))) rfl))))))))))))
theorem abq {a:List Nat}:cN (n+3) 45 [(.obj 12 [.str a]),(.tup [.str [109,97,114,107],.str a])] m=.ok (.bl true,m):=by
 rw [AB]
 exact kP rfl (cM rfl (cM rfl (cO rfl (cO rfl (cO rfl (cO rfl (tQ rfl (d9 (iD rfl (aD rfl rfl (FJ _))) rfl))))))))
def LN.K3:LN->T
 | .full c _=>c.iC
 | _=>.tup [.str [97,108,119,97,121,115]]
def LN.K4:LN->T
 | .mark a=>.tup [.str [109,97,114,107],.str a]
 | .bare x=>x.iC
 | .full _ x=>x.iC
abbrev fP (x:LN):T:=.tup [.str x.sh,x.K3,x.K4]
structure FU (x:LN):Prop where
 ok:x.ok
 sh:x.dj
 fi:x.mq
theorem FW {x:LN}(h:x.dj):noOwn (fP x)=true:=by
 show (true&&(noOwn x.K3&&(noOwn x.K4&&true)))=true
 cases x with
 | mark a=>rfl
 | bare d=>
  show (true&&(true&&(noOwn d.iC&&true)))=true
  rw [wo h];rfl
 | full c d=>
  show (true&&(noOwn c.iC&&(noOwn d.iC&&true)))=true
  rw [FQ h.1,wo h.2];rfl
theorem tR {c d:FT}{s s1:S}{R:Res (Bool × S)}(h:c s=.ok (true,s1)) (k:d s1=R):dw c d s=R:=by
 unfold dw
 rw [h];exact k
theorem j9 {d:List Nat}{v:Int}(h:wg d v):10 ∉ d:=fun z=>absurd (h.nm.hd 10 z) (by decide)
theorem wt {w:List Nat}{t:T}(h:m_ w t):10 ∉ w:=fun z=>by
 obtain ⟨f,its,b,h1,h2,rfl,rfl⟩:=h
 exact absurd (mh h1 10 z).1 (by decide)
theorem jK {a:List Nat}(h:j4 a):10 ∉ a:=fun z=>absurd (h.hd 10 z) (by decide)
theorem yv {a:List Nat}(h:ND a):10 ∉ a:=fun z=>absurd (h.h 10 z).1 (by decide)
theorem wu {x:RP}(h:x.dj):10 ∉ x.sh:=by
 cases x with
 | row d v=>simp [RP.sh,j9 h]
 | like w t=>simp [RP.sh,wt h]
theorem FY {x:PC}(h:x.dj):10 ∉ x.sh:=by
 cases x with
 | last=>simp [PC.sh]
 | soon d v w t=>simp [PC.sh,j9 h.1,wt h.2]
 | ft x y=>simp [PC.sh,wu h.1,wu h.2]
 | rp x=>exact wu h
theorem TU {x:CD}(h:x.dj):10 ∉ x.sh:=by
 cases x with
 | fin=>simp [CD.sh]
 | no x=>simp [CD.sh,FY h]
 | pc x=>exact FY h
theorem FZ {x:DD}(ho:x.ok) (h:x.dj):10 ∉ x.sh:=by
 cases x with
 | say l=>simp [DD.sh,yv ho]
 | swap e w t l=>cases e<;>simp [DD.sh,FA,wt h,yv ho.2]
 | join d v=>simp [DD.sh,j9 h]
 | pile a=>simp [DD.sh,jK ho]
 | pileN a d v=>simp [DD.sh,jK ho.1,j9 h]
 | bring a=>simp [DD.sh,jK ho]
 | go a=>simp [DD.sh,jK ho]
 | add d v d2 v2=>simp [DD.sh,j9 h.1,j9 h.2]
 | _=>simp [DD.sh]
theorem TV {x:LN}(ho:x.ok) (h:x.dj):10 ∉ x.sh:=by
 cases x with
 | mark a=>simp [LN.sh,jK ho]
 | bare x=>exact FZ ho h
 | full c x=>simp [LN.sh,TU h.1,FZ ho.2 h.2]
theorem abr (x:DD):x.sh≠[]:=by
 cases x with
 | swap e w t l=>cases e<;>simp [DD.sh,FA]
 | _=>simp [DD.sh]
theorem abt (x:LN):x.sh≠[]:=by
 cases x with
 | mark a=>simp [LN.sh]
 | bare x=>exact abr x
 | full c x=>simp [LN.sh]
theorem tU:∀ {xs:List LN},xs≠[]->bh [10] (xs.map LN.sh)++[10]=(qy xs).flatten
 | [],h=>absurd rfl h
 | [x],_=>by show x.sh++[10]=(x.sh++[10])++[];rw [dH]
 | x::y::r,_=>by
  show x.sh++[10]++bh [10] ((y::r).map LN.sh)++[10]=(x.sh++[10])++(qy (y::r)).flatten
  rw [ky,tU (by simp)]
theorem tW:∀ (l:List (List Nat)) (k:Nat),(∀ x∈l,x.length<=k)->(l.map (·.length)).sum<=k*l.length/\(bh [10] l).length<=(k+1)*l.length
 | [],k,_=>⟨gD _,gD _⟩
 | [a],k,h=>by
  have:=h a (eo.mpr rfl)
  constructor
  ·show a.length+0<=k*1;omega
  ·show a.length<=(k+1)*1;omega
 | a::b::r,k,h=>by
  obtain ⟨h1,h2⟩:=tW (b::r) k fun x hx=>h x (eZ _ hx)
  have:=h a (eE ..)
  rw [cQ (a:=a)]
  constructor
  ·show a.length+((b::r).map (·.length)).sum<=_
   rw [LV];omega
  ·show (a++[10]++bh [10] (b::r)).length<=_
   rw [bJ,bJ,LV]
   show a.length+1+_<=_
   omega
theorem K5 (xs:List LN):dG xs=(xs.map LN.sh).map T.str:=by
 rw [kB]
 apply Bq
 intro x _
 show T.str (x.txt [])=T.str x.sh
 rw [abh,dH]
theorem NL {α:Type}(v:α->T) {xs:List α}{k:Nat}(h:k<xs.length):gi (.lst (xs.map v)) (.int (0+(k:Nat)))=some (v xs[k]):=by
 show atT (xs.map v) (0+(k:Int))=_
 rw [Int.zero_add,p9 (by rw [cT];exact h),gb,dR h];rfl
theorem ad5 {g:List T->Option (List T)}{fl:FL}{s s1:S}{ts us:List T}(h:fl s=.ok (ts,s1)) (k:g ts=some us):wZ g fl s=.ok (us,s1):=by
 unfold wZ
 rw [h]
 refine Eq.trans (bK _ _) ?_
 dsimp only
 rw [k];rfl
theorem abu {x:LN}(h:x.dj):cN (n+4) 43 [x.cond,x.K3] m=.ok (.bl true,m):=by
 cases x with
 | mark a=>exact NJ n
 | bare d=>exact NJ n
 | full c d=>exact abp n h.1
theorem TX {x:LN}(h:x.dj):cN (n+3) 45 [x.fY,x.K4] m=.ok (.bl true,m):=by
 cases x with
 | mark a=>exact abq n
 | bare d=>exact NK n h
 | full c d=>exact NK n h.2
abbrev d_ (xs:List LN):T:=.obj 0 [.lst (aW xs)]
def Bx (k:Nat) (m:List Ob):Prop:=∃ a b:Int,m[k]?=some ⟨50,[.ol [.int a,.int b]]⟩/\0<=a/\1<=b
def av (a b:Int):Int:=if a=0 then b else a
theorem yw {k:Nat}{a b many:Int}(h:m[k]?=some ⟨50,[.ol [.int a,.int b]]⟩) (hm:0<many/\many<1073741824):cN (n+1) 48 [.own k,.int many] m=.ok (.int (av a b % many),m.set k ⟨50,[.ol [.int (av a b/many),.int b]]⟩):=by
 have hk:k<m.length:=(cU.mp h).1
 have fin:∀ m',m'[k]?=some ⟨50,[.ol [.int (av a b),.int b]]⟩->ah (aA 2 (oM (kL 50 (vF 0) (cI 0)) (vF 1)))
   (ah (lC 50 (vF 0) (cI 0) (oD (kL 50 (vF 0) (cI 0)) (vF 1)))
   (ak (vF 2))) ⟨[sv (.own k),sv (.int many),none],m'⟩=.ok (.rt (.int (av a b % many)),⟨[sv (.own k),sv (.int many),sv (.int (av a b % many))],m'.set k ⟨50,[.ol [.int (av a b/many),.int b]]⟩⟩):=fun m' h=>by
  have e:∀ u,kL 50 (vF 0) (cI 0) ⟨[sv (.own k),sv (.int many),u],m'⟩=.ok (.int (av a b),⟨[sv (.own k),sv (.int many),u],m'⟩):=fun u=>bx1 (k:=k) (zs:=[.int (av a b),.int b]) (j:=0) rfl h rfl rfl
  exact seq1 (dB (t:=.int (av a b % many)) (s':=⟨[sv (.own k),sv (.int many),none],m'⟩) (aD (e none) rfl (AK hm.1))) (seq1 (bpt (k:=k) (zs:=[.int (av a b),.int b]) (j:=0) (v:=.int (av a b/many)) (aD (e _) rfl (FH hm)) rfl h rfl ⟨by decide,by show (0:Int)<2;decide⟩) rfl)
 rw [w48]
 have ec:_root_.D.aZ (oE (kL 50 (vF 0) (cI 0)) (cI 0)) ⟨[sv (.own k),sv (.int many),none],m⟩=.ok (decide (a=0),⟨[sv (.own k),sv (.int many),none],m⟩):=j8 (aD (bx1 (k:=k) (zs:=[.int a,.int b]) (t:=.int a) (j:=0) rfl h rfl rfl) rfl (qe _ _))
 by_cases h0:a=0
 ·have ha:av a b=b:=if_pos h0
  have e2:m.set k ⟨50,[.ol [.int (av a b/many),.int b]]⟩=(m.set k ⟨50,[.ol [.int b,.int b]]⟩).set k ⟨50,[.ol [.int (av a b/many),.int b]]⟩:=by rw [List.set_set]
  rw [e2]
  refine aS rfl (seq1 (s':=⟨[sv (.own k),sv (.int many),none],m.set k ⟨50,[.ol [.int b,.int b]]⟩⟩) (kZ (s':=⟨[sv (.own k),sv (.int many),none],m⟩) (ec.trans (by rw [decide_eq_true h0])) (bpt (k:=k) (zs:=[.int a,.int b]) (j:=0) (v:=.int b) (bx1 (k:=k) (zs:=[.int a,.int b]) (t:=.int b) (j:=1) rfl h rfl rfl) rfl h rfl ⟨by decide,by show (0:Int)<2;decide⟩)) (fin _ ?_)) rfl
  rw [gB hk,ha]
 ·have ha:av a b=a:=if_neg h0
  exact aS rfl (seq1 (s':=⟨[sv (.own k),sv (.int many),none],m⟩) (dN (s':=⟨[sv (.own k),sv (.int many),none],m⟩) (ec.trans (by rw [decide_eq_false h0])) rfl) (fin m (by rw [ha];exact h))) rfl
theorem F0 {a b:Int}(h1:0<=a) (h2:1<=b):1<=av a b:=by unfold av;split<;>omega
theorem tk {s:S}{fl:FL}{k:Nat}{many:Int}{Q:T × S->Prop}(hv:fl s=.ok ([.own k,.int many],s)) (hb:Bx k s.m) (hm:0<many/\many<1073741824) (h:∀ d m',0<=d->d<many->Bx k m'->Q (.int d,⟨s.r,m'⟩)):W (ai (cN (n+1) 48) [] fl s) Q:=by
 obtain ⟨a,b,e,h1,h2⟩:=hb
 have hk:k<s.m.length:=(cU.mp e).1
 have hp:=F0 h1 h2
 exact b9 (W.of hv (W.of (yw n e hm) (h _ _ (wF _ (by omega)) (BS _ hm.1) ⟨_,b,gB hk,LZ (by omega) (by omega),h2⟩)))
theorem tkE {s:S}{fl:FL}{k:Nat}{many j:Int}{Q:T × S->Prop}(hv:fl s=.ok ([.own k,.int many],s)) (hb:Bx k s.m) (hm:0<many/\many<1073741824) (h:∀ d m',Bx k m'->Q (.bl d,⟨s.r,m'⟩)):W (oE (ai (cN (n+1) 48) [] fl) (cI j) s) Q:=
 sH (tk n hv hb hm fun d m' _ _ b=>W.of (a:=(.int j,⟨s.r,m'⟩)) rfl ⟨_,qe _ _,h _ _ b⟩)
theorem K6 {s:S}{fl:FL}{k:Nat}{many j:Int}{Q:T × S->Prop}(hv:fl s=.ok ([.own k,.int many],s)) (hb:Bx k s.m) (hm:0<many/\many<1073741824) (h:∀ d m',j<=d->d<j+many->Bx k m'->Q (.int d,⟨s.r,m'⟩)):W (oA (cI j) (ai (cN (n+1) 48) [] fl) s) Q:=
 sH (W.of (a:=(.int j,s)) rfl (tk n hv hb hm fun d m' h1 h2 b=>⟨_,AL _ _,h _ _ (by omega) (by omega) b⟩))
theorem hU {l:List Nat}{d:Int}(h1:0<=d) (h2:d<l.length):∃ c∈l,gi (.str l) (.int d)=some (.str [c]):=by
 have fL:d.toNat<l.length:=by omega
 refine ⟨l[d.toNat],Bh fL,?_⟩
 show (atT l d).map _=_
 unfold atT
 rw [if_pos h1,if_pos h2,dR fL]
 rfl
theorem ixL {l:List T}{d:Int}(h1:0<=d) (h2:d<l.length):∃ c∈l,gi (.lst l) (.int d)=some c:=by
 have fL:d.toNat<l.length:=by omega
 refine ⟨l[d.toNat],Bh fL,?_⟩
 show atT l d=_
 unfold atT
 rw [if_pos h1,if_pos h2,dR fL]
theorem K7 {d:Int}(h:0<=d) (h2:d<=100000):mV [.int d]=some (mF 0 d.toNat):=jI (by omega)
theorem gv (d:Nat):(mF 0 d).length=d:=by unfold mF;rw [cT,Gx]
theorem yx {k:Nat}{l:List Nat}{z:Int}(hb:Bx k m) (h0:0<l.length) (h1:l.length<=100) (h2:0<=z) (h3:z<=1000):W (cN (n+2) 49 [.own k,.str l,.int z] m) fun p=>∃ w,p.1=.str w/\(w.length:Int)=z/\(∀ c∈w,c∈l)/\Bx k p.2:=by
 rw [w49]
 refine lR rfl (EZ ?_)
 have e:W (bP (bj (wZ mV (k1 (vF 2))) 2 [0,1] (setG 1) dg (oI (vF 3) (ai (cN (n+1) 48) [] (k2 (vF 2) (aK ba (k1 (vF 3))))))) ⟨[sv (.own k),sv (.str l),sv (.int z)],m⟩) fun p=>∃ w:List Nat,p.1=.lst ((w.map fun c=>[c]).map T.str)/\(w.length:Int)=z/\(∀ c∈w,c∈l)/\Bx k p.2.m:=by
  refine aa2 (NB (W.of (a:=(mF 0 z.toNat,⟨[sv (.own k),sv (.str l),sv (.int z)],m⟩)) ?_ ⟨by rw [gv];omega,?_⟩))
  ·have er:=K7 h2 (by omega:z<=100000)
   unfold wZ
   simp only [ev,d8,bK,dh,er]
  ·refine (wGo (I:=Bx k) (R:=fun t=>∃ c,c∈l/\t=.str [c]) (fun t _ m hb=>⟨[none,sv t,sv (.own k),sv (.str l)],rfl,sH (W.of (a:=(.str l,⟨[none,sv t,sv (.own k),sv (.str l)],m⟩)) rfl (tk n (k:=k) (many:=(l.length:Nat)) rfl hb (by omega) fun d m' q1 q2 b=>?_))⟩) m hb).mono fun p ⟨q1,q2,q3⟩=>?_
   ·obtain ⟨c,hc,e⟩:=hU q1 q2
    exact ⟨_,e,⟨c,hc,rfl⟩,b⟩
   ·obtain ⟨w,e,hw⟩:=E3 (f:=fun c:Nat=>T.str [c]) q2
    refine ⟨w,?_,?_,hw,q3⟩
    ·show T.lst p.1=_
     rw [e,kB];rfl
    ·rw [e,cT,gv] at q1
     omega
 obtain ⟨p,e1,w,e2,hw,hl,AX⟩:=e
 have ej:=join_eq (l:=w.map fun c=>[c]) (by rw [mE];omega)
 rw [mE] at ej
 refine ⟨(.str w,p.2),?_,w,rfl,hw,hl,AX⟩
 obtain ⟨t,s⟩:=p
 cases e2
 have e1':bP (bj (wZ mV (k1 (vF 2))) 2 [0,1] (setG 1) dg (oI (vF 3) (ai (cN (n+1) 48) [] (k2 (vF 2) (aK ba (k1 (vF 3))))))) ⟨[sv (.own k),sv (.str l),sv (.int z)],m⟩=_:=e1
 show jB joinM (cS []) (k1 (bP _)) _=_
 simp only [ev,bK,dh]
 show Res.bind (Res.bind (bP _ ⟨[sv (.own k),sv (.str l),sv (.int z)],m⟩) _) _=_
 rw [e1']
 simp only [bK,dh,ej]
theorem wx {k:Nat}(hb:Bx k m):W (cN (n+3) 50 [.own k] m) fun p=>∃ a,p.1=.str a/\j4 a/\Bx k p.2:=by
 rw [w50]
 refine lR rfl (EZ (b9 (fG (W.of (a:=(.own k,⟨[sv (.own k)],m⟩)) rfl (fG (W.of (a:=(.str iV,⟨[sv (.own k)],m⟩)) rfl (fG (K6 (n+1) (k:=k) (many:=8) rfl hb (by decide) fun d m' h1 h2 b=>W.of (a:=([],⟨[sv (.own k)],m'⟩)) rfl ?_))))))))
 refine (yx n b (l:=iV) (z:=d) (by decide) (by decide) (by omega) (by omega)).mono fun p ⟨w,e,q1,q2,q3⟩=>⟨w,e,⟨q2,fun z=>?_,by omega⟩,q3⟩
 rw [z] at q1
 have:((0:Nat):Int)=d:=q1
 omega
theorem k8 {k:Nat}{most:Int}(hb:Bx k m) (h1:0<=most) (h2:most<=40):W (cN (n+3) 51 [.own k,.int most] m) fun p=>∃ a,p.1=.str a/\ND a/\(a.length:Int)<=most/\Bx k p.2:=by
 rw [w51]
 refine lR rfl (KG (t:=.str iY) (s':=⟨[sv (.own k),sv (.int most),none],m⟩) rfl (EZ (b9 (fG (W.of (a:=(.own k,⟨[sv (.own k),sv (.int most),sv (.str iY)],m⟩)) rfl (fG (W.of (a:=(.str iY,⟨[sv (.own k),sv (.int most),sv (.str iY)],m⟩)) rfl (fG (tk (n+1) (k:=k) (many:=most+1) rfl hb (by omega) fun d m' q1 q2 b=>W.of (a:=([],⟨[sv (.own k),sv (.int most),sv (.str iY)],m'⟩)) rfl ?_)))))))))
 exact (yx n b (l:=iY) (z:=d) (by decide) (by decide) (by omega) (by omega)).mono fun p ⟨w,e,g1,g2,g3⟩=>⟨w,e,⟨fun c hc=>of_decide_eq_true (e_.mp abl c (g2 c hc)),by omega⟩,by omega,g3⟩
theorem yy:∀ (l xs:List Nat),xs.Nodup->xs.length<=(xs.filter fun c=>!decide (c∈l)).length+l.length
 | [],xs,_=>by rw [List.filter_eq_self.mpr fun a _=>by simp];exact uf _ _
 | a::l,xs,h=>by
  have e:(xs.filter fun c=>!decide (c∈a::l))=(xs.erase a).filter fun c=>!decide (c∈l):=by
   rw [h.erase_eq_filter,List.filter_filter]
   congr 1
   funext c
   by_cases q:c=a<;>simp [q]
  have:=yy l (xs.erase a) (h.erase a)
  have h2:xs.length<=(xs.erase a).length+1:=by rw [List.length_erase];split<;>omega
  rw [e,cQ]
  omega
abbrev A0 (k:Nat) (z:Int) (l:List Nat) (u v:Option C) (m:List Ob):S:=⟨[sv (.own k),sv (.int z),sv (.str dP),sv (.str l),u,v],m⟩
structure SgP (l:List Nat):Prop where
 nd:l.Nodup
 mem:∀ c∈l,c∈dP
theorem F1 (n:Nat) {k:Nat}{z:Int}:∀ (ts:List T) (l:List Nat) (u v:Option C) (m:List Ob),Bx k m->SgP l->l.length+ts.length<=12->W (c_ (setG 4) (ah (aA 5 (bP (bj (gZ (vF 2)) 2 [3] (setG 1) (_root_.D.aZ (a_ (aJ .NotIn) (vF 1) (vF 2))) (vF 1))))
   (aA 3 (oA (vF 3) (oI (vF 5) (ai (cN (n+1) 48) [] (k2 (vF 0) (aK ba (k1 (vF 5))))))))) ts (A0 k z l u v m)) fun p=>p.1=.nx/\∃ l' u' v' m',p.2=A0 k z l' u' v' m'/\l'.length=l.length+ts.length/\SgP l'/\Bx k m'
 | [],l,u,v,m,hb,hl,_=>⟨_,rfl,rfl,l,u,v,m,rfl,rfl,hl,hb⟩
 | t::ts,l,u,v,m,hb,hl,hz=>by
  rw [cQ] at hz
  have e1:bP (bj (gZ (vF 2)) 2 [3] (setG 1) (_root_.D.aZ (a_ (aJ .NotIn) (vF 1) (vF 2))) (vF 1)) (A0 k z l (sv t) v m)=.ok (.lst ((dP.filter fun c=>!decide (c∈l)).map fun c=>.str [c]),A0 k z l (sv t) v m):=by
   refine ie (ic (ts:=dP.map fun c=>T.str [c]) (s1:=A0 k z l (sv t) v m) rfl (by rw [cT];decide) (eY (fun c:Nat=>T.str [c]) (fun c=>!decide (c∈l)) fun c _=>?_))
   exact ⟨[none,sv (.str [c]),sv (.str l)],[none,sv (.str [c]),sv (.str l)],[none,sv (.str [c]),sv (.str l)],rfl,rfl,rfl⟩
  have hf:=yy l dP ad0
  have h91:dP.length=91:=rfl
  have fL:=BB (fun c=>!decide (c∈l)) dP
  generalize hL:(dP.filter fun c=>!decide (c∈l))=left at e1 hf fL
  obtain ⟨⟨o,s1⟩,e2,rfl,x,m',rfl,hx,AX⟩:W (ah (aA 5 (bP (bj (gZ (vF 2)) 2 [3] (setG 1) (_root_.D.aZ (a_ (aJ .NotIn) (vF 1) (vF 2))) (vF 1))))
   (aA 3 (oA (vF 3) (oI (vF 5) (ai (cN (n+1) 48) [] (k2 (vF 0) (aK ba (k1 (vF 5)))))))) (A0 k z l (sv t) v m)) fun p=>p.1=.nx/\∃ x m',p.2=A0 k z (l++[x]) (sv t) (sv (.lst (left.map fun c=>.str [c]))) m'/\x∈left/\Bx k m':=by
   refine vZ (j1 (W.of e1 ⟨rfl,j1 (sH (W.of (a:=(.str l,A0 k z l (sv t) (sv (.lst (left.map fun c=>.str [c]))) m)) rfl (sH (W.of (a:=(.lst (left.map fun c=>.str [c]),A0 k z l (sv t) (sv (.lst (left.map fun c=>.str [c]))) m)) rfl (tk n (k:=k) (many:=((left.map fun c=>T.str [c]).length:Nat)) rfl hb (by rw [cT];omega) fun d m' h1 h2 b=>?_)))))⟩))
   obtain ⟨q,hq,e⟩:=ixL h1 h2
   obtain ⟨x,hx,rfl⟩:=i9.mp hq
   exact ⟨_,e,_,bA (by show _+1<=_;omega),rfl,x,m',rfl,hx,b⟩
  rw [<- hL] at hx
  obtain ⟨x1,x2⟩:=Gu.mp hx
  have hg:SgP (l++[x]):=⟨by
   rw [Bg]
   refine ⟨hl.nd,by simp,fun a ha b hb e=>?_⟩
   rw [eo.mp hb] at e
   subst e
   simp [ha] at x2,fun c hc=>by
   rcases f_.mp hc with q | q
   ·exact hl.mem c q
   ·rw [eo.mp q];exact x1⟩
  obtain ⟨p,e3,q1,l',u',v',m'',q2,q3,q4,q5⟩:=F1 n ts (l++[x]) (sv t) _ m' AX hg (by rw [bJ];show _+1+_<=_;omega)
  refine ⟨p,dQ (r:=[sv (.own k),sv (.int z),sv (.str dP),sv (.str l),sv t,v]) rfl e2 e3,q1,l',u',v',m'',q2,?_,q4,q5⟩
  rw [q3]
  simp only [bJ,cQ,dm]
  omega
theorem NN {k:Nat}{z:Int}(hb:Bx k m) (h1:1<=z) (h2:z<=12):W (cN (n+2) 52 [.own k,.int z] m) fun p=>∃ l,p.1=.str l/\Sg l/\Bx k p.2:=by
 rw [w52]
 refine lR rfl (KG (t:=.str dP) (s':=⟨[sv (.own k),sv (.int z),none,none,none,none],m⟩) rfl (KG (t:=.str []) (s':=⟨[sv (.own k),sv (.int z),sv (.str dP),none,none,none],m⟩) rfl (kM ?_)))
 have hg:=F1 n (k:=k) (z:=z) (mF 0 z.toNat) [] none none m hb ⟨LC,fun _ h=>(nomatch h)⟩ (by rw [gv];show 0+_<=_;omega)
 obtain ⟨⟨o,s1⟩,e,rfl,l,u,v,m',rfl,q1,q2,q3⟩:=hg
 refine W.of (mY (ts:=mF 0 z.toNat) (s1:=A0 k z [] none none m) ?_ e) ⟨rfl,d9 (t:=.str l) (s':=A0 k z l u v m') rfl ⟨l,rfl,⟨fun h=>?_,?_,q2.nd,fun c hc=>of_decide_eq_true (e_.mp abj c (q2.mem c hc))⟩,q3⟩⟩
 ·have er:=K7 (d:=z) (by omega) (by omega)
  show wZ mV (k1 (vF 1)) (A0 k z [] none none m)=_
  unfold wZ
  simp only [ev,d8,bK,dh,er]
 ·rw [h,gv] at q1
  have:(0:Nat)=0+z.toNat:=q1
  omega
 ·rw [gv] at q1
  have:l.length=0+z.toNat:=q1
  omega
theorem TY {k:Nat}(hb:Bx k m):W (cN (n+3) 53 [.own k] m) fun p=>∃ i:Itm,i.ok/\p.1=.tup [.str i.txt,i.val]/\Bx k p.2:=by
 rw [w53]
 refine lR rfl (dD (tk (n+1) (k:=k) (many:=4) rfl hb (by decide) fun d m1 h1 h2 b1=>?_))
 obtain ⟨mn,hmn,e1,e2⟩:∃ mn:Nat,(mn=49\/mn=42\/mn=43\/mn=63)/\gi (.str [49,42,43,63]) (.int d)=some (.str [mn])/\gi (.lst [.str [],.str [42],.str [43],.str [63]]) (.int d)=some (.str (gK mn)):=by
  have h:d=0\/d=1\/d=2\/d=3:=by omega
  rcases h with rfl | rfl | rfl | rfl
  ·exact ⟨49,by decide,rfl,rfl⟩
  ·exact ⟨42,by decide,rfl,rfl⟩
  ·exact ⟨43,by decide,rfl,rfl⟩
  ·exact ⟨63,by decide,rfl,rfl⟩
 have hm:(gK mn).length<=1:=by unfold gK;split<;>simp
 refine KG (t:=.str [mn]) (aD rfl rfl e1) (KG (t:=.str (gK mn)) (aD (cj rfl (abk _ _ _ _)) rfl e2) (dD (tk (n+1) (k:=k) (many:=4) rfl b1 (by decide) fun way m2 g1 g2 b2=>?_)))
 have hw:way=0\/way=1\/way=2\/way=3:=by omega
 rcases hw with rfl | rfl | rfl | rfl
 ·refine cM rfl (cM rfl (cM rfl (KG (t:=.str qo) rfl (dD (sH (W.of (a:=(.str qo,_)) rfl (tk (n+1) (k:=k) (many:=85) rfl b2 (by decide) fun d m3 h3 h4 b3=>?_)))))))
  obtain ⟨c,hc,e⟩:=hU (l:=qo) h3 h4
  exact ⟨_,e,d9 (cJ (TE.add (⟨rfl,dS _⟩:TE (vF 6) _ [c] 1) (⟨rfl,hm⟩:TE (vF 3) _ (gK mn) 1)).e (gH rfl rfl rfl)) ⟨⟨.pl c,mn⟩,⟨e_.mp abi c hc,hmn⟩,rfl,b3⟩⟩
 ·exact k7 rfl (d9 (cJ (TE.add (TE.c _) (⟨rfl,hm⟩:TE (vF 3) _ (gK mn) 1)).e (gH rfl rfl rfl)) ⟨⟨.any,mn⟩,⟨trivial,hmn⟩,rfl,b2⟩)
 ·refine cM rfl (k7 rfl (dD (b9 (fG (W.of (a:=(.own k,_)) rfl (fG (K6 (n+1) (k:=k) (many:=12) rfl b2 (by decide) fun d m3 h3 h4 b3=>W.of (a:=([],_)) rfl ((NN n b3 h3 (by omega)).mono fun p zz=>?_))))))))
  obtain ⟨l,e,hl,b4⟩:=zz
  obtain ⟨t,m4⟩:=p
  cases e
  exact d9 (cJ (TE.add (TE.add (TE.add (TE.c _) (⟨rfl,hl.lJ⟩:TE (vF 7) _ l 12)) (TE.c _)) (⟨rfl,hm⟩:TE (vF 3) _ (gK mn) 1)).e (gH rfl rfl rfl)) ⟨⟨.neg l,mn⟩,⟨hl,hmn⟩,rfl,b4⟩
 ·refine cM rfl (cM rfl (k7 rfl (dD (b9 (fG (W.of (a:=(.own k,_)) rfl (fG (K6 (n+1) (k:=k) (many:=12) rfl b2 (by decide) fun d m3 h3 h4 b3=>W.of (a:=([],_)) rfl ((NN n b3 h3 (by omega)).mono fun p zz=>?_)))))))))
  obtain ⟨l,e,hl,b4⟩:=zz
  obtain ⟨t,m4⟩:=p
  cases e
  have fin:∀ (l:List Nat) (m5:List Ob) (u1 u5 u6:Option C),Sg l->sV l false->Bx k m5->WB (ak (aK aL (k2 (oA (oA (oA (cS [91]) (vF 7)) (cS [93])) (vF 3)) (aK aL (k3 (vF 7) (cF (.bl false)) (vF 2)))))) ⟨[sv (.own k),u1,sv (.str [mn]),sv (.str (gK mn)),sv (.int 3),u5,u6,sv (.str l)],m5⟩ (fun p=>∃ i:Itm,i.ok/\p.1=.tup [.str i.txt,i.val]/\Bx k p.2):=fun l m5 u1 u5 u6 h1 h2 b=>d9 (cJ (TE.add (TE.add (TE.add (TE.c _) (⟨rfl,h1.lJ⟩:TE (vF 7) _ l 12)) (TE.c _)) (⟨rfl,hm⟩:TE (vF 3) _ (gK mn) 1)).e (gH rfl rfl rfl)) ⟨⟨.set l,mn⟩,⟨⟨h1,h2⟩,hmn⟩,rfl,b⟩
  refine bIf ⟨_,K1 (i:=(l.length:Nat)) rfl,fun h=>j1 (sH (W.of (a:=(.str [36,46,91,42,43,63],_)) rfl (tk (n+1) (k:=k) (many:=6) rfl b4 (by decide) fun d m5 h5 h6 b5=>?_))),fun h=>fin l m4 _ none none hl (.inr fun c hc=>?_) b4⟩
  ·obtain ⟨c,hc,e⟩:=hU (l:=[36,46,91,42,43,63]) h5 h6
   have hp:[36,46,91,42,43,63].all (fun c=>decide ((c∈gp/\c≠93/\c≠94/\c≠47/\c<128)/\AH c=false))=true:=by decide +kernel
   obtain ⟨p1,p2⟩:=of_decide_eq_true (e_.mp hp c hc)
   exact ⟨_,e,rfl,fin [c] m5 _ none none ⟨by simp,by show 1<=12;decide,by simp,fun x hx=>by rw [eo.mp hx];exact p1⟩ (.inr fun x hx=>by cases hx;exact p2) b5⟩
  ·rw [hc] at h
   exact absurd (show decide (((1:Nat):Int)=1)=false from h) (by decide)
abbrev oj (k:Nat) (l:Int) (f b:Bool) (am:Int) (its:List Itm) (u:Option C) (m:List Ob):S:=⟨[sv (.own k),sv (.int l),sv (.bl f),sv (.bl b),sv (.int am),sv (.lst (ik its)),u],m⟩
theorem fB (f:Bool) (c:Nat):gi (.lst [.str [],.str [c]]) (.int (if f then 1 else 0))=some (.str (if f then [c] else [])):=by cases f<;>rfl
theorem ad6 (f:Itm->T) (l:List Itm):aJ .Eq (.lst (l.map f)) (.lst [])=some (.bl l.isEmpty):=by
 cases l with
 | nil=>rfl
 | cons a l=>rfl
theorem ad7 {a:FE}{s s1:S}{t:T}{ts:List T}(h:a s=.ok (t,s1)) (k:itD t=some ts):gZ a s=.ok (ts,s1):=by
 unfold gZ
 rw [h];refine Eq.trans (bK _ _) ?_
 dsimp only
 rw [k];rfl
abbrev r54:FS:=ah (aA 6 (oA (oA (oI (aK eU (k2 (cS []) (cS [94]))) (aK pJ (k1 (vF 2)))) (jB joinM (cS []) (k1 (bP (bj (gZ (vF 5)) 2 [] (setG 1) dg (oI (vF 1) (cI 0))))))) (oI (aK eU (k2 (cS []) (cS [36]))) (aK pJ (k1 (vF 3))))))
 (ak (aK aL (k2 (vF 6) (aK aL (k3 (vF 2) (bP (bj (gZ (vF 5)) 2 [] (setG 1) dg (oI (vF 1) (cI 1)))) (vF 3))))))
theorem F2 {k:Nat}{l am:Int}{f b:Bool}{its:List Itm}{G:T × List Ob->Prop}(h:∀ i∈its,i.ok) (hl:its.length<=8) (hg:G (.tup [.str (bH f its b),a6 f its b],m)):WB r54 (oj k l f b am its none m) G:=by
 have hx:=mi h
 have e:∀ (u:Option C) (j:Int) (F:Itm->T),(∀ i:Itm,gi (.tup [.str i.txt,i.val]) (.int j)=some (F i))->bP (bj (gZ (vF 5)) 2 [] (setG 1) dg (oI (vF 1) (cI j))) (oj k l f b am its u m)=.ok (.lst (its.map F),oj k l f b am its u m):=fun u j F hF=>ie (ic (ts:=ik its) (s1:=oj k l f b am its u m) rfl (by rw [cT];omega) (fZ (fun i:Itm=>.tup [.str i.txt,i.val]) F fun i _=>⟨[none,sv (.tup [.str i.txt,i.val])],[none,sv (.tup [.str i.txt,i.val])],rfl,aD rfl rfl (hF i)⟩))
 have ej:=join_eq (l:=its.map Itm.txt) (by rw [j7];omega)
 rw [j7,kB] at ej
 have e6:jB joinM (cS []) (k1 (bP (bj (gZ (vF 5)) 2 [] (setG 1) dg (oI (vF 1) (cI 0))))) (oj k l f b am its none m)=.ok (.str (a9 its),oj k l f b am its none m):=by
  simp only [ev,bK,dh,e none 0 (fun i=>.str i.txt) (fun _=>rfl)]
  show Res.bind (cK (joinM [] [.lst (its.map (T.str∘Itm.txt))])) _=_
  rw [ej];rfl
 have lf:∀ (f:Bool) (c:Nat),(if f then [c] else []:List Nat).length<=1:=fun f c=>by cases f<;>simp
 refine KG (t:=.str (bH f its b)) (TE.as (TE.add (TE.add (⟨aD (cj rfl (TQ _ _)) (cj rfl rfl) (fB f 94),lf f 94⟩:TE _ (oj k l f b am its none m) (fT f) 1) (⟨e6,by omega⟩:TE _ _ (a9 its) 128)) (⟨aD (cj rfl (TQ _ _)) (cj rfl rfl) (fB b 36),lf b 36⟩:TE _ _ (bT b) 1)) (ky _ _ _)) ?_
 exact d9 (cJ rfl (gH rfl (e _ 1 Itm.val fun _=>rfl) rfl)) hg
abbrev a54:List T:=[.str [32,116,111,32],.str [58,32,100,114,111,112],.str [32,116,111,32,114,111,119,32],.str [110,111,116,32]]
theorem K8 {am:Int}(h1:0<=am) (h2:am<4):∃ w:List Nat,gi (.lst a54) (.int am)=some (.str w)/\w.length<=8/\∀ c∈w,AH c=true:=by
 have h:am=0\/am=1\/am=2\/am=3:=by omega
 have al:∀ w:List Nat,w.all AH=true->∀ c∈w,AH c=true:=fun w=>e_.mp
 rcases h with rfl | rfl | rfl | rfl
 ·exact ⟨_,rfl,by decide,al _ (by decide)⟩
 ·exact ⟨_,rfl,by decide,al _ (by decide)⟩
 ·exact ⟨_,rfl,by decide,al _ (by decide)⟩
 ·exact ⟨_,rfl,by decide,al _ (by decide)⟩
abbrev q54:FS:=ah (aQ (dw (_root_.D.aZ (a_ (aJ .Gt) (vF 1) (cI 0))) (_root_.D.aZ (oE (bP (bj (gZ (vF 5)) 2 [] (setG 1) (_root_.D.aZ (a_ (aJ .In) (oI (oI (vF 1) (cI 1)) (cI 2)) (cS [49,43]))) (vF 1))) (aK eU b_))))
  (aA 5 (oA (mU (vF 5) rJ (kJ (cI 7))) (aK eU (k1 (aK aL (k2 (cS [120]) (aK aL (k3 (cS [120]) (cF (.bl false)) (cS [49])))))))))
  ao) r54
theorem abv {α:Type}(l:List α):bD l none (some 7)=l.take 7:=by
 unfold bD
 show (l.drop 0).take (min 7 l.length-0)=_
 rw [Bf,Nat.sub_zero]
 by_cases h:7<=l.length
 ·rw [BK h]
 ·rw [Nat.min_eq_right (by omega),LD,Lr (by omega)]
theorem abw {k:Nat}{lst am:Int}{f b:Bool}{its:List Itm}{G:T × List Ob->Prop}(hz:lst=0\/lst=1) (h:∀ i∈its,i.ok) (hl:its.length<=8) (hg:∀ its:List Itm,(∀ i∈its,i.ok)->its.length<=8->(lst=1->0<least its)->G (.tup [.str (bH f its b),a6 f its b],m)):WB q54 (oj k lst f b am its none m) G:=by
 rcases hz with rfl | rfl
 ·exact cM rfl (F2 h hl (hg its h hl fun z=>by cases z))
 ·have ef:(its.filter fun i=>decide (i.mn∈[49,43]))=its.filter fun i=>!Fq i:=LF fun i hi=>abn (h i hi)
  have e:_root_.D.aZ (oE (bP (bj (gZ (vF 5)) 2 [] (setG 1) (_root_.D.aZ (a_ (aJ .In) (oI (oI (vF 1) (cI 1)) (cI 2)) (cS [49,43]))) (vF 1))) (aK eU b_)) (oj k 1 f b am its none m)=.ok ((its.filter fun i=>!Fq i).isEmpty,oj k 1 f b am its none m):=by
   rw [<- ef]
   refine j8 (aD (ie (ic (ts:=ik its) (s1:=oj k 1 f b am its none m) rfl (by rw [cT];omega) (eY (fun i:Itm=>T.tup [.str i.txt,i.val]) (fun i=>decide (i.mn∈[49,43])) fun i _=>⟨[none,sv (.tup [.str i.txt,i.val])],[none,sv (.tup [.str i.txt,i.val])],[none,sv (.tup [.str i.txt,i.val])],rfl,rfl,rfl⟩))) (cj rfl (jI (gD _))) (ad6 _ _))
  refine bIf ⟨_,tR rfl e,fun q=>?_,fun q=>F2 h hl (hg its h hl fun _=>?_)⟩
  ·have X1:∀ i∈its.take 7++[⟨.pl 120,49⟩],i.ok:=fun i hi=>by
    rcases f_.mp hi with z | z
    ·exact h i (LG z)
    ·rw [eo.mp z];exact ⟨show AH 120=true by decide,.inl rfl⟩
   have X2:(its.take 7++[(⟨.pl 120,49⟩:Itm)]).length<=8:=by
    rw [bJ,yE]
    show min 7 _+1<=8
    omega
   have X3:0<least (its.take 7++[⟨.pl 120,49⟩]):=List.length_pos_of_mem (a:=⟨.pl 120,49⟩) (Gu.mpr ⟨k_ _ (eo.mpr rfl),rfl⟩)
   have X4:oA (mU (vF 5) rJ (kJ (cI 7))) (aK eU (k1 (aK aL (k2 (cS [120]) (aK aL (k3 (cS [120]) (cF (.bl false)) (cS [49]))))))) (oj k 1 f b am its none m)=.ok (.lst (ik (its.take 7++[⟨.pl 120,49⟩])),oj k 1 f b am its none m):=by
    rw [show ik (its.take 7++[⟨.pl 120,49⟩])=bD (ik its) none (some 7)++[.tup [.str [120],.tup [.str [120],.bl false,.str [49]]]] by rw [abv,ik,oG,Lq];rfl]
    refine aD (t:=.lst (bD (ik its) none (some 7))) (u:=.lst [.tup [.str [120],.tup [.str [120],.bl false,.str [49]]]]) (s1:=oj k 1 f b am its none m) rfl (cj (aP (cJ rfl (gH rfl rfl rfl)) rfl) (ad1 _)) (jI ?_)
    rw [abv,yE]
    show min 7 _+1<=_
    omega
   generalize its.take 7++[⟨.pl 120,49⟩]=X at X1 X2 X3 X4
   refine j1 ⟨_,X4,rfl,?_⟩
   show WB r54 (oj k 1 f b am X none m) G
   exact F2 X1 X2 (hg X X1 X2 fun _=>X3)
  ·have q:(its.filter fun i=>!Fq i).isEmpty=false:=q
   unfold least
   exact List.length_pos_iff.mpr fun z=>by rw [z] at q;cases q
theorem NO {k:Nat}{lst:Int}(hb:Bx k m) (hl:lst=0\/lst=1):W (cN (n+4) 54 [.own k,.int lst] m) fun p=>∃ f its b,(∀ i∈its,i.ok)/\its.length<=8/\p.1=.tup [.str (bH f its b),a6 f its b]/\(lst=1->0<least its)/\Bx k p.2:=by
 rw [w54]
 refine lR rfl (dD (tkE (n+2) (k:=k) (many:=2) rfl hb (by decide) fun f m1 b1=>?_))
 refine dD (tkE (n+2) (k:=k) (many:=2) rfl b1 (by decide) fun b m2 b2=>?_)
 refine dD (tk (n+2) (k:=k) (many:=16) rfl b2 (by decide) fun am m3 a1 a2 b3=>?_)
 refine dD (aa2 (NB (adR (fG (tk (n+2) (k:=k) (many:=9) rfl b3 (by decide) fun d m4 h1 h2 b4=>W.of (a:=([],_)) rfl ⟨mF 0 d.toNat,K7 h1 (by omega),by show (mF 0 d.toNat).length<=_;rw [gv];omega,?_⟩)))))
 refine (wGo (I:=Bx k) (R:=fun t=>∃ i:Itm,i.ok/\t=.tup [.str i.txt,i.val]) (fun t _ m hb=>⟨[none,sv t,sv (.own k)],rfl,b9 (W.of (a:=([.own k],⟨[none,sv t,sv (.own k)],m⟩)) rfl ((TY n hb).mono fun p ⟨i,q1,q2,q3⟩=>⟨⟨i,q1,q2⟩,q3⟩))⟩) m4 b4).mono fun p zz=>?_
 obtain ⟨q1,q2,q3⟩:=zz
 obtain ⟨us,m5⟩:=p
 obtain ⟨its,e,hi⟩:=E3 (us:=us) (f:=fun i:Itm=>T.tup [.str i.txt,i.val]) q2
 have hn:its.length<=8:=by
  have q1:us.length=_:=q1
  rw [e,cT] at q1
  rw [q1]
  show (mF 0 d.toNat).length<=8
  rw [gv];omega
 have e:us=ik its:=e
 subst e
 have key:∀ its:List Itm,(∀ i∈its,i.ok)->its.length<=8->WB q54 (oj k lst f b am its none m5) fun p=>∃ f its b,(∀ i∈its,i.ok)/\its.length<=8/\p.1=.tup [.str (bH f its b),a6 f its b]/\(lst=1->0<least its)/\Bx k p.2:=fun its h1 h2=>abw hl h1 h2 fun its g1 g2 g3=>⟨f,its,b,g1,g2,rfl,g3,q3⟩
 refine bIf (s:=oj k lst f b am its none m5) ⟨(decide (am<4),oj k lst f b am its none m5),rfl,fun q=>?_,fun _=>key its hi hn⟩
 obtain ⟨w,e,w1,w2⟩:=K8 a1 (of_decide_eq_true q)
 refine j1 (W.of (a:=(.lst (ik (w.map fun c=>⟨.pl c,49⟩)),oj k lst f b am its none m5)) (ie ?_) ⟨rfl,key _ (fun i hi=>?_) (by rw [cT];exact w1)⟩)
 ·rw [ik,kB]
  refine ic (ts:=w.map fun c=>.str [c]) (s1:=oj k lst f b am its none m5) ?_ (by rw [cT];omega) (fZ (fun c:Nat=>T.str [c]) _ fun c _=>⟨[none,sv (.str [c])],[none,sv (.str [c])],rfl,cJ rfl (gH rfl rfl rfl)⟩)
  exact ad7 (aD (cj rfl (abk _ _ _ _)) rfl e) rfl
 ·obtain ⟨c,hc,rfl⟩:=i9.mp hi
  exact ⟨w2 c hc,.inl rfl⟩
theorem NP {k:Nat}(hb:Bx k m):W (cN (n+4) 54 [.own k,.int 0] m) fun p=>∃ w t,m_ w t/\p.1=.tup [.str w,t]/\Bx k p.2:=(NO n hb (.inl rfl)).mono fun p ⟨f,its,b,h1,h2,e,_,hb⟩=>⟨_,_,FI h1 h2,e,hb⟩
theorem F3 {k:Nat}(hb:Bx k m):W (cN (n+5) 55 [.own k] m) fun p=>∃ x:RP,x.ok/\x.dj/\p.1=.tup [.str x.sh,x.iC]/\Bx k p.2:=by
 rw [w55]
 refine lR rfl (bBr (aaY (tkE (n+3) (k:=k) (many:=2) rfl hb (by decide) fun d m1 b1=>⟨d,rfl,fun _=>?_,fun _=>?_⟩)))
 ·refine dD (K6 (n+3) (k:=k) (many:=999) rfl b1 (by decide) fun v m2 h1 h2 b2=>?_)
  have N:=j6 h1 (by omega)
  exact d9 (cJ (TE.add (TE.c _) (TE.nn rfl N)).e (cJ rfl rfl)) ⟨.row (gF v) v,⟨N.nm,h1,by omega⟩,N,rfl,b2⟩
 ·refine dD (b9 (W.of (a:=([.own k,.int 0],_)) rfl ((NP n b1).mono fun p zz=>?_)))
  obtain ⟨w,t,h,e,b2⟩:=zz
  obtain ⟨t',m2⟩:=p
  cases e
  exact d9 (cJ (TE.add (TE.add (TE.c _) (⟨rfl,h.len⟩:TE (oI (vF 1) (cI 0)) _ w 130)) (TE.c _)).e (cJ rfl rfl)) ⟨.like w t,h.pt,h,rfl,b2⟩
abbrev alw:T:=.tup [.str [97,108,119,97,121,115]]
abbrev r56:FS:=ah (aQ (_root_.D.tB (vF 2))
  (ak (aK aL (k2 (oA (oA (cS [110,111,116,32]) (vF 3)) (cS [58,32])) (aK aL (k2 (cS [110,111,116]) (vF 4))))))
  ao)
 (ak (aK aL (k2 (oA (vF 3) (cS [58,32])) (vF 4))))
def Q56 (k:Nat) (p:T × List Ob):Prop:=(p.1=.tup [.str [],alw]\/∃ c:CD,c≠.fin/\c.ok/\c.dj/\p.1=.tup [.str (c.sh++[58,32]),c.iC])/\Bx k p.2
theorem yz {k:Nat}{x:PC}{neg:Bool}{u1 u5 u6 u7 u8:Option C}(ho:x.ok) (h:x.dj) (hb:Bx k m):WB r56 ⟨[sv (.own k),u1,sv (.bl neg),sv (.str x.sh),sv x.iC,u5,u6,u7,u8],m⟩ (Q56 k):=by
 cases neg with
 | true=>exact k7 rfl (d9 (cJ (TE.add (TE.add (TE.c _) (⟨rfl,mC h⟩:TE (vF 3) _ x.sh 300)) (TE.c _)).e (cJ rfl rfl)) ⟨.inr ⟨.no x,(fun z=>nomatch z),ho,h,rfl⟩,hb⟩)
 | false=>exact cM rfl (d9 (cJ (TE.add (⟨rfl,mC h⟩:TE (vF 3) _ x.sh 300) (TE.c _)).e rfl) ⟨.inr ⟨.pc x,(fun z=>nomatch z),ho,h,rfl⟩,hb⟩)
theorem TZ {k:Nat}(hb:Bx k m):W (cN (n+6) 56 [.own k] m) (Q56 k):=by
 rw [w56]
 refine lR rfl (dD (tk (n+4) (k:=k) (many:=5) rfl hb (by decide) fun way m1 h1 h2 b1=>?_))
 by_cases h0:way=0
 ·subst h0
  exact k7 rfl (d9 (cJ rfl (ng rfl)) ⟨.inl rfl,b1⟩)
 ·refine cM ((K1 rfl).trans (by rw [decide_eq_false h0])) (dD (tkE (n+4) (k:=k) (many:=2) rfl b1 (by decide) fun neg m2 b2=>kM (E2 (W.of (cJ rfl (ng rfl)) ⟨_,rfl,rfl,?_⟩))))
  have hw:way=1\/way=2\/way=3\/way=4:=by omega
  rcases hw with rfl | rfl | rfl | rfl
  ·refine kM (E1 rfl (E2 (b9 (W.of (a:=([.own k],_)) rfl ((F3 n b2).mono fun p zz=>?_)))))
   obtain ⟨x,ho,h,e,b3⟩:=zz
   obtain ⟨t',m3⟩:=p
   cases e
   exact ⟨_,rfl,rfl,cM rfl (cM rfl (yz (x:=.rp x) ho h b3))⟩
  ·exact cM rfl (cM rfl (cM rfl (yz (x:=.last) trivial trivial b2)))
  ·refine cM rfl (kM (E1 rfl (vZ (j1 (K6 (n+4) (k:=k) (many:=3) rfl b2 (by decide) fun v m3 h3 h4 b3=>⟨rfl,vZ (j1 (b9 (W.of (a:=([.own k,.int 0],_)) rfl ((NP (n+1) b3).mono fun p ⟨w,t,h,e,b4⟩=>⟨rfl,?_⟩))))⟩)))))
   obtain ⟨t',m4⟩:=p
   cases e
   have N:=j6 h3 (by omega)
   refine aa1 (W.of (a:=([.str (PC.soon (gF v) v w t).sh,(PC.soon (gF v) v w t).iC],_)) (aP (TE.as (TE.add (TE.add (TE.add (TE.add (TE.c _) (TE.nn rfl N)) (TE.c _)) (⟨rfl,h.len⟩:TE (oI (vF 6) (cI 0)) _ w 130)) (TE.c _)) (by simp [PC.sh])) (aP (gH rfl rfl rfl) rfl)) ⟨_,rfl,rfl,cM rfl (yz (x:=.soon (gF v) v w t) ⟨N.nm,h3,by omega,h.pt⟩ ⟨N,h⟩ b4)⟩)
  ·refine cM rfl (cM rfl (kM (E1 rfl (vZ (j1 (b9 (W.of (a:=([.own k],_)) rfl ((F3 n b2).mono fun p ⟨x,ho,h,e,b3⟩=>⟨rfl,?_⟩))))))))
   obtain ⟨t',m3⟩:=p
   cases e
   refine vZ (j1 (b9 (W.of (a:=([.own k],_)) rfl ((F3 n b3).mono fun p ⟨y,ho2,g,e,b4⟩=>⟨rfl,?_⟩))))
   obtain ⟨t',m4⟩:=p
   cases e
   exact aa1 (W.of (a:=([.str (PC.ft x y).sh,(PC.ft x y).iC],_)) (aP (TE.as (TE.add (TE.add (TE.add (TE.c _) (⟨rfl,iX h⟩:TE (oI (vF 7) (cI 0)) _ x.sh 140)) (TE.c _)) (⟨rfl,iX g⟩:TE (oI (vF 8) (cI 0)) _ y.sh 140)) (by simp [PC.sh])) (aP (gH rfl rfl rfl) rfl)) ⟨_,rfl,rfl,yz (x:=.ft x y) ⟨ho,ho2⟩ ⟨h,g⟩ b4⟩)
def Q57 (k:Nat) (p:T × List Ob):Prop:=∃ d:DD,d.ok/\d.dj/\d.mq/\d.ad2/\p.1=.tup [.str d.sh,d.iC]/\Bx k p.2
theorem T8 {k:Nat}{NQ:Bool}(hb:Bx k m):W (cN (n+5) 57 [.own k,.bl NQ] m) (Q57 k):=by
 rw [w57]
 refine lR rfl (dD (b9 (W.of (a:=([.own k,.int 1],_)) rfl ((NO n hb (.inr rfl)).mono fun p zz=>?_))))
 obtain ⟨f,its,b,h1,h2,e,h3,b1⟩:=zz
 obtain ⟨t',m1⟩:=p
 cases e
 have P:=FI (f:=f) (b:=b) h1 h2
 have h3:=h3 rfl
 refine KG rfl (KG rfl ?_)
 cases NQ with
 | false=>
  refine cM rfl (dD (b9 (W.of (a:=([.own k,.int 40],_)) rfl ((k8 (n+1) b1 (by decide) (by decide)).mono fun p zz=>?_))))
  obtain ⟨l,e,g1,g2,b2⟩:=zz
  obtain ⟨t',m2⟩:=p
  cases e
  exact d9 (cJ (TE.as (TE.add (TE.add (TE.add (TE.add (⟨rfl,by decide⟩:TE (vF 4) _ [115,119,97,112,32,47] 12) (⟨rfl,P.len⟩:TE (oI (vF 2) (cI 0)) _ (bH f its b) 130)) (TE.c _)) (⟨rfl,g1.hl⟩:TE (vF 5) _ l 40)) (TE.c _)) (y:=(DD.swap false (bH f its b) (a6 f its b) l).sh) (by simp [DD.sh,FA])) (abm rfl rfl rfl rfl)) ⟨.swap false (bH f its b) (a6 f its b) l,⟨P.pt,g1⟩,P,⟨f,its,b,rfl,h2,h3,.inl rfl⟩,trivial,rfl,b2⟩
 | true=>
  have ef:(its.filter fun i=>decide (i.mn∈[49,43]))=its.filter fun i=>!Fq i:=LF fun i hi=>abn (h1 i hi)
  have el:∀ (r:List (Option C)) (m:List Ob),aK ba (k1 (bP (bj (gZ (oI (oI (vF 2) (cI 1)) (cI 1))) 2 [] (setG 1) (_root_.D.aZ (a_ (aJ .In) (oI (vF 1) (cI 2)) (cS [49,43]))) (vF 1)))) ⟨sv (.own k)::sv (.bl true)::sv (.tup [.str (bH f its b),a6 f its b])::r,m⟩=.ok (.int (least its:Nat),⟨sv (.own k)::sv (.bl true)::sv (.tup [.str (bH f its b),a6 f its b])::r,m⟩):=fun r m=>by
   refine cj (ts:=[.lst ((its.filter fun i=>decide (i.mn∈[49,43])).map Itm.val)]) (aP (ie (ic (ts:=its.map Itm.val) (s1:=⟨sv (.own k)::sv (.bl true)::sv (.tup [.str (bH f its b),a6 f its b])::r,m⟩) rfl (by rw [cT];omega) (eY Itm.val (fun i=>decide (i.mn∈[49,43])) fun i _=>⟨[none,sv i.val],[none,sv i.val],[none,sv i.val],rfl,rfl,rfl⟩))) rfl) ?_
   show some (T.int (((its.filter fun i=>decide (i.mn∈[49,43])).map Itm.val).length:Nat))=_
   rw [cT,ef];rfl
  have l8:least its<=8:=gO (BB _ _) h2
  refine kM (E1 rfl (vZ (j1 (W.of (el _ _) ⟨rfl,j1 (W.of (a:=(.str [115,119,97,112,32,101,118,101,114,121,32,47],_)) rfl ⟨rfl,dD (b9 (W.of (a:=([.own k,.int (least its:Nat)],_)) rfl ((k8 (n+1) b1 (by omega) (by omega)).mono fun p ⟨l,e,g1,g2,b2⟩=>?_)))⟩)⟩))))
  obtain ⟨t',m2⟩:=p
  cases e
  exact d9 (cJ (TE.as (TE.add (TE.add (TE.add (TE.add (⟨rfl,by decide⟩:TE (vF 4) _ [115,119,97,112,32,101,118,101,114,121,32,47] 12) (⟨rfl,P.len⟩:TE (oI (vF 2) (cI 0)) _ (bH f its b) 130)) (TE.c _)) (⟨rfl,g1.hl⟩:TE (vF 5) _ l 40)) (TE.c _)) (y:=(DD.swap true (bH f its b) (a6 f its b) l).sh) (by simp [DD.sh,FA])) (abm rfl rfl rfl rfl)) ⟨.swap true (bH f its b) (a6 f its b) l,⟨P.pt,g1⟩,P,⟨f,its,b,rfl,h2,h3,.inr (by omega)⟩,trivial,rfl,b2⟩
def Q58 (k:Nat) (ws:List (List Nat)) (p:T × List Ob):Prop:=∃ d:DD,d.ok/\d.dj/\d.mq/\(∀ a,d=.go a->a∈ws)/\p.1=.tup [.str d.sh,d.iC]/\Bx k p.2
theorem ad8 (l:List (List Nat)):aJ .NotEq (.lst (l.map T.str)) (.lst [])=some (.bl (!l.isEmpty)):=by cases l<;>rfl
abbrev r58 (aj:Nat->Fn):FS:=ah (aA 3 (ai (aj 50) [] (k1 (vF 0))))
 (ah (aQ (_root_.D.aZ (oE (vF 2) (cI 9)))
  (ah (aA 5 (oA (cI 1) (ai (aj 48) [] (k2 (vF 0) (cI 9)))))
 (ak (aK aL (k2 (oA (oA (oA (cS [112,105,108,101,32]) (vF 3)) (cS [32])) (aK strN (k1 (vF 5)))) (aK aL (k3 (cS [112,105,108,101]) (vF 3) (vF 5)))))))
  ao)
 (ah (aQ (_root_.D.aZ (oE (vF 2) (cI 10)))
  (ak (aK aL (k2 (oA (cS [112,105,108,101,32]) (vF 3)) (aK aL (k3 (cS [112,105,108,101]) (vF 3) (cF .non))))))
  ao)
 (ak (aK aL (k2 (oA (cS [98,114,105,110,103,32]) (vF 3)) (aK aL (k2 (cS [98,114,105,110,103]) (vF 3))))))))
theorem NR {k:Nat}{ws:List (List Nat)}{way:Int}{u1:Option C}(hb:Bx k m):WB (r58 (cN (n+5))) ⟨[sv (.own k),u1,sv (.int way),none,none,none,none],m⟩ (Q58 k ws):=by
 refine dD (b9 (W.of (a:=([.own k],_)) rfl ((wx (n+2) hb).mono fun p zz=>?_)))
 obtain ⟨a,e,N,b2⟩:=zz
 obtain ⟨t',m2⟩:=p
 cases e
 by_cases h9:way=9
 ·subst h9
  refine k7 rfl (dD (K6 (n+4) (k:=k) (many:=9) rfl b2 (by decide) fun v m3 h1 h2 b3=>?_))
  have Nv:=j6 h1 (by omega)
  exact d9 (cJ (TE.as (TE.add (TE.add (TE.add (TE.c _) (⟨rfl,N.hl⟩:TE (vF 3) _ a 8)) (TE.c _)) (TE.nn rfl Nv)) (y:=(DD.pileN a (gF v) v).sh) (by simp [DD.sh])) (gH rfl rfl rfl)) ⟨.pileN a (gF v) v,⟨N,Nv.nm,h1,by omega⟩,Nv,trivial,(fun _ z=>nomatch z),rfl,b3⟩
 ·refine cM ((K1 rfl).trans (by rw [decide_eq_false h9])) ?_
  by_cases h10:way=10
  ·subst h10
   exact k7 rfl (d9 (cJ (TE.as (TE.add (TE.c _) (⟨rfl,N.hl⟩:TE (vF 3) _ a 8)) (y:=(DD.pile a).sh) (by simp [DD.sh])) (gH rfl rfl rfl)) ⟨.pile a,N,trivial,trivial,(fun _ z=>nomatch z),rfl,b2⟩)
  ·exact cM ((K1 rfl).trans (by rw [decide_eq_false h10])) (d9 (cJ (TE.add (TE.c _) (⟨rfl,N.hl⟩:TE (vF 3) _ a 8)).e (cJ rfl rfl)) ⟨.bring a,N,trivial,trivial,(fun _ z=>nomatch z),rfl,b2⟩)
theorem F4 {k:Nat}{ws:List (List Nat)}(hb:Bx k m) (hN:∀ a∈ws,j4 a) (hl:ws.length<=1000):W (cN (n+6) 58 [.own k,.lst (ws.map T.str)] m) (Q58 k ws):=by
 rw [w58]
 refine lR rfl (dD (tk (n+4) (k:=k) (many:=12) rfl hb (by decide) fun way m1 h1 h2 b1=>?_))
 by_cases h3:way<3
 ·have hw:way=0\/way=1\/way=2:=by omega
  rcases hw with rfl | rfl | rfl
  ·exact k7 rfl (d9 (cJ (aD (cj rfl (AM _ _ _)) rfl rfl) (ng (aD (cj rfl (AM _ _ _)) rfl rfl))) ⟨.print,trivial,trivial,trivial,(fun _ z=>nomatch z),rfl,b1⟩)
  ·exact k7 rfl (d9 (cJ (aD (cj rfl (AM _ _ _)) rfl rfl) (ng (aD (cj rfl (AM _ _ _)) rfl rfl))) ⟨.drop,trivial,trivial,trivial,(fun _ z=>nomatch z),rfl,b1⟩)
  ·exact k7 rfl (d9 (cJ (aD (cj rfl (AM _ _ _)) rfl rfl) (ng (aD (cj rfl (AM _ _ _)) rfl rfl))) ⟨.done,trivial,trivial,trivial,(fun _ z=>nomatch z),rfl,b1⟩)
 refine cM ((j8 (aD (t:=.int way) (u:=.int 3) rfl rfl (p_ _ _))).trans (by rw [decide_eq_false h3])) ?_
 by_cases h4:way=3
 ·subst h4
  refine k7 rfl (dD (b9 (W.of (a:=([.own k,.int 40],_)) rfl ((k8 (n+2) b1 (by decide) (by decide)).mono fun p zz=>?_))))
  obtain ⟨l,e,g1,g2,b2⟩:=zz
  obtain ⟨t',m2⟩:=p
  cases e
  exact d9 (cJ (TE.as (TE.add (TE.add (TE.c _) (⟨rfl,g1.hl⟩:TE (vF 4) _ l 40)) (TE.c _)) (y:=(DD.say l).sh) (by simp [DD.sh])) (cJ rfl rfl)) ⟨.say l,g1,trivial,trivial,(fun _ z=>nomatch z),rfl,b2⟩
 refine cM ((K1 rfl).trans (by rw [decide_eq_false h4])) ?_
 by_cases h5:way<6
 ·refine k7 ((j8 (aD (t:=.int way) (u:=.int 6) rfl rfl (p_ _ _))).trans (by rw [decide_eq_true h5])) ?_
  exact (EZ (b9 (W.of (a:=([.own k,.bl (decide (way=5))],_)) (aP rfl (aP (aD rfl rfl (qe _ _)) rfl)) ((T8 n b1).mono fun p ⟨d,q1,q2,q3,q4,q5,q6⟩=>⟨d,q1,q2,q3,fun a z=>by (rw [z] at q4;cases q4),q5,q6⟩))))
 refine cM ((j8 (aD (t:=.int way) (u:=.int 6) rfl rfl (p_ _ _))).trans (by rw [decide_eq_false h5])) ?_
 by_cases h6:way=6
 ·subst h6
  refine k7 rfl (dD (K6 (n+4) (k:=k) (many:=8) rfl b1 (by decide) fun v m2 g1 g2 b2=>?_))
  have N:=j6 (v:=v) (by omega) (by omega)
  exact d9 (cJ (TE.add (TE.c _) (TE.nn rfl N)).e (cJ rfl rfl)) ⟨.join (gF v) v,⟨N.nm,g1,by omega⟩,N,trivial,(fun _ z=>nomatch z),rfl,b2⟩
 refine cM ((K1 rfl).trans (by rw [decide_eq_false h6])) ?_
 by_cases h7:way=7
 ·subst h7
  refine k7 rfl (dD (adP (fG (K6 (n+4) (k:=k) (many:=9) rfl b1 (by decide) fun v m2 g1 g2 b2=>fG (K6 (n+4) (k:=k) (many:=9) rfl b2 (by decide) fun v2 m3 g3 g4 b3=>W.of (a:=([],_)) rfl ⟨_,TQ _ _,?_⟩)))))
  have N:=j6 (v:=v) (by omega) (by omega)
  have N2:=j6 (v:=v2) (by omega) (by omega)
  exact d9 (cJ (TE.add (TE.add (TE.add (TE.c _) (TE.nn (a:=oI (vF 6) (cI 0)) rfl N)) (TE.c _)) (TE.nn (a:=oI (vF 6) (cI 1)) rfl N2)).e (gH rfl rfl rfl)) ⟨.add (gF v) v (gF v2) v2,⟨⟨N.nm,g1,by omega⟩,N2.nm,g3,by omega⟩,⟨N,N2⟩,trivial,(fun _ z=>nomatch z),rfl,b3⟩
 refine cM ((K1 rfl).trans (by rw [decide_eq_false h7])) ?_
 by_cases h8:way=8
 ·subst h8
  cases ws with
  | nil=>exact cM rfl (NR n b1)
  | cons w0 ws=>
   refine k7 (tR rfl (j8 (aD rfl (cj rfl (jI (gD _))) (ad8 _)))) (dD (sH (W.of (a:=(.lst ((w0::ws).map T.str),_)) rfl (tk (n+4) (k:=k) (many:=(((w0::ws).map T.str).length:Nat)) rfl b1 (by rw [cT];rw [cQ] at hl ⊢;omega) fun d m2 g1 g2 b2=>?_))))
   obtain ⟨q,hq,e⟩:=ixL g1 g2
   obtain ⟨a,ha,rfl⟩:=i9.mp hq
   exact ⟨_,e,d9 (cJ (TE.add (TE.c _) (⟨rfl,(hN a ha).hl⟩:TE (vF 3) _ a 8)).e (cJ rfl rfl)) ⟨.go a,hN a ha,trivial,trivial,(fun b z=>by cases z;exact ha),rfl,b2⟩⟩
 refine cM (s':=⟨[sv (.own k),sv (.lst (ws.map T.str)),sv (.int way),none,none,none,none],m1⟩) ?_ (NR n b1)
 have e:_root_.D.aZ (oE (vF 2) (cI 8)) ⟨[sv (.own k),sv (.lst (ws.map T.str)),sv (.int way),none,none,none,none],m1⟩=.ok (decide (way=8),⟨[sv (.own k),sv (.lst (ws.map T.str)),sv (.int way),none,none,none,none],m1⟩):=K1 rfl
 rw [decide_eq_false h8] at e
 show dw _ _ ⟨[sv (.own k),sv (.lst (ws.map T.str)),sv (.int way),none,none,none,none],m1⟩=_
 unfold dw
 rw [e];rfl
abbrev Sm (c:Int):Prop:=c.natAbs.log2<1048577
abbrev Pm:Int:=10 ^ (64:Int).toNat*10 ^ (64:Int).toNat+7
abbrev Pn:Int:=10 ^ (64:Int).toNat*10 ^ (63:Int).toNat+9
theorem wy:(0<Pm/\Pm.natAbs<2 ^ 1000)/\(0<Pn/\Pn.natAbs<2 ^ 1000)/\(48271 ^ (31:Int).toNat:Int).natAbs.log2<2000000/\(10 ^ (64:Int).toNat:Int).natAbs.log2<2000000/\(10 ^ (63:Int).toNat:Int).natAbs.log2<2000000:=by decide +kernel
def ab (c:Int):Int:=if c<0 then -c else c
def gI (x:Int):Int:=(x+1)*48271 ^ (31:Int).toNat % Pm
def NS (c:Int):Int:=gI (ab c)*gI (ab c) % Pn+1
theorem F5 (c:Int):0<=ab c:=by unfold ab;split<;>omega
theorem T9 (c:Int):(ab c).natAbs=c.natAbs:=by unfold ab;split<;>omega
theorem lgS {n k:Nat}(h:n.log2<k):(n+1).log2<k+1:=by
 refine (BL (by omega)).mpr ?_
 by_cases h0:n=0
 ·rw [h0];exact Nat.one_lt_two_pow (by omega)
 ·have:=(BL h0).mp h
  rw [Nat.pow_succ];omega
theorem lgM {a b k:Nat}(h:a<=b) (hk:0<k) (hb:b.log2<k):a.log2<k:=by
 by_cases h0:a=0
 ·rw [h0];exact hk
 ·exact (BL h0).mpr (wD h ((BL (by omega)).mp hb))
theorem lgP {x P:Int}(h1:0<=x) (h2:x<P) (h3:P.natAbs<2 ^ 1000):x.natAbs.log2<1000:=by
 by_cases h0:x.natAbs=0
 ·rw [h0];decide
 ·exact (BL h0).mpr (LR (by omega) h3)
theorem ad9 {x:Int}(h0:0<=x) (h:Sm x):(x+1).natAbs.log2<2000000:=by
 have e:(x+1).natAbs=x.natAbs+1:=by omega
 rw [e]
 have:=lgS h
 omega
theorem pw {i j:Int}(h:0<=j/\j<=1000000/\i.natAbs<2 ^ 64):bw .Pow (.int i) (.int j)=some (.int (i ^ j.toNat)):=jI h
theorem ml {i j:Int}(h:i.natAbs.log2<2000000) (h2:j.natAbs.log2<2000000):bw .Mult (.int i) (.int j)=some (.int (i*j)):=jI (.inr ⟨h,h2⟩)
theorem NT (x:Int):0<=gI x/\gI x<Pm:=⟨wF _ (by have:=wy.1.1;omega),BS _ wy.1.1⟩
theorem yC (x:Int):(gI x).natAbs.log2<2000000:=by have:=lgP (NT x).1 (NT x).2 wy.1.2;omega
theorem F6 (c:Int):1<=NS c:=by
 have:0<=gI (ab c)*gI (ab c) % Pn:=wF _ (by have:=wy.2.1.1;omega)
 unfold NS;omega
theorem pmE (s:S):oA (a_ (bw .Mult) (a_ (bw .Pow) (cI 10) (cI 64)) (a_ (bw .Pow) (cI 10) (cI 64))) (cI 7) s=.ok (.int Pm,s):=aD (aD (aD rfl rfl (pw (by decide))) (aD rfl rfl (pw (by decide))) (ml wy.2.2.2.1 wy.2.2.2.1)) rfl (AL _ _)
theorem pnE (s:S):oA (a_ (bw .Mult) (a_ (bw .Pow) (cI 10) (cI 64)) (a_ (bw .Pow) (cI 10) (cI 63))) (cI 9) s=.ok (.int Pn,s):=aD (aD (aD rfl rfl (pw (by decide))) (aD rfl rfl (pw (by decide))) (ml wy.2.2.2.1 wy.2.2.2.2)) rfl (AL _ _)
theorem mxE {a:FE}{s:S}{x:Int}(h:a s=.ok (.int x,s)) (h0:(x+1).natAbs.log2<2000000):oM (a_ (bw .Mult) (oA a (cI 1)) (a_ (bw .Pow) (cI 48271) (cI 31))) (oA (a_ (bw .Mult) (a_ (bw .Pow) (cI 10) (cI 64)) (a_ (bw .Pow) (cI 10) (cI 64))) (cI 7)) s=.ok (.int (gI x),s):=aD (aD (aD h rfl (AL _ _)) (aD rfl rfl (pw (by decide))) (ml h0 wy.2.2.1)) (pmE s) (AK wy.1.1)
theorem abx {fl:FL}{s s1:S}{ts:List T}(h:fl s=.ok (ts,s1)) (k:ts.length<=1000):jT fl s=.ok (ts,s1):=by unfold jT;rw [h];exact if_pos k
abbrev NU (c:Int):Ob:=⟨50,[.ol [.int (ab c),.int (NS c)]]⟩
theorem qt {c:Int}(h:Sm c):cN (n+1) 47 [.int c] m=.ok (.own m.length,m++[NU c]):=by
 rw [w47]
 have ea:∀ r,aK Am (k1 (vF 0)) ⟨sv (.int c)::r,m⟩=.ok (.int (ab c),⟨sv (.int c)::r,m⟩):=fun r=>rfl
 refine aS (s':=⟨[sv (.int c),sv (.int (gI (ab c)))],m++[NU c]⟩) rfl (seq1 (dB (t:=.int (gI (ab c))) (s':=⟨[sv (.int c),none],m⟩) (mxE (ea _) (ad9 (F5 c) (by show (ab c).natAbs.log2<_;rw [T9];exact h)))) (aV ?_)) rfl
 have e2:jT (k2 (aK Am (k1 (vF 0))) (oA (oM (a_ (bw .Mult) (vF 1) (vF 1)) (oA (a_ (bw .Mult) (a_ (bw .Pow) (cI 10) (cI 64)) (a_ (bw .Pow) (cI 10) (cI 63))) (cI 9))) (cI 1))) ⟨[sv (.int c),sv (.int (gI (ab c)))],m⟩=.ok ([.int (ab c),.int (NS c)],⟨[sv (.int c),sv (.int (gI (ab c)))],m⟩):=by
  exact abx (aP (ea [sv (.int (gI (ab c)))]) (aP (fl:=b_) (aD (b:=cI 1) (aD (aD (t:=.int (gI (ab c))) (u:=.int (gI (ab c))) (a:=vF 1) (b:=vF 1) (s:=⟨[sv (.int c),sv (.int (gI (ab c)))],m⟩) rfl rfl (ml (yC _) (yC _))) (pnE _) (AK wy.2.1.1)) rfl (AL _ 1)) rfl)) (by show 2<=1000;decide)
 show rK 50 _ ⟨[sv (.int c),sv (.int (gI (ab c)))],m⟩=_
 unfold rK
 rw [e2];rfl
theorem F7 (m:List Ob) (c:Int):Bx m.length (m++[NU c]):=⟨ab c,NS c,by rw [fJ (dS _),oJ];rfl,F5 c,F6 c⟩
theorem smD {c:Int}(h:Sm c):Sm (c/24):=lgM (by omega) (by decide) h
def Q59 (ws:List (List Nat)) (t:T):Prop:=∃ x:LN,FU x/\x.name=none/\(∀ a,x.jJ=some a->a∈ws)/\t=fP x
theorem noS:∀ ws:List (List Nat),aB (ws.map T.str)=true
 | []=>rfl
 | _::ws=>by show (true&&aB (ws.map T.str))=true;rw [noS ws];rfl
theorem T_ {cell:Int}{ws:List (List Nat)}(hc:Sm cell) (hN:∀ a∈ws,j4 a) (hl:ws.length<=1000):W (cN (n+7) 59 [.int cell,.lst (ws.map T.str)] m) fun p=>Q59 ws p.1/\p.2=m:=by
 rw [w59]
 have fin:∀ (x:LN),FU x->x.name=none->(∀ a,x.jJ=some a->a∈ws)->noOwn (fP x)=true/\Q59 ws (fP x)/\m=m:=fun x h1 h2 h3=>⟨FW h1.sh,⟨x,h1,h2,h3,rfl⟩,rfl⟩
 refine aa0 (by show (true&&(aB (ws.map T.str)&&true))=true;rw [noS];rfl) (lR rfl (dD (b9 (W.of (a:=([.int cell],_)) rfl (W.of (qt (n+5) hc) (bBr (aaY (tkE (n+5) (k:=0) (many:=8) rfl (F7 [] cell) (by decide) fun d m1 b1=>⟨d,rfl,fun _=>?_,fun _=>?_⟩))))))))
 ·refine dD (tk (n+5) (k:=0) (many:=3) rfl b1 (by decide) fun way m2 h1 h2 b2=>?_)
  refine dD (b9 (W.of (a:=([.own 0,.int 40],_)) rfl ((k8 (n+3) b2 (by decide) (by decide)).mono fun p zz=>?_)))
  obtain ⟨l,e,g1,g2,b3⟩:=zz
  obtain ⟨t',m3⟩:=p
  cases e
  have hw:way=0\/way=1\/way=2:=by omega
  rcases hw with rfl | rfl | rfl
  ·exact k7 rfl (d9 (gH rfl (ng rfl) (ng rfl)) (fin (.full .fin .tell) ⟨⟨trivial,trivial⟩,⟨trivial,trivial⟩,trivial⟩ rfl fun a z=>by cases z))
  ·exact cM rfl (k7 rfl (d9 (gH (TE.as (TE.add (TE.add (TE.c _) (⟨rfl,g1.hl⟩:TE (vF 4) _ l 40)) (TE.c _)) (y:=(LN.full .fin (.say l)).sh) (by simp [LN.sh,CD.sh,DD.sh])) (ng rfl) (cJ rfl rfl)) (fin (.full .fin (.say l)) ⟨⟨trivial,g1⟩,⟨trivial,trivial⟩,trivial⟩ rfl fun a z=>by cases z)))
  ·refine cM rfl (cM rfl (dD (b9 (fG (b9 (W.of (a:=([.int (cell/24)],_)) (aP (aD rfl rfl (FH (by decide))) rfl) (W.of (qt (n+5) (smD hc)) (W.of (a:=([],_)) rfl ((wx (n+3) (F7 m3 _)).mono fun p zz=>?_)))))))))
   obtain ⟨a,e,N,b4⟩:=zz
   obtain ⟨t',m4⟩:=p
   cases e
   exact d9 (gH (TE.as (TE.add (TE.c _) (⟨rfl,N.hl⟩:TE (vF 5) _ a 8)) (y:=(LN.full .fin (.bring a)).sh) (by simp [LN.sh,CD.sh,DD.sh])) (ng rfl) (cJ rfl rfl)) (fin (.full .fin (.bring a)) ⟨⟨trivial,N⟩,⟨trivial,trivial⟩,trivial⟩ rfl fun a z=>by cases z)
 ·refine kM (E2 (b9 (W.of (a:=([.own 0],_)) rfl ((TZ n b1).mono fun p zz=>?_))))
  obtain ⟨e,b2⟩:=zz
  obtain ⟨t',m2⟩:=p
  have dd:∀ (d:DD),d.ok->d.dj->d.mq->(∀ a,d=.go a->a∈ws)->FU (.bare d)/\(LN.bare d).name=none/\(∀ a,(LN.bare d).jJ=some a->a∈ws):=fun d q1 q2 q3 q4=>⟨⟨q1,q2,q3⟩,rfl,fun a z=>by
   cases d with
   | go b=>cases z;exact q4 _ rfl
   | _=>cases z⟩
  have df:∀ (c:CD) (d:DD),c≠.fin->c.ok->c.dj->d.ok->d.dj->d.mq->(∀ a,d=.go a->a∈ws)->FU (.full c d)/\(LN.full c d).name=none/\(∀ a,(LN.full c d).jJ=some a->a∈ws):=fun c d hc o1 o2 q1 q2 q3 q4=>⟨⟨⟨o1,q1⟩,⟨o2,q2⟩,by
   cases c with
   | fin=>exact absurd rfl hc
   | _=>exact q3⟩,rfl,fun a z=>by
   cases d with
   | go b=>cases z;exact q4 _ rfl
   | _=>cases z⟩
  rcases e with e | ⟨c,c1,c2,c3,e⟩
  ·cases e
   refine ⟨_,rfl,rfl,kM (E2 (b9 (W.of (a:=([.own 0,.lst (ws.map T.str)],_)) rfl ((F4 n b2 hN hl).mono fun p ⟨d,q1,q2,q3,q4,q5,b3⟩=>?_))))⟩
   obtain ⟨t',m3⟩:=p
   cases q5
   obtain ⟨z1,z2,z3⟩:=dd d q1 q2 q3 q4
   exact ⟨_,rfl,rfl,d9 (gH (TE.add (⟨rfl,gD _⟩:TE (vF 6) _ [] 1) (⟨rfl,mD q1 q2⟩:TE (vF 8) _ d.sh 300)).e rfl rfl) (fin (.bare d) z1 z2 z3)⟩
  ·cases e
   refine ⟨_,rfl,rfl,kM (E2 (b9 (W.of (a:=([.own 0,.lst (ws.map T.str)],_)) rfl ((F4 n b2 hN hl).mono fun p ⟨d,q1,q2,q3,q4,q5,b3⟩=>?_))))⟩
   obtain ⟨t',m3⟩:=p
   cases q5
   obtain ⟨z1,z2,z3⟩:=df c d c1 c2 c3 q1 q2 q3 q4
   exact ⟨_,rfl,rfl,d9 (gH (TE.add (⟨rfl,by rw [bJ];have:=wj c3;show _+2<=_;omega⟩:TE (vF 6) _ (c.sh++[58,32]) 320) (⟨rfl,mD q1 q2⟩:TE (vF 8) _ d.sh 300)).e rfl rfl) (fin (.full c d) z1 z2 z3)⟩
def mk (c:Int):Bool:=decide (av (ab c) (NS c) % 8=2)
theorem tX {c:Int}{k:Nat}(hk:k=m.length):∃ m',Bx k m'/\cN (n+1) 48 [.own k,.int 8] (m++[NU c])=.ok (.int (av (ab c) (NS c) % 8),m'):=by
 have e:(m++[NU c])[k]?=some (NU c):=by rw [hk,fJ (dS _),oJ];rfl
 have h:=yw n e (many:=8) (by decide)
 have hp:=F0 (F5 c) (F6 c)
 exact ⟨_,⟨_,NS c,gB (cU.mp e).1,LZ (by omega) (by decide),F6 c⟩,h⟩
abbrev Gj (R:Option C) (ws:List (List Nat)) (u v:Option C) (m:List Ob):S:=⟨[R,some (.ol (ws.map T.str)),u,v],m⟩
theorem om (n:Nat) {R:Option C}:∀ (cs:List Int) (ws:List (List Nat)) (u v:Option C) (m:List Ob),(∀ c∈cs,Sm c)->(∀ a∈ws,j4 a)->ws.length+cs.length<=1000->W (c_ (setG 2) (ah (aA 3 (ai (cN (n+3) 47) [] (k1 (vF 2))))
 (aQ (_root_.D.aZ (oE (ai (cN (n+3) 48) [] (k2 (vF 3) (cI 8))) (cI 2)))
  (dZ 1 (ai (cN (n+3) 50) [] (k1 (vF 3))))
  ao)) (cs.map T.int) (Gj R ws u v m)) fun p=>p.1=.nx/\∃ K9 u' v' m',p.2=Gj R K9 u' v' m'/\K9.length=ws.length+(cs.filter mk).length/\∀ a∈K9,j4 a
 | [],ws,u,v,m,_,hN,_=>⟨_,rfl,rfl,ws,u,v,m,rfl,rfl,hN⟩
 | c::cs,ws,u,v,m,hc,hN,hl=>by
  rw [cQ] at hl
  obtain ⟨m',hb,et⟩:=tX (n+2) (c:=c) (m:=m) rfl
  obtain ⟨⟨o,s1⟩,e2,rfl,ws1,m1,rfl,h1,h2⟩:W (ah (aA 3 (ai (cN (n+3) 47) [] (k1 (vF 2))))
 (aQ (_root_.D.aZ (oE (ai (cN (n+3) 48) [] (k2 (vF 3) (cI 8))) (cI 2)))
  (dZ 1 (ai (cN (n+3) 50) [] (k1 (vF 3))))
  ao) (Gj R ws (sv (.int c)) v m)) fun p=>p.1=.nx/\∃ K9 m',p.2=Gj R K9 (sv (.int c)) (sv (.own m.length)) m'/\K9.length=ws.length+(if mk c then 1 else 0)/\∀ a∈K9,j4 a:=by
   refine vZ (j1 (b9 (W.of (a:=([.int c],_)) rfl (W.of (qt (n+2) (hc c (eE ..))) ⟨rfl,wIf (W.of (a:=(mk c,Gj R ws (sv (.int c)) (sv (.own m.length)) m')) (j8 (aD (aF (ts:=[.own m.length,.int 8]) (s':=Gj R ws (sv (.int c)) (sv (.own m.length)) (m++[NU c])) rfl et) rfl (qe _ _))) ⟨fun q=>?_,fun q=>?_⟩)⟩))))
   ·obtain ⟨⟨t,m2⟩,e,a,e2,N,b2⟩:=wx n hb
    cases e2
    have q:mk c=true:=q
    refine W.of (mZ (i:=1) (s:=Gj R ws (sv (.int c)) (sv (.own m.length)) m') rfl (aF (ts:=[.own m.length]) (s':=Gj R ws (sv (.int c)) (sv (.own m.length)) m') rfl e) rfl (by rw [cT];omega)) ⟨rfl,ws++[a],m2,?_,by rw [q,bJ];rfl,fun b hb=>?_⟩
    ·show _=(⟨[R,some (.ol ((ws++[a]).map T.str)),sv (.int c),sv (.own m.length)],m2⟩:S)
     rw [oG];rfl
    ·rcases f_.mp hb with z | z
     ·exact hN b z
     ·rw [eo.mp z];exact N
   ·have q:mk c=false:=q
    exact W.of rfl ⟨rfl,ws,m',rfl,by rw [q];rfl,hN⟩
  obtain ⟨p,e3,q1,K9,u',v',m',q2,q3,q4⟩:=om n (R:=R) cs ws1 (sv (.int c)) (sv (.own m.length)) m1 (fun x hx=>hc x (eZ _ hx)) h2 (by rw [h1];split<;>omega)
  refine ⟨p,dQ (r:=[R,some (.ol (ws.map T.str)),sv (.int c),v]) rfl e2 e3,q1,K9,u',v',m',q2,?_,q4⟩
  rw [q3,h1,LH]
  cases mk c
  ·rfl
  ·show ws.length+1+_=ws.length+(_+1)
   omega
theorem noI:∀ cs:List Int,aB (cs.map T.int)=true
 | []=>rfl
 | _::cs=>by show (true&&aB (cs.map T.int))=true;rw [noI cs];rfl
theorem K_ {cs:List Int}(hc:∀ c∈cs,Sm c) (hl:cs.length<=100):∃ ws:List (List Nat),ws.length=(cs.filter mk).length/\(∀ a∈ws,j4 a)/\cN (n+4) 60 [.lst (cs.map T.int)] m=.ok (.lst (ws.map T.str),m):=by
 rw [w60]
 obtain ⟨⟨o,s1⟩,e,rfl,ws,u,v,m',rfl,h1,h2⟩:=om n (R:=sv (.lst (cs.map T.int))) cs [] none none [] hc (fun _ z=>(nomatch z)) (by show 0+_<=_;omega)
 refine ⟨ws,by rw [h1];exact qB _,h2,aT (m':=m') (by show (aB (cs.map T.int)&&true)=true;rw [noI];rfl) (aS (s':=⟨[sv (.lst (cs.map T.int)),sv (.lst (ws.map T.str)),u,v],m'⟩) rfl (seq1 (s':=Gj (sv (.lst (cs.map T.int))) [] none none []) rfl (seq1 (mY (ts:=cs.map T.int) (s1:=Gj (sv (.lst (cs.map T.int))) [] none none []) rfl e) rfl)) rfl) (noS ws)⟩
abbrev jL (R:Option C) (ws:List (List Nat)) (xs:List LN) (vs:List (List Nat)) (u v:Option C) (m:List Ob):S:=⟨[R,sv (.lst (ws.map T.str)),some (.ol (xs.map fP)),some (.ol (vs.map T.str)),u,v],m⟩
structure LI (ws:List (List Nat)) (xs:List LN) (vs:List (List Nat)):Prop where
 k:∀ x∈xs,FU x
 nd:(marks xs).Nodup
 sub:∀ a,a∈marks xs ↔ a∈vs
 go:∀ x∈xs,∀ a,x.jJ=some a->a∈ws
 pre:vs=ws.take vs.length
theorem oq (xs:List LN) (x:LN):marks (xs++[x])=marks xs++x.name.toList:=by
 unfold marks
 rw [List.filterMap_append]
 cases h:x.name<;>simp [h]
theorem LI.add {ws vs:List (List Nat)}{xs:List LN}{x:LN}(h:LI ws xs vs) (hx:FU x) (hn:x.name=none) (hg:∀ a,x.jJ=some a->a∈ws):LI ws (xs++[x]) vs:=by
 have e:marks (xs++[x])=marks xs:=by rw [oq,hn];exact dH _
 exact ⟨fun y hy=>by
  rcases f_.mp hy with z | z
  ·exact h.k y z
  ·rw [eo.mp z];exact hx,by rw [e];exact h.nd,fun a=>by rw [e];exact h.sub a,fun y hy=>by
  rcases f_.mp hy with z | z
  ·exact h.go y z
  ·rw [eo.mp z];exact hg,h.pre⟩
theorem LI.old {ws vs:List (List Nat)}{xs:List LN}(h:LI ws xs vs) (hv:vs.length<ws.length) (ha:ws[vs.length]∈vs):LI ws xs (vs++[ws[vs.length]]):=
 ⟨h.k,h.nd,fun a=>by
  rw [h.sub,f_,eo]
  exact ⟨.inl,fun z=>z.elim id fun z=>z ▸ ha⟩,h.go,by
  rw [bJ]
  show _=ws.take (vs.length+1)
  rw [LJ hv,<- h.pre]⟩
theorem LI.new {ws vs:List (List Nat)}{xs:List LN}(h:LI ws xs vs) (hv:vs.length<ws.length) (ha:ws[vs.length] ∉ vs) (hN:j4 ws[vs.length]):LI ws (xs++[.mark ws[vs.length]]) (vs++[ws[vs.length]]):=by
 have e:marks (xs++[.mark ws[vs.length]])=marks xs++[ws[vs.length]]:=oq _ _
 refine ⟨fun y hy=>?_,?_,fun a=>?_,fun y hy=>?_,?_⟩
 ·rcases f_.mp hy with z | z
  ·exact h.k y z
  ·rw [eo.mp z];exact ⟨hN,trivial,trivial⟩
 ·rw [e,Bg]
  exact ⟨h.nd,by simp,fun a q b r z=>ha ((h.sub _).mp (by rw [<- eo.mp r,<- z];exact q))⟩
 ·rw [e,f_,f_,h.sub]
 ·rcases f_.mp hy with z | z
  ·exact h.go y z
  ·rw [eo.mp z];intro a q;cases q
 ·rw [bJ]
  show _=ws.take (vs.length+1)
  rw [LJ hv,<- h.pre]
theorem ad_ (a:List Nat) (vs:List (List Nat)):Gb (.str a) (.lst (vs.map T.str))=some (decide (a∈vs)):=by
 have e1:∀ vs:List (List Nat),(vs.map T.str).any (fun y=>eqT y (.str a))=decide (a∈vs):=fun vs=>by
  induction vs with
  | nil=>simp
  | cons b vs ih=>
   rw [fR,i8,ih]
   show (decide (b=a) || _)=_
   by_cases h:b=a
   ·simp [h]
   ·simp [h,Ne.symm h]
 have e2:∀ vs:List (List Nat),(vs.map T.str).all bq=true:=fun vs=>by
  induction vs with
  | nil=>rfl
  | cons b vs ih=>rw [fR,ee,ih];rfl
 have e3:Gb (.str a) (.lst (vs.map T.str))=gd (bq (.str a)=true/\(vs.map T.str).all bq=true) ((vs.map T.str).any fun y=>eqT y (.str a)):=by
  cases a with
  | nil=>rfl
  | cons c t=>cases t<;>rfl
 rw [e3,jI ⟨rfl,e2 vs⟩,e1]
abbrev b61 (aj:Nat->Fn):FS:=ah (aA 5 (oE (ai (aj 48) [] (k2 (ai (aj 47) [] (k1 (vF 4))) (cI 8))) (cI 2)))
 (ah (aQ (dw (_root_.D.tB (vF 5)) (_root_.D.aZ (Gh .NotIn true 3 (oI (vF 1) (fD 3)))))
  (dZ 2 (aK aL (k3 (oA (cS [109,97,114,107,32]) (oI (vF 1) (fD 3))) (aK aL (k1 (cS [97,108,119,97,121,115]))) (aK aL (k2 (cS [109,97,114,107]) (oI (vF 1) (fD 3)))))))
  (dZ 2 (ai (aj 59) [] (k2 (vF 4) (vF 1)))))
 (aQ (_root_.D.tB (vF 5))
  (dZ 3 (oI (vF 1) (fD 3)))
  ao))
theorem Ua {R:Option C}{c:Int}{ws vs:List (List Nat)}{xs:List LN}{v:Option C}(hc:Sm c) (hN:∀ a∈ws,j4 a) (hl:ws.length<=100) (hx:xs.length<=100) (h:LI ws xs vs) (hv:mk c=true->vs.length<ws.length) :
  ∃ x eA m',b61 (cN (n+7)) (jL R ws xs vs (sv (.int c)) v m)=.ok (.nx,jL R ws (xs++[x]) eA (sv (.int c)) (sv (.bl (mk c))) m')/\LI ws (xs++[x]) eA/\eA.length=vs.length+(if mk c then 1 else 0):=by
 obtain ⟨m1,_,et⟩:=tX (n+6) (c:=c) (m:=m) rfl
 have e1:aA 5 (oE (ai (cN (n+7) 48) [] (k2 (ai (cN (n+7) 47) [] (k1 (vF 4))) (cI 8))) (cI 2)) (jL R ws xs vs (sv (.int c)) v m)=.ok (.nx,jL R ws xs vs (sv (.int c)) (sv (.bl (mk c))) m1):=dB (s':=jL R ws xs vs (sv (.int c)) v m1) (aD (aF (ts:=[.own m.length,.int 8]) (s':=jL R ws xs vs (sv (.int c)) v (m++[NU c])) (aP (aF (ts:=[.int c]) (s':=jL R ws xs vs (sv (.int c)) v m) rfl (qt (n+6) hc)) rfl) et) rfl (qe _ _))
 have ap:∀ (xs:List LN) (x:LN),xs.map fP++[fP x]=(xs++[x]).map fP:=fun xs x=>by rw [oG];rfl
 have lin:∃ x:LN,LI ws (xs++[x]) vs/\dZ 2 (ai (cN (n+7) 59) [] (k2 (vF 4) (vF 1))) (jL R ws xs vs (sv (.int c)) (sv (.bl (mk c))) m1)=.ok (.nx,jL R ws (xs++[x]) vs (sv (.int c)) (sv (.bl (mk c))) m1):=by
  obtain ⟨⟨t,m2⟩,e,⟨x,q1,q2,q3,q4⟩,q5⟩:=T_ n (cell:=c) (m:=m1) hc hN (by omega)
  cases q4
  rw [show m2=m1 from q5] at e
  refine ⟨x,h.add q1 q2 q3,(mZ (i:=2) (s:=jL R ws xs vs (sv (.int c)) (sv (.bl (mk c))) m1) rfl (aF (ts:=[.int c,.lst (ws.map T.str)]) (s':=jL R ws xs vs (sv (.int c)) (sv (.bl (mk c))) m1) rfl e) rfl (by rw [cT];omega)).trans ?_⟩
  rw [ap];rfl
 have NV:∀ xs m,_root_.D.tB (vF 5) (jL R ws xs vs (sv (.int c)) (sv (.bl (mk c))) m)=.ok (mk c,jL R ws xs vs (sv (.int c)) (sv (.bl (mk c))) m):=fun _ _=>rfl
 cases hm:mk c with
 | false=>
  rw [hm] at e1 lin NV
  obtain ⟨x,h1,e2⟩:=lin
  refine ⟨x,vs,m1,seq1 e1 (seq1 (dN (s':=jL R ws xs vs (sv (.int c)) (sv (.bl false)) m1) ?_ e2) (dN (NV _ _) rfl)),h1,rfl⟩
  unfold dw
  rw [NV];rfl
 | true=>
  have hv:=hv hm
  rw [hm] at e1 lin NV
  have ix:∀ xs,oI (vF 1) (fD 3) (jL R ws xs vs (sv (.int c)) (sv (.bl true)) m1)=.ok (.str ws[vs.length],jL R ws xs vs (sv (.int c)) (sv (.bl true)) m1):=fun xs=>by
   refine aD (t:=.lst (ws.map T.str)) (u:=.int ((vs.map T.str).length:Nat)) (s1:=jL R ws xs vs (sv (.int c)) (sv (.bl true)) m1) rfl rfl ?_
   show atT (ws.map T.str) (((vs.map T.str).length:Nat):Int)=_
   rw [cT,p9 (by rw [cT];exact hv),gb,dR hv];rfl
  have ni:_root_.D.aZ (Gh .NotIn true 3 (oI (vF 1) (fD 3))) (jL R ws xs vs (sv (.int c)) (sv (.bl true)) m1)=.ok (!decide (ws[vs.length]∈vs),jL R ws xs vs (sv (.int c)) (sv (.bl true)) m1):=by
   refine j8 ?_
   show xN true 3 (oI (vF 1) (fD 3)) (jL R ws xs vs (sv (.int c)) (sv (.bl true)) m1)=_
   unfold xN
   rw [ix]
   refine Eq.trans (bK _ _) ?_
   show Res.bind (cK (Gb (.str ws[vs.length]) (.lst (vs.map T.str)))) _=_
   rw [ad_];rfl
  have a3:∀ xs,dZ 3 (oI (vF 1) (fD 3)) (jL R ws xs vs (sv (.int c)) (sv (.bl true)) m1)=.ok (.nx,jL R ws xs (vs++[ws[vs.length]]) (sv (.int c)) (sv (.bl true)) m1):=fun xs=>by
   refine (mZ (i:=3) rfl (ix xs) rfl (by rw [cT];omega)).trans ?_
   rw [show vs.map T.str++[T.str ws[vs.length]]=(vs++[ws[vs.length]]).map T.str by rw [oG];rfl];rfl
  by_cases ha:ws[vs.length]∈vs
  ·obtain ⟨x,h1,e2⟩:=lin
   refine ⟨x,vs++[ws[vs.length]],m1,seq1 e1 (seq1 (dN (s':=jL R ws xs vs (sv (.int c)) (sv (.bl true)) m1) (tR (NV _ _) (ni.trans ?_)) e2) (kZ (NV _ _) (a3 _))),h1.old hv ha,by rw [bJ];rfl⟩
   rw [decide_eq_true ha];rfl
  ·have hN1:=hN _ (Bh hv)
   refine ⟨.mark ws[vs.length],vs++[ws[vs.length]],m1,seq1 e1 (seq1 (s':=jL R ws (xs++[.mark ws[vs.length]]) vs (sv (.int c)) (sv (.bl true)) m1) (kZ (s':=jL R ws xs vs (sv (.int c)) (sv (.bl true)) m1) (tR (NV _ _) (ni.trans ?_)) ?_) (kZ (NV _ _) (a3 _))),h.new hv ha hN1,by rw [bJ];rfl⟩
   ·rw [decide_eq_false ha];rfl
   ·refine (mZ (i:=2) (t:=fP (.mark ws[vs.length])) rfl (gH (TE.add (TE.c _) (⟨ix xs,hN1.hl⟩:TE _ _ ws[vs.length] 8)).e (ng rfl) (cJ rfl (ix xs))) rfl (by rw [cT];omega)).trans ?_
    rw [ap];rfl
theorem ou (n:Nat) {R:Option C}{ws:List (List Nat)}(hN:∀ a∈ws,j4 a) (hl:ws.length<=100):∀ (cs:List Int) (xs:List LN) (vs:List (List Nat)) (u v:Option C) (m:List Ob),(∀ c∈cs,Sm c)->LI ws xs vs->vs.length+(cs.filter mk).length=ws.length->xs.length+cs.length<=100->∃ xs' u' v' m',c_ (setG 4) (b61 (cN (n+7))) (cs.map T.int) (jL R ws xs vs u v m)=.ok (.nx,jL R ws xs' ws u' v' m')/\LI ws xs' ws/\xs'.length=xs.length+cs.length
 | [],xs,vs,u,v,m,_,h,e,_=>by
  have e:vs.length+0=ws.length:=e
  have ev:vs=ws:=by rw [h.pre,show vs.length=ws.length by omega,LD]
  subst ev
  exact ⟨xs,u,v,m,rfl,h,rfl⟩
 | c::cs,xs,vs,u,v,m,hc,h,e,hx=>by
  rw [cQ] at hx
  rw [LH] at e
  obtain ⟨x,eA,m',e1,h1,h2⟩:=Ua n (R:=R) (v:=v) (m:=m) (hc c (eE ..)) hN hl (by omega:xs.length<=100) h (fun q=>by rw [q] at e;have e:vs.length+((cs.filter mk).length+1)=ws.length:=e;omega)
  obtain ⟨xs',u',v',m'',e2,h3,h4⟩:=ou n (R:=R) hN hl cs (xs++[x]) eA (sv (.int c)) (sv (.bl (mk c))) m' (fun y hy=>hc y (eZ _ hy)) h1 (by
   rw [h2]
   cases q:mk c with
   | true=>rw [q] at e;have e:vs.length+((cs.filter mk).length+1)=ws.length:=e;show _+1+_=_;omega
   | false=>rw [q] at e;exact e) (by rw [bJ];show _+1+_<=_;omega)
  refine ⟨xs',u',v',m'',dQ (r:=[R,sv (.lst (ws.map T.str)),some (.ol (xs.map fP)),some (.ol (vs.map T.str)),sv (.int c),v]) rfl e1 e2,h3,?_⟩
  rw [h4]
  simp only [bJ,cQ,dm]
  omega
structure LSk (xs:List LN):Prop where
 k:∀ x∈xs,FU x
 nd:(marks xs).Nodup
 go:∀ x∈xs,∀ a,x.jJ=some a->a∈marks xs
theorem La:∀ {xs:List LN},(∀ x∈xs,FU x)->aB (xs.map fP)=true
 | [],_=>rfl
 | x::xs,h=>by
  show (noOwn (fP x)&&aB (xs.map fP))=true
  rw [FW (h x (eE ..)).sh,La fun y hy=>h y (eZ _ hy)];rfl
theorem AN {cs:List Int}(hc:∀ c∈cs,Sm c) (hl:cs.length<=24):∃ xs:List LN,LSk xs/\xs.length=cs.length/\cN (n+8) 61 [.lst (cs.map T.int)] m=.ok (.lst (xs.map fP),m):=by
 rw [w61]
 obtain ⟨ws,h1,h2,em⟩:=K_ (n+3) (cs:=cs) (m:=[]) hc (by omega)
 have hw:ws.length<=100:=by rw [h1];exact gO (BB _ _) (by omega)
 obtain ⟨xs,u,v,m',e,h3,h4⟩:=ou n (R:=sv (.lst (cs.map T.int))) h2 hw cs [] [] none none [] hc ⟨fun _ z=>(nomatch z),LC,fun a=>Iff.rfl,fun _ z=>(nomatch z),rfl⟩ (by rw [h1];exact qB _) (by show 0+_<=_;omega)
 refine ⟨xs,⟨h3.k,h3.nd,fun x hx a ha=>(h3.sub a).mpr (h3.go x hx a ha)⟩,by rw [h4];exact qB _,aT (m':=m') (by show (aB (cs.map T.int)&&true)=true;rw [noI];rfl) (aS (s':=⟨[sv (.lst (cs.map T.int)),sv (.lst (ws.map T.str)),sv (.lst (xs.map fP)),some (.ol (ws.map T.str)),u,v],m'⟩) rfl (seq1 (dB (t:=.lst (ws.map T.str)) (aF (ts:=[.lst (cs.map T.int)]) (s':=⟨[sv (.lst (cs.map T.int)),none,none,none,none,none],[]⟩) rfl em)) (seq1 (s':=⟨[sv (.lst (cs.map T.int)),sv (.lst (ws.map T.str)),some (.ol []),none,none,none],[]⟩) rfl (seq1 (s':=jL (sv (.lst (cs.map T.int))) ws [] [] none none []) rfl (seq1 (mY (ts:=cs.map T.int) (s1:=jL (sv (.lst (cs.map T.int))) ws [] [] none none []) rfl e) rfl)))) rfl) (La h3.k)⟩
theorem aea {x:Int}(h:Sm x):(x+1).natAbs.log2<2000000:=by
 have:=lgM (show (x+1).natAbs<=x.natAbs+1 by omega) (by decide) (lgS h)
 omega
theorem tZ {R:Option C}:∀ (cs ds:List Int) (j:Int) (u v w:Option C),(∀ c∈cs,Sm c)->(∀ c∈ds,Sm c)->ds.length+cs.length<=1000->∃ (Uv:List Int) (u' v' w':Option C),c_ (eG [2,3])
  (ah (aA 4 (oM (a_ (bw .Mult) (oA (vF 3) (cI 1)) (a_ (bw .Pow) (cI 48271) (cI 31))) (oA (a_ (bw .Mult) (a_ (bw .Pow) (cI 10) (cI 64)) (a_ (bw .Pow) (cI 10) (cI 64))) (cI 7))))
 (dZ 1 (oM (oA (a_ (bw .Mult) (vF 4) (vF 4)) (vF 2)) (oA (a_ (bw .Mult) (a_ (bw .Pow) (cI 10) (cI 64)) (a_ (bw .Pow) (cI 10) (cI 63))) (cI 9))))) (fV j (cs.map T.int)) ⟨[R,some (.ol (ds.map T.int)),u,v,w],[]⟩=.ok (.nx,⟨[R,some (.ol (Uv.map T.int)),u',v',w'],[]⟩)/\Uv.length=ds.length+cs.length/\∀ c∈Uv,Sm c
 | [],ds,j,u,v,w,_,hd,_=>⟨ds,u,v,w,rfl,rfl,hd⟩
 | c::cs,ds,j,u,v,w,hc,hd,hl=>by
  rw [cQ] at hl
  have hs:Sm ((gI c*gI c+j) % Pn):=by
   have:=lgP (wF (gI c*gI c+j) (by have:=wy.2.1.1;omega)) (BS (gI c*gI c+j) wy.2.1.1) wy.2.1.2
   show _<1048577
   omega
  obtain ⟨Uv,u',v',w',e,h1,h2⟩:=tZ (R:=R) cs (ds++[(gI c*gI c+j) % Pn]) (j+1) (sv (.int j)) (sv (.int c)) (sv (.int (gI c))) (fun x hx=>hc x (eZ _ hx)) (fun x hx=>by
   rcases f_.mp hx with z | z
   ·exact hd x z
   ·rw [eo.mp z];exact hs) (by rw [bJ];show _+1+_<=_;omega)
  refine ⟨Uv,u',v',w',dQ (r:=[R,some (.ol (ds.map T.int)),sv (.int j),sv (.int c),w]) rfl (s1:=⟨[R,some (.ol ((ds++[(gI c*gI c+j) % Pn]).map T.int)),sv (.int j),sv (.int c),sv (.int (gI c))],[]⟩) (seq1 (dB (t:=.int (gI c)) (s':=⟨[R,some (.ol (ds.map T.int)),sv (.int j),sv (.int c),w],[]⟩) (mxE rfl (aea (hc c (eE ..))))) ?_) e,by rw [h1];simp only [bJ,cQ,dm];omega,h2⟩
  refine (mZ (i:=1) (NG:=ds.map T.int) (ts:=ds.map T.int) (t:=.int ((gI c*gI c+j) % Pn)) (s1:=⟨[R,some (.ol (ds.map T.int)),sv (.int j),sv (.int c),sv (.int (gI c))],[]⟩) rfl (aD (aD (t:=.int (gI c*gI c)) (u:=.int j) (aD (t:=.int (gI c)) (u:=.int (gI c)) rfl rfl (ml (yC _) (yC _))) rfl (AL _ _)) (pnE _) (AK wy.2.1.1)) rfl (by rw [cT];omega)).trans ?_
  rw [oG];rfl
theorem F8 {cs:List Int}(hc:∀ c∈cs,Sm c) (hl:cs.length<=24):∃ ds:List Int,ds.length=cs.length/\(∀ c∈ds,Sm c)/\cN (n+1) 62 [.lst (cs.map T.int)] m=.ok (.lst (ds.map T.int),m):=by
 rw [w62]
 obtain ⟨ds,u,v,w,e,h1,h2⟩:=tZ (R:=sv (.lst (cs.map T.int))) cs [] 0 none none none hc (fun _ z=>(nomatch z)) (by show 0+_<=_;omega)
 exact ⟨ds,by rw [h1];exact qB _,h2,aT (m':=[]) (by show (aB (cs.map T.int)&&true)=true;rw [noI];rfl) (aS (s':=⟨[sv (.lst (cs.map T.int)),sv (.lst (ds.map T.int)),u,v,w],[]⟩) rfl (seq1 (s':=⟨[sv (.lst (cs.map T.int)),some (.ol []),none,none,none],[]⟩) rfl (seq1 (mY (ts:=fV 0 (cs.map T.int)) (s1:=⟨[sv (.lst (cs.map T.int)),some (.ol []),none,none,none],[]⟩) rfl e) rfl)) rfl) (noI ds)⟩
theorem NW {xs:List LN}(h:∀ x∈xs,FU x):noOwn (d_ xs)=true:=by
 show (aB (aW xs)&&true)=true
 rw [dO xs fun x hx=>NH (h x hx).ok (h x hx).fi (n_ (h x hx).sh).1 (n_ (h x hx).sh).2];rfl
abbrev f9 (xs:List LN) (u v:Option C):S:=⟨[sv (d_ xs),sv (.lst (xs.map fP)),u,v],[]⟩
theorem AO {xs:List LN}(h:∀ x∈xs,FU x) (hl:xs.length<=24):cN (n+5) 46 [d_ xs,.lst (xs.map fP)] m=.ok (.bl true,m):=by
 rw [w46]
 have el:∀ u v,aK ba (k1 (vF 1)) (f9 xs u v)=.ok (.int ((xs.map fP).length:Nat),f9 xs u v):=fun _ _=>rfl
 obtain ⟨⟨o,s1⟩,e,rfl,u,v,rfl⟩:=aa3 (gg:=setG 2) (B:=ah (aA 3 (oI (aG M.P.tab 0 (vF 0)) (vF 2)))
 (ah (aQ (gz (bz (_root_.D.tB (bG (cz M.P.sub [1]) (vF 3)))) (bz (_root_.D.tB (ai (cN (n+4) 43) [] (k2 (aG M.P.tab 1 (vF 3)) (oI (oI (vF 1) (vF 2)) (cI 1)))))))
  (ak (cF (.bl false)))
  ao)
 (aQ (bz (_root_.D.tB (ai (cN (n+4) 45) [] (k2 (aG M.P.tab 2 (vF 3)) (oI (oI (vF 1) (vF 2)) (cI 2))))))
  (ak (cF (.bl false)))
  ao))) (I:=fun s=>∃ u v,s=f9 xs u v) (ts:=mF 0 xs.length) (s:=f9 xs none none) (fun t ht s zz=>by
   obtain ⟨u,v,hs⟩:=zz
   obtain ⟨k,hk,rfl⟩:=i9.mp ht
   have hk:=Bb.mp hk
   have hx:=(h _ (Bh hk)).sh
   subst hs
   have i1:oI (vF 1) (vF 2) (f9 xs (sv (.int (0+(k:Nat)))) (sv xs[k].val))=.ok (fP xs[k],f9 xs (sv (.int (0+(k:Nat)))) (sv xs[k].val)):=aD (t:=.lst (xs.map fP)) (u:=.int (0+(k:Nat))) rfl rfl (NL fP hk)
   refine ⟨[sv (d_ xs),sv (.lst (xs.map fP)),sv (.int (0+(k:Nat))),v],rfl,W.of (seq1 (dB (t:=xs[k].val) (s':=f9 xs (sv (.int (0+(k:Nat)))) v) (aD (t:=.lst (aW xs)) (u:=.int (0+(k:Nat))) rfl rfl (NL LN.val hk))) (seq1 (s':=f9 xs (sv (.int (0+(k:Nat)))) (sv xs[k].val)) (dN (s':=f9 xs (sv (.int (0+(k:Nat)))) (sv xs[k].val)) (AF (iW (cH (t:=xs[k].val) rfl rfl)) (iW (TR (aF (ts:=[xs[k].cond,xs[k].K3]) (s':=f9 xs (sv (.int (0+(k:Nat)))) (sv xs[k].val)) (aP (t:=xs[k].cond) rfl (aP (aD i1 rfl rfl) rfl)) (abu n hx))))) rfl) (dN (s':=f9 xs (sv (.int (0+(k:Nat)))) (sv xs[k].val)) (iW (TR (aF (ts:=[xs[k].fY,xs[k].K4]) (s':=f9 xs (sv (.int (0+(k:Nat)))) (sv xs[k].val)) (aP (t:=xs[k].fY) rfl (aP (aD i1 rfl rfl) rfl)) (TX (n+1) hx)))) rfl))) ⟨rfl,_,_,rfl⟩⟩) ⟨none,none,rfl⟩
 have Av:=NW h
 refine aT (m':=[]) (by show (noOwn (d_ xs)&&(aB (xs.map fP)&&true))=true;rw [Av,La h];rfl) (aS (s':=f9 xs u v) rfl (seq1 (s':=f9 xs none none) (dN (s':=f9 xs none none) (AF (s1:=f9 xs none none) (iW (cH (t:=d_ xs) rfl rfl)) (AF (s1:=f9 xs none none) (iW (cH (t:=.lst (aW xs)) rfl rfl)) (j8 (aD (v:=.bl false) (t:=.int ((aW xs).length:Nat)) (u:=.int ((xs.map fP).length:Nat)) (s1:=f9 xs none none) (s2:=f9 xs none none) rfl rfl ?_)))) rfl) (seq1 (mY (ts:=mF 0 xs.length) (s1:=f9 xs none none) (ad5 (ts:=[.int ((xs.map fP).length:Nat)]) rfl ?_) e) rfl)) rfl) rfl
 ·rw [cT,cT];exact abo _
 ·rw [cT]
  exact K7 (by omega) (by omega)
theorem aby (ns:List Int):(bD ns (some 1) (some 25)).length<=24/\∀ c∈bD ns (some 1) (some 25),c∈ns:=by
 unfold bD
 constructor
 ·rw [yE]
  have e1:fm ns.length ns.length (some 25)=min 25 ns.length:=rfl
  have e2:fm ns.length 0 (some 1)=min 1 ns.length:=rfl
  rw [e1,e2]
  omega
 ·exact fun c hc=>List.mem_of_mem_drop (LG hc)
theorem Ub {xs:List LN}(h:∀ x∈xs,FU x) (hl:xs.length<=24):(∀ m,cN (n+1) 30 [.str (qy xs).flatten] m=.ok (.tup [.lst (dG xs),.bl true],m))/\∃ b,∀ m,cN (n+1) 30 [.str (bD (qy xs).flatten none (some (-1)))] m=.ok (.tup [.lst (dG xs),.bl b],m):=by
 by_cases hx:xs=[]
 ·subst hx
  have e:∀ m,cN (n+1) 30 [.str []] m=.ok (.tup [.lst [],.bl true],m):=fun m=>by rw [w30];rfl
  exact ⟨e,true,e⟩
 ·have cW:∀ l∈xs.map LN.sh,l.length<=700:=fun l hl=>by
   obtain ⟨x,hx,rfl⟩:=i9.mp hl
   exact qk (h x hx).ok (h x hx).sh
  have n10:∀ l∈xs.map LN.sh,10 ∉ l:=fun l hl=>by
   obtain ⟨x,hx,rfl⟩:=i9.mp hl
   exact TV (h x hx).ok (h x hx).sh
  have iE:xs.map LN.sh≠[]:=fun z=>hx (Ls.mp z)
  obtain ⟨_,j2⟩:=tW (xs.map LN.sh) 700 cW
  rw [cT] at j2
  rw [<- tU hx,lZ,K5]
  refine ⟨fun m=>KQ n n10 iE (by rw [bJ];show _+1<=_;omega),false,fun m=>?_⟩
  have eg:=List.dropLast_concat_getLast iE
  rw [<- eg] at n10 j2 ⊢
  refine KP n n10 ?_ (by omega)
  obtain ⟨x,_,e⟩:=i9.mp (List.getLast_mem iE)
  rw [<- e]
  exact abt x
abbrev AQ (ns cs:List Int) (a b c d e f:Option C):S:=⟨[sv (.scr ns),sv (.lst (cs.map T.int)),a,b,c,d,e,f],[]⟩
abbrev AR (ns cs:List Int) (xs:List LN) (tx hd:List Nat) (d e f:Option C):S:=AQ ns cs (sv (.lst (xs.map fP))) (sv (.str tx)) (sv (.str hd)) d e f
theorem ix0 (a:Int) (l:List Int):gi (.scr (a::l)) (.int 0)=some (.int a):=by
 show (atT (a::l) 0).map T.int=_
 rw [at0];rfl
theorem cnd {ns:List Int}{r:List (Option C)}{e:FE}{j:Int}(h:∀ a l,ns=a::l->∃ i,e ⟨sv (.scr ns)::r,[]⟩=.ok (.int i,⟨sv (.scr ns)::r,[]⟩)):∃ b,dw (_root_.D.aZ (a_ (aJ .Gt) (aK ba (k1 (vF 0))) (cI 0))) (_root_.D.aZ (oE e (cI j))) ⟨sv (.scr ns)::r,[]⟩=.ok (b,⟨sv (.scr ns)::r,[]⟩):=by
 cases ns with
 | nil=>exact ⟨false,rfl⟩
 | cons a l=>
  obtain ⟨i,e⟩:=h a l rfl
  exact ⟨_,tR (j8 (aD (v:=.bl true) (t:=.int ((a::l).length:Nat)) (u:=.int 0) (s1:=⟨sv (.scr (a::l))::r,[]⟩) (s2:=⟨sv (.scr (a::l))::r,[]⟩) rfl rfl (by rw [sM,decide_eq_true (by rw [cQ];omega)]))) (K1 e)⟩
theorem aeb {f:Fn}{fl:FL}{s s1:S}{ts:List T}{t:T}{i:Nat}(h:fl s=.ok (ts,s1)) (h1:ts.all bq=true) (h2:f ts []=.ok (t,m)) (h3:noOwn t=true):sd i (jZ f fl) s=.ok (.nx,i7 s1 i (.yg t)):=by
 unfold sd jZ
 rw [h]
 show Res.bind (if ts.all bq=true then _ else _) _=_
 rw [if_pos h1,h2]
 dsimp only
 rw [if_pos h3];rfl
theorem yc1 {f:Fn}{is:List Nat}{s:S}{ts:List T}{t:T}(h:xU s is=some ts) (h1:aB ts=true) (h2:f ts []=.ok (t,m)) (h3:bq t=true):Ut f is s=.ok (t,s):=by
 unfold Ut
 rw [h]
 refine Eq.trans (bK _ _) ?_
 rw [if_pos h1,h2]
 dsimp only
 rw [if_pos h3]
theorem Uc {ns:List Int}(h:∀ c∈ns,Sm c):cN (n+16) 63 [.scr ns] m=.ok (.bl true,m):=by
 rw [w63]
 obtain ⟨c1,c2⟩:=aby ns
 have hc0:∀ c∈bD ns (some 1) (some 25),Sm c:=fun c hc=>h c (c2 c hc)
 obtain ⟨ds,d1,d2,em⟩:=F8 (n+14) (m:=[]) hc0 c1
 obtain ⟨b1,eb1⟩:=cnd (ns:=ns) (r:=[sv (.lst ((bD ns (some 1) (some 25)).map T.int)),none,none,none,none,none,none]) (e:=oM (oD (oI (vF 0) (cI 0)) (cI 2)) (cI 2)) (j:=1) (fun a l nG=>by
  subst nG
  exact ⟨_,aD (aD (aD rfl rfl (ix0 a l)) rfl (FH (by decide))) rfl (AK (by decide))⟩)
 obtain ⟨cs,g1,g2,ei⟩:∃ cs:List Int,cs.length<=24/\(∀ c∈cs,Sm c)/\aQ (dw (_root_.D.aZ (a_ (aJ .Gt) (aK ba (k1 (vF 0))) (cI 0))) (_root_.D.aZ (oE (oM (oD (oI (vF 0) (cI 0)) (cI 2)) (cI 2)) (cI 1))))
   (aA 1 (ai (cN (n+15) 62) [] (k1 (vF 1)))) ao (AQ ns (bD ns (some 1) (some 25)) none none none none none none)=.ok (.nx,AQ ns cs none none none none none none):=by
  cases b1 with
  | false=>exact ⟨_,c1,hc0,dN eb1 rfl⟩
  | true=>exact ⟨ds,by omega,d2,kZ eb1 (dB (t:=.lst (ds.map T.int)) (aF (ts:=[.lst ((bD ns (some 1) (some 25)).map T.int)]) (s':=AQ ns (bD ns (some 1) (some 25)) none none none none none none) rfl em))⟩
 obtain ⟨xs,K,cW,el⟩:=AN (n+7) (m:=[]) g2 g1
 have lJ:xs.length<=24:=by omega
 have hos:∀ x∈xs,x.ok/\x.dj:=fun x hx=>⟨(K.k x hx).ok,(K.k x hx).sh⟩
 have hlk:∀ x∈xs,Lk x:=fun x hx=>NH (K.k x hx).ok (K.k x hx).fi (n_ (K.k x hx).sh).1 (n_ (K.k x hx).sh).2
 have Av:=NW K.k
 have hnl:=La K.k
 obtain ⟨t1,b,t2⟩:=Ub (n+13) K.k lJ
 have ej:=join_eq (l:=qy xs) (by have:=qm hos;omega)
 have es:∀ m,cN (n+15) 35 [d_ xs] m=.ok (.str (qy xs).flatten,m):=fun m=>FF (n+5) hos lJ
 have er:∀ m,cN (n+15) 46 [d_ xs,.lst (xs.map fP)] m=.ok (.bl true,m):=fun m=>AO (n+10) K.k lJ
 have e3:∀ r:List (Option C),jB joinM (cS []) (k1 (bP (bj (gZ (vF 2)) 2 [] (setG 1) dg (oA (oI (vF 1) (cI 0)) (cS [10]))))) (AQ ns cs (sv (.lst (xs.map fP))) none none none none none)=.ok (.str (qy xs).flatten,AQ ns cs (sv (.lst (xs.map fP))) none none none none none):=fun r=>by
  have e:bP (bj (gZ (vF 2)) 2 [] (setG 1) dg (oA (oI (vF 1) (cI 0)) (cS [10]))) (AQ ns cs (sv (.lst (xs.map fP))) none none none none none)=.ok (.lst ((qy xs).map T.str),AQ ns cs (sv (.lst (xs.map fP))) none none none none none):=by
   rw [show (qy xs).map T.str=xs.map fun x=>T.str (x.sh++[10]) by unfold qy;rw [kB];rfl]
   refine ie (ic (ts:=xs.map fP) (s1:=AQ ns cs (sv (.lst (xs.map fP))) none none none none none) rfl (by rw [cT];omega) (fZ fP (fun x=>T.str (x.sh++[10])) fun x hx=>⟨[none,sv (fP x)],[none,sv (fP x)],rfl,aD (t:=.str x.sh) (u:=.str [10]) rfl rfl (bA ?_)⟩))
   have:=qk (hos x hx).1 (hos x hx).2
   show _+1<=_
   omega
  simp only [ev,bK,dh,e,ej]
 generalize (qy xs).flatten=tx at t1 t2 ej es e3
 obtain ⟨hd,b',eh,ehd⟩:∃ (hd:List Nat) (b':Bool),(∀ m,cN (n+14) 30 [.str hd] m=.ok (.tup [.lst (dG xs),.bl b'],m))/\aQ (dw (_root_.D.aZ (a_ (aJ .Gt) (aK ba (k1 (vF 0))) (cI 0))) (_root_.D.aZ (oE (oM (oI (vF 0) (cI 0)) (cI 2)) (cI 1))))
   (aA 4 (mU (vF 3) rJ (kJ (bG kI (cI 1))))) ao (AQ ns cs (sv (.lst (xs.map fP))) (sv (.str tx)) (sv (.str tx)) none none none)=.ok (.nx,AR ns cs xs tx hd none none none):=by
  obtain ⟨b2,eb2⟩:=cnd (ns:=ns) (r:=[sv (.lst (cs.map T.int)),sv (.lst (xs.map fP)),sv (.str tx),sv (.str tx),none,none,none]) (e:=oM (oI (vF 0) (cI 0)) (cI 2)) (j:=1) (fun a l nG=>by
   subst nG
   exact ⟨_,aD (aD rfl rfl (ix0 a l)) rfl (AK (by decide))⟩)
  cases b2 with
  | false=>exact ⟨tx,true,t1,dN eb2 rfl⟩
  | true=>exact ⟨_,b,t2,kZ eb2 rfl⟩
 have r1:=fun m=>yo n (m:=m) hlk lJ K.nd K.go eh
 have r2:=fun m=>yo n (m:=m) hlk lJ K.nd K.go t1
 have n2:aB [d_ xs,.lst (xs.map fP)]=true:=by show (noOwn (d_ xs)&&(aB (xs.map fP)&&true))=true;rw [Av,hnl];rfl
 have n1:aB [d_ xs]=true:=by show (noOwn (d_ xs)&&true)=true;rw [Av];rfl
 refine aT (m':=[]) rfl (aS (s':=AR ns cs xs tx hd none (sv (.str tx)) (sv (d_ xs))) rfl (seq1 (s':=AQ ns (bD ns (some 1) (some 25)) none none none none none none) rfl (seq1 ei (seq1 (dB (t:=.lst (xs.map fP)) (aF (ts:=[.lst (cs.map T.int)]) (s':=AQ ns cs none none none none none none) rfl el)) (seq1 (dB (e3 [])) (seq1 (s':=AQ ns cs (sv (.lst (xs.map fP))) (sv (.str tx)) (sv (.str tx)) none none none) rfl (seq1 ehd (seq1 (s':=AR ns cs xs tx hd (some (.yg (d_ xs))) none none) (aeb (ts:=[.str hd]) (s1:=AR ns cs xs tx hd none none none) rfl rfl (r1 []) Av) (seq1 (s':=AR ns cs xs tx hd (some (.yg (d_ xs))) none none) (dN (s':=AR ns cs xs tx hd (some (.yg (d_ xs))) none none) (iW (TR (yc1 rfl n2 (er []) rfl))) rfl) (seq1 (s':=AR ns cs xs tx hd (some (.yg (d_ xs))) (sv (.str tx)) none) (dB (yc1 rfl n1 (es []) rfl)) (seq1 (s':=AR ns cs xs tx hd (some (.yg (d_ xs))) (sv (.str tx)) none) (dN (s':=AR ns cs xs tx hd (some (.yg (d_ xs))) (sv (.str tx)) none) (AF (iW (cH (t:=.str tx) rfl rfl)) (neF (t:=.str tx) (u:=.str tx) rfl rfl (K2 _))) rfl) (seq1 (dB (t:=d_ xs) (aF (ts:=[.str tx]) (s':=AR ns cs xs tx hd (some (.yg (d_ xs))) (sv (.str tx)) none) rfl (r2 []))) (seq1 (s':=AR ns cs xs tx hd none (sv (.str tx)) (sv (d_ xs))) rfl (aV (iD (aF (ts:=[d_ xs,.lst (xs.map fP)]) (s':=AR ns cs xs tx hd none (sv (.str tx)) (sv (d_ xs))) rfl (er [])) (aD (aF (ts:=[d_ xs]) (s':=AR ns cs xs tx hd none (sv (.str tx)) (sv (d_ xs))) rfl (es [])) rfl (FJ _)))))))))))))))) rfl) rfl
end K23
namespace K23
open PySem D L2
variable (n:Nat){m:List _root_.D.Ob}
set_option maxHeartbeats 0
theorem Lb:∀ P,Tq (KH.K P) M Ft It=true:=fun P=>by kernel_rfl
theorem Ld:∀ P,M.cs.all (Kz (KH.K P))=true:=fun P=>by kernel_rfl
theorem Le:∀ P,Ft.map (Ny (KH.K P))=Ft.map fun e=>(Ny (KH.K P) e).map (Tp e):=fun P=>by kernel_rfl
set_option maxHeartbeats 0
def BnL:List Fe->Prop
 | []=>True
 | e::r=>Bn e/\BnL r
theorem NX:∀ {l:List Fe},BnL l->∀ e∈l,Bn e
 | e::r,h,x,hx=>by
  rcases cA.mp hx with z | z
  ·rw [z];exact h.1
  ·exact NX h.2 x z
theorem lz0 {P:List Value->Prop}(h:P []):∀ us:List Value,us.length=0->P us
 | [],_=>h
 | _::_,e=>by cases e
theorem lzS {n:Nat}{P:List Value->Prop}(h:∀ a,∀ us:List Value,us.length=n->P (a::us)):∀ us:List Value,us.length=n+1->P us
 | [],e=>by cases e
 | a::us,e=>h a us (BP.inj e)
theorem lz1 {P:List Value->Prop}(h:∀ a,P [a]):∀ us:List Value,us.length=1->P us:=lzS fun a=>lz0 (h a)
theorem lz2 {P:List Value->Prop}(h:∀ a b,P [a,b]):∀ us:List Value,us.length=2->P us:=lzS fun a=>lz1 (h a)
theorem lz3 {P:List Value->Prop}(h:∀ a b c,P [a,b,c]):∀ us:List Value,us.length=3->P us:=lzS fun a=>lz2 (h a)
theorem lz4 {P:List Value->Prop}(h:∀ a b c d,P [a,b,c,d]):∀ us:List Value,us.length=4->P us:=lzS fun a=>lz3 (h a)
theorem bn:∀ e∈Ft,Bn e:=NX (by
 repeat' first | exact trivial | refine And.intro ?_ ?_ | fail
 all_goals intro _ _ _ _ _ _
 all_goals first | exact lz1 fun _=>rfl | exact lz2 fun _ _=>rfl | exact lz3 fun _ _ _=>rfl | exact lz4 fun _ _ _ _=>rfl | exact lz0 rfl)
end K23
end
open PySem PySem.W PyProof.Rows
set_option maxRecDepth 100000 in
set_option maxHeartbeats 0 in
theorem PySem.Challenge.cw_rowblade_k23_whole_programs_read_holds : PySem.Challenge.rw_rowblade_k23_whole_programs_read.Holds := by
 w_on;o_law
 refine holds_open (q:=KH.vw) (loose:=[]) (Xt:=KH.Xt) (XP:=XL KH.vw []) (Yf:=Hook.obs (kHook KH.K KH.as KH.Uj)) (Ya:=Hook.val (kHook KH.K KH.as KH.Uj)) (YP:=Hook.says (kHook KH.K KH.as KH.Uj)) (N:=18560) KH.left (Hook.of (kHook KH.K KH.as KH.Uj)) (Hook.keeps (kHook KH.K KH.as KH.Uj)) (fun s e=>xl_of s (Bool.and_eq_true_iff.mp e).1) XL.keeps (by rfl) (by rfl) (by rfl) (fun s e=>recFacts_of (Bool.and_eq_true_iff.mp e).2) (by rfl) (by first | assumption | decide +kernel) (by decide +kernel) ⟨rfl,rfl,rfl,rfl,rfl,by decide +kernel⟩ ?hw ?hc
 (case hw=>w_witness2)
 k_fill
 refine _root_.D.aaV (l:=PySem.Challenge.rw_rowblade_k23_whole_programs_read) (m:=63) (n:=16) (K:=KH.K) (M:=K23.M) (Ft:=K23.Ft) (It:=K23.It) (i:=63) rfl (by decide) rfl ⟨rfl,by decide,by decide⟩ (fun w h Y=>PySem.W.kIn_of Y) rfl rfl rfl rfl (fun P=>⟨⟨K23.Lb P,K23.Le P,K23.bn⟩,K23.Ld P⟩) fun ns _ hb=>⟨[],K23.Uc 0 hb⟩
